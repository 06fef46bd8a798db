"""Keptmarks: which ways of marking kept values lose no change."""
