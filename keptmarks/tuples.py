"""Tuples with an item changed."""


def with_item(items, place, item):
    """Return the tuple with another item at a place."""
    return items[:place] + (item,) + items[place + 1:]
