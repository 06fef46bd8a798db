import PyProof.Rows.All
import HandS.ForMost
import HandS.Deep
import HandS.TupMul
import HandS.TupAny
import HandS.IsInst
import HandS.Style
import HandS.Wide
import HandS.More
import HandS.Ends
import HandS.Words
import KE.GoesEnum
import HandS.Zip
import HandS.FStr
import HandS.StrMore
import HandS.RaiseMore
import PyProof.Rows.Lemmas
import HandS.ExcCtx
import HandS.ExcInit
import KE.KExcSuper
import HandS.ExcIs
import KE.KExcLine
import HandS.Rev
import HandS.Strs
import PyProof.EqKinds
import HandS.Flt
import PySem.Challenge.RW_keptmarks_k46_whole_situations_in_which
set_option Elab.async false
set_option linter.all false
set_option maxRecDepth 100000
/-! Lt1: plain values and stores, how they lie in the abstract heap; readings over them. -/
namespace Lt
open PySem PySem.Spec PyProof.Rows L2

/-- where the modules lie, in the heap that stands below -/
def SM (base : Heap) : Prop := ∃ mm, base.Ns sysModules mm
/-- a plain value: tuples by value, lists and dicts by their number in the store -/
inductive PV where
  | non | bl (b : Bool) | int (i : Int) | str (x : Str) | tup (xs : List PV) | ref (n : Nat) | ty (n : String)
/-- what the store holds -/
inductive Cell where
  | lst (xs : List PV)
  | ro (xs : List PV)
  | dic (kvs : List (Key × PV))
abbrev Store := List Cell
abbrev PEnv := List (Option PV)
abbrev LSt := L2.St

section
variable (K : PySem.W.Frag) (ι : List Addr) (H : Hp)
mutual
inductive RV : PV → V → Prop
  | non : RV .non .non
  | bl (b : Bool) : RV (.bl b) (.bl b)
  | int (i : Int) : RV (.int i) (.int i)
  | str (x : Str) : RV (.str x) (.str x)
  | ty (n : String) (h : n ≠ "!") : RV (.ty n) (.ty n)
  | tup {xs : List PV} {a : Addr} {us : List V} : SqT K H a us → RVs xs us → RV (.tup xs) (.ref a)
  | ref {n : Nat} {a : Addr} : ι[n]? = some a → RV (.ref n) (.ref a)
inductive RVs : List PV → List V → Prop
  | nil : RVs [] []
  | cons {x : PV} {v : V} {xs : List PV} {vs : List V} : RV x v → RVs xs vs → RVs (x :: xs) (v :: vs)
end
/-- a list that may only be read: locked, or of the module -/
def RoL (a : Addr) (us : List V) : Prop :=
  (∃ o, H a = some (.frz o (.lst us))) ∨
    ∃ (o : Obj) (its : Array Value) (n : Nat), K.lookup a = some o ∧ o.cls = .type "list" ∧ o.dict = none ∧ o.data = .seq its n ∧ its.size ≤ sizeLine ∧ Vals us its.toList
inductive RKs : List (Key × PV) → List (Key × V) → Prop
  | nil : RKs [] []
  | cons {k : Key} {x : PV} {v : V} {xs : List (Key × PV)} {vs : List (Key × V)} : RV K ι H x v → RKs xs vs → RKs ((k, x) :: xs) ((k, v) :: vs)
def CellOk (a : Addr) : Cell → Prop
  | .lst xs => ∃ us, H a = some (.lst us) ∧ RVs K ι H xs us
  | .ro xs => ∃ us, RoL K H a us ∧ RVs K ι H xs us
  | .dic kvs => ∃ us, H a = some (.dK us) ∧ RKs K ι H kvs us
def Cell.mut : Cell → Bool
  | .ro _ => false
  | _ => true
/-- the store as it lies in the heap -/
structure RS (S : Store) : Prop where
  len : ι.length = S.length
  at_ : ∀ (n : Nat) (c : Cell), S[n]? = some c → ∃ a, ι[n]? = some a ∧ CellOk K ι H a c
  inj : ∀ (n m : Nat) (c d : Cell) (a : Addr), S[n]? = some c → S[m]? = some d → c.mut = true → d.mut = true → ι[n]? = some a → ι[m]? = some a → n = m
/-- the frame's values -/
structure REnv (env : PEnv) (σ : LSt) : Prop where
  len : env.length = σ.length
  at_ : ∀ (i : Nat) (x : PV), env[i]? = some (some x) → ∃ v, σ[i]? = some (some v) ∧ RV K ι H x v
end

/-- what may have come since -/
structure Ext (ι ι' : List Addr) (H H' : Hp) : Prop where
  pre : ∀ (n : Nat) (a : Addr), ι[n]? = some a → ι'[n]? = some a
  tup : ∀ a us, Rd H a (.tup us) → Rd H' a (.tup us)
theorem Ext.refl {ι : List Addr} {H : Hp} : Ext ι ι H H := ⟨fun _ _ h => h, fun _ _ h => h⟩
theorem Ext.trans {ι1 ι2 ι3 : List Addr} {H1 H2 H3 : Hp} (a : Ext ι1 ι2 H1 H2) (b : Ext ι2 ι3 H2 H3) : Ext ι1 ι3 H1 H3 :=
  ⟨fun n x h => b.pre n x (a.pre n x h), fun x us h => b.tup x us (a.tup x us h)⟩

section
variable {K : PySem.W.Frag} {ι ι' : List Addr} {H H' : Hp}
theorem Ext.sqT (e : Ext ι ι' H H') {a : Addr} {us : List V} (h : SqT K H a us) : SqT K H' a us := by
  rcases h with h | h
  · exact .inl (e.tup a us h)
  · exact .inr h
mutual
theorem RV.mono (e : Ext ι ι' H H') : ∀ {x : PV} {v : V}, RV K ι H x v → RV K ι' H' x v
  | _, _, .non => .non
  | _, _, .bl b => .bl b
  | _, _, .int i => .int i
  | _, _, .str x => .str x
  | _, _, .ty n h => .ty n h
  | _, _, .tup s r => .tup (e.sqT s) (RVs.mono e r)
  | _, _, .ref h => .ref (e.pre _ _ h)
theorem RVs.mono (e : Ext ι ι' H H') : ∀ {xs : List PV} {vs : List V}, RVs K ι H xs vs → RVs K ι' H' xs vs
  | _, _, .nil => .nil
  | _, _, .cons r t => .cons (RV.mono e r) (RVs.mono e t)
end
theorem RKs.mono (e : Ext ι ι' H H') : ∀ {xs : List (Key × PV)} {vs : List (Key × V)}, RKs K ι H xs vs → RKs K ι' H' xs vs
  | _, _, .nil => .nil
  | _, _, .cons r t => .cons (r.mono e) (RKs.mono e t)
theorem REnv.mono (e : Ext ι ι' H H') {env : PEnv} {σ : LSt} (h : REnv K ι H env σ) : REnv K ι' H' env σ :=
  ⟨h.len, fun i x hx => let ⟨v, h1, h2⟩ := h.at_ i x hx; ⟨v, h1, h2.mono e⟩⟩

theorem RVs.length : ∀ {xs : List PV} {vs : List V}, RVs K ι H xs vs → xs.length = vs.length
  | _, _, .nil => rfl
  | _, _, .cons _ t => congrArg (· + 1) (RVs.length t)
theorem RVs.get : ∀ {xs : List PV} {vs : List V} {i : Nat} {x : PV}, RVs K ι H xs vs → xs[i]? = some x → ∃ v, vs[i]? = some v ∧ RV K ι H x v
  | _, _, _, _, .nil, e => by simp at e
  | _, _, 0, _, .cons r _, e => by simp at e; subst e; exact ⟨_, rfl, r⟩
  | _, _, i + 1, x, .cons _ t, e => by
    obtain ⟨v, h1, h2⟩ := RVs.get (i := i) (x := x) t (by simpa using e)
    exact ⟨v, by simpa using h1, h2⟩
theorem RVs.get' : ∀ {xs : List PV} {vs : List V} {i : Nat} {v : V}, RVs K ι H xs vs → vs[i]? = some v → ∃ x, xs[i]? = some x ∧ RV K ι H x v
  | _, _, _, _, .nil, e => by simp at e
  | _, _, 0, _, .cons r _, e => by simp at e; subst e; exact ⟨_, rfl, r⟩
  | _, _, i + 1, v, .cons _ t, e => by
    obtain ⟨x, h1, h2⟩ := RVs.get' (i := i) (v := v) t (by simpa using e)
    exact ⟨x, by simpa using h1, h2⟩
theorem RVs.append : ∀ {xs ys : List PV} {vs us : List V}, RVs K ι H xs vs → RVs K ι H ys us → RVs K ι H (xs ++ ys) (vs ++ us)
  | _, _, _, _, .nil, s => s
  | _, _, _, _, .cons r t, s => .cons r (RVs.append t s)
theorem RVs.take : ∀ {xs : List PV} {vs : List V} (n : Nat), RVs K ι H xs vs → RVs K ι H (xs.take n) (vs.take n)
  | _, _, 0, _ => .nil
  | _, _, _ + 1, .nil => .nil
  | _, _, n + 1, .cons r t => .cons r (RVs.take n t)
theorem RVs.drop : ∀ {xs : List PV} {vs : List V} (n : Nat), RVs K ι H xs vs → RVs K ι H (xs.drop n) (vs.drop n)
  | _, _, 0, r => r
  | _, _, _ + 1, .nil => .nil
  | _, _, n + 1, .cons _ t => RVs.drop n t
theorem RVs.set {x : PV} {v : V} (r : RV K ι H x v) : ∀ {xs : List PV} {vs : List V} (i : Nat), RVs K ι H xs vs → RVs K ι H (xs.set i x) (vs.set i v)
  | _, _, _, .nil => .nil
  | _, _, 0, .cons _ t => .cons r t
  | _, _, i + 1, .cons q t => .cons q (RVs.set r i t)
theorem RVs.eraseIdx : ∀ {xs : List PV} {vs : List V} (i : Nat), RVs K ι H xs vs → RVs K ι H (xs.eraseIdx i) (vs.eraseIdx i)
  | _, _, _, .nil => .nil
  | _, _, 0, .cons _ t => t
  | _, _, i + 1, .cons q t => .cons q (RVs.eraseIdx i t)
theorem RVs.snoc {xs : List PV} {vs : List V} {x : PV} {v : V} (h : RVs K ι H xs vs) (r : RV K ι H x v) : RVs K ι H (xs ++ [x]) (vs ++ [v]) := h.append (.cons r .nil)
theorem RVs.dropLast {xs : List PV} {vs : List V} (h : RVs K ι H xs vs) : RVs K ι H xs.dropLast vs.dropLast := by
  rw [List.dropLast_eq_take, List.dropLast_eq_take, h.length]
  exact h.take _
theorem RVs.rep {xs : List PV} {vs : List V} (h : RVs K ι H xs vs) : ∀ k : Nat, RVs K ι H (List.replicate k xs).flatten (List.replicate k vs).flatten
  | 0 => .nil
  | k + 1 => by
    rw [List.replicate_succ, List.replicate_succ, List.flatten_cons, List.flatten_cons]
    exact h.append (RVs.rep h k)

/-! ### a new object, a written object -/
theorem rd_new {p : Addr} {o : HO} (hp : H p = none) {a : Addr} {u : HO} (h : Rd H a u) : Rd (upd H p o) a u := by
  rcases h with h | ⟨ob, h⟩
  · exact .inl (by rw [upd_ne (ne_of_none h hp)]; exact h)
  · exact .inr ⟨ob, by rw [upd_ne (ne_of_none h hp)]; exact h⟩
theorem ext_new {p : Addr} {o : HO} {l : List Addr} (hp : H p = none) : Ext ι (ι ++ l) H (upd H p o) :=
  ⟨fun n a h => by rw [List.getElem?_append_left (List.getElem?_eq_some_iff.mp h).1]; exact h, fun a us h => rd_new hp h⟩
theorem RoL.new {p : Addr} {o : HO} (hp : H p = none) {a : Addr} {us : List V} (h : RoL K H a us) : RoL K (upd H p o) a us := by
  rcases h with ⟨ob, h⟩ | h
  · exact .inl ⟨ob, by rw [upd_ne (ne_of_none h hp)]; exact h⟩
  · exact .inr h
theorem CellOk.new {p : Addr} {o : HO} {l : List Addr} (hp : H p = none) {a : Addr} {c : Cell} (h : CellOk K ι H a c) : CellOk K (ι ++ l) (upd H p o) a c := by
  cases c with
  | lst xs => obtain ⟨us, h1, h2⟩ := h; exact ⟨us, by rw [upd_ne (ne_of_none h1 hp)]; exact h1, h2.mono (ext_new hp)⟩
  | ro xs => obtain ⟨us, h1, h2⟩ := h; exact ⟨us, h1.new hp, h2.mono (ext_new hp)⟩
  | dic xs => obtain ⟨us, h1, h2⟩ := h; exact ⟨us, by rw [upd_ne (ne_of_none h1 hp)]; exact h1, h2.mono (ext_new hp)⟩
theorem CellOk.tracked {a : Addr} {c : Cell} (h : CellOk K ι H a c) (m : c.mut = true) : ∃ o, H a = some o ∧ (∀ us, o ≠ .tup us) ∧ ∀ ob u, o ≠ .frz ob u := by
  cases c with
  | lst xs => obtain ⟨us, h1, _⟩ := h; exact ⟨_, h1, (fun _ z => by cases z), (fun _ _ z => by cases z)⟩
  | ro xs => cases m
  | dic xs => obtain ⟨us, h1, _⟩ := h; exact ⟨_, h1, (fun _ z => by cases z), (fun _ _ z => by cases z)⟩
/-- a tuple is laid: the store stays -/
theorem RS.tup {S : Store} {p : Addr} {o : HO} (h : RS K ι H S) (hp : H p = none) : RS K ι (upd H p o) S := by
  refine ⟨h.len, fun n c hc => ?_, h.inj⟩
  obtain ⟨a, h1, h2⟩ := h.at_ n c hc
  have := h2.new (o := o) (l := []) hp
  rw [List.append_nil] at this
  exact ⟨a, h1, this⟩
/-- a cell is laid -/
theorem RS.cell {S : Store} {p : Addr} {o : HO} {c : Cell} (h : RS K ι H S) (hp : H p = none) (hc : CellOk K (ι ++ [p]) (upd H p o) p c) : RS K (ι ++ [p]) (upd H p o) (S ++ [c]) := by
  refine ⟨by rw [List.length_append, List.length_append, h.len]; rfl, fun n d hd => ?_, fun n m c1 d1 a hn hm m1 m2 an am => ?_⟩
  · by_cases hl : n < S.length
    · rw [List.getElem?_append_left hl] at hd
      obtain ⟨a, h1, h2⟩ := h.at_ n d hd
      exact ⟨a, by rw [List.getElem?_append_left (by rw [h.len]; exact hl)]; exact h1, h2.new hp⟩
    · have e : n = S.length := by
        have := (List.getElem?_eq_some_iff.mp hd).1
        rw [List.length_append] at this
        simp at this
        omega
      subst e
      rw [List.getElem?_append_right (Nat.le_refl _), Nat.sub_self] at hd
      have : c = d := by simpa using hd
      subst this
      exact ⟨p, by rw [← h.len, List.getElem?_append_right (Nat.le_refl _), Nat.sub_self]; rfl, hc⟩
  · have key : ∀ (i : Nat) (e : Cell), (S ++ [c])[i]? = some e → e.mut = true → (ι ++ [p])[i]? = some a → (i < S.length ∧ S[i]? = some e ∧ ι[i]? = some a) ∨ (i = S.length ∧ a = p) := by
      intro i e he hm' ha
      by_cases hl : i < S.length
      · rw [List.getElem?_append_left hl] at he
        rw [List.getElem?_append_left (by rw [h.len]; exact hl)] at ha
        exact .inl ⟨hl, he, ha⟩
      · have e' : i = S.length := by
          have := (List.getElem?_eq_some_iff.mp he).1
          rw [List.length_append] at this
          simp at this
          omega
        subst e'
        rw [← h.len, List.getElem?_append_right (Nat.le_refl _), Nat.sub_self] at ha
        exact .inr ⟨rfl, by simpa using ha.symm⟩
    have clash : ∀ (i : Nat) (e : Cell), S[i]? = some e → e.mut = true → ι[i]? = some a → a ≠ p := by
      intro i e he hm' ha
      obtain ⟨a', h1, h2⟩ := h.at_ i e he
      rw [ha] at h1; cases h1
      obtain ⟨o', ho, _⟩ := h2.tracked hm'
      exact ne_of_none ho hp
    rcases key n c1 hn m1 an with ⟨_, q1, q2⟩ | ⟨q1, q2⟩
    · rcases key m d1 hm m2 am with ⟨_, r1, r2⟩ | ⟨r1, r2⟩
      · exact h.inj n m c1 d1 a q1 r1 m1 m2 q2 r2
      · exact absurd r2 (clash n c1 q1 m1 q2)
    · rcases key m d1 hm m2 am with ⟨_, r1, r2⟩ | ⟨r1, r2⟩
      · exact absurd q2 (clash m d1 r1 m2 r2)
      · rw [q1, r1]
/-- a written object is no tuple: values stay -/
theorem ext_upd {a : Addr} {o o' : HO} (ha : H a = some o) (h1 : ∀ us, o ≠ .tup us) (h2 : ∀ ob u, o ≠ .frz ob u) : Ext ι ι H (upd H a o') := by
  refine ⟨fun _ _ h => h, fun b us h => ?_⟩
  rcases h with h | ⟨ob, h⟩
  · exact .inl (by rw [upd_ne (fun z => by subst z; rw [ha] at h; exact h1 us (Option.some.inj h))]; exact h)
  · exact .inr ⟨ob, by rw [upd_ne (fun z => by subst z; rw [ha] at h; exact h2 _ _ (Option.some.inj h))]; exact h⟩
/-- the cell n is written -/
theorem RS.write {S : Store} {n : Nat} {a : Addr} {c c' : Cell} {o' : HO} (h : RS K ι H S) (hn : S[n]? = some c) (ha : ι[n]? = some a) (hm : c.mut = true) (hm' : c'.mut = true)
    (hc : Ext ι ι H (upd H a o') → CellOk K ι (upd H a o') a c') : RS K ι (upd H a o') (S.set n c') ∧ Ext ι ι H (upd H a o') := by
  obtain ⟨a', h1, h2⟩ := h.at_ n c hn
  rw [ha] at h1; cases h1
  obtain ⟨o, ho, ht, hf⟩ := h2.tracked hm
  have E : Ext ι ι H (upd H a o') := ext_upd ho ht hf
  have hnl : n < S.length := (List.getElem?_eq_some_iff.mp hn).1
  refine ⟨⟨by rw [List.length_set]; exact h.len, fun m d hd => ?_, fun m1 m2 d1 d2 b e1 e2 q1 q2 b1 b2 => ?_⟩, E⟩
  · by_cases hmn : m = n
    · subst hmn
      rw [List.getElem?_set_self hnl] at hd
      cases hd
      exact ⟨a, ha, hc E⟩
    · rw [List.getElem?_set_ne (Ne.symm hmn)] at hd
      obtain ⟨b, b1, b2⟩ := h.at_ m d hd
      refine ⟨b, b1, ?_⟩
      have neb : d.mut = true → b ≠ a := fun dm z => by
        subst z
        exact hmn (h.inj m n d c b hd hn dm hm b1 ha)
      cases d with
      | lst xs => obtain ⟨us, u1, u2⟩ := b2; exact ⟨us, by rw [upd_ne (neb rfl)]; exact u1, u2.mono E⟩
      | dic xs => obtain ⟨us, u1, u2⟩ := b2; exact ⟨us, by rw [upd_ne (neb rfl)]; exact u1, u2.mono E⟩
      | ro xs =>
        obtain ⟨us, u1, u2⟩ := b2
        refine ⟨us, ?_, u2.mono E⟩
        rcases u1 with ⟨ob, u1⟩ | u1
        · exact .inl ⟨ob, by rw [upd_ne (fun z => by subst z; rw [ho] at u1; exact hf _ _ (Option.some.inj u1))]; exact u1⟩
        · exact .inr u1
  · have kind : ∀ (m : Nat) (d : Cell), (S.set n c')[m]? = some d → d.mut = true → ∃ d', S[m]? = some d' ∧ d'.mut = true := fun m d e q => by
      by_cases hmn : m = n
      · subst hmn; exact ⟨c, hn, hm⟩
      · rw [List.getElem?_set_ne (Ne.symm hmn)] at e
        exact ⟨d, e, q⟩
    obtain ⟨d1', f1, g1⟩ := kind m1 d1 e1 q1
    obtain ⟨d2', f2, g2⟩ := kind m2 d2 e2 q2
    exact h.inj m1 m2 d1' d2' b f1 f2 g1 g2 b1 b2
/-- a list of the store, to be read -/
def Cell.items : Cell → Option (List PV)
  | .lst xs => some xs
  | .ro xs => some xs
  | .dic _ => none
theorem RS.seq {S : Store} {n : Nat} {c : Cell} {xs : List PV} (h : RS K ι H S) (hn : S[n]? = some c) (hx : c.items = some xs) : ∃ a us, ι[n]? = some a ∧ SqL K H a us ∧ RVs K ι H xs us := by
  obtain ⟨a, h1, h2⟩ := h.at_ n c hn
  cases c with
  | lst ys => cases hx; obtain ⟨us, u1, u2⟩ := h2; exact ⟨a, us, h1, SqL.of u1, u2⟩
  | ro ys =>
    cases hx
    obtain ⟨us, u1, u2⟩ := h2
    refine ⟨a, us, h1, ?_, u2⟩
    rcases u1 with ⟨ob, u1⟩ | u1
    · exact .inl (.inr ⟨ob, u1⟩)
    · exact .inr u1
  | dic ys => cases hx
theorem RS.lst {S : Store} {n : Nat} {xs : List PV} (h : RS K ι H S) (hn : S[n]? = some (.lst xs)) : ∃ a us, ι[n]? = some a ∧ H a = some (.lst us) ∧ RVs K ι H xs us := by
  obtain ⟨a, h1, us, u1, u2⟩ := h.at_ n _ hn
  exact ⟨a, us, h1, u1, u2⟩
theorem RS.dic {S : Store} {n : Nat} {xs : List (Key × PV)} (h : RS K ι H S) (hn : S[n]? = some (.dic xs)) : ∃ a us, ι[n]? = some a ∧ H a = some (.dK us) ∧ RKs K ι H xs us := by
  obtain ⟨a, h1, us, u1, u2⟩ := h.at_ n _ hn
  exact ⟨a, us, h1, u1, u2⟩
end

/-! ### readings -/
abbrev PQ := PV → Store → Prop
abbrev W := PEnv → Store → PQ → Prop
/-- what is wanted of a plain end -/
def Fin (K : PySem.W.Frag) (ι : List Addr) (H : Hp) (Q : VK) (x : PV) (S' : Store) : Prop := ∀ ι' H' v, Ext ι ι' H H' → RS K ι' H' S' → RV K ι' H' x v → Q v H'
theorem Fin.ext {K : PySem.W.Frag} {ι ι1 : List Addr} {H H1 : Hp} {Q : VK} {x : PV} {S' : Store} (e : Ext ι ι1 H H1) (h : Fin K ι H Q x S') : Fin K ι1 H1 Q x S' := fun ι' H' v e' => h ι' H' v (e.trans e')
/-- the reading of a plain one -/
def tW (K : PySem.W.Frag) (w : W) : TE := fun σ H Q => ∃ ι env S, ∃ P : PQ, REnv K ι H env σ ∧ RS K ι H S ∧ w env S P ∧ ∀ x S', P x S' → Fin K ι H Q x S'
structure RE (X : Cx) (e : Expr) (w : W) : Prop where
  pe : PE X e (tW X.K w)
theorem PE.weak {X : Cx} {e : Expr} {t t' : TE} (h : PE X e t) (i : ∀ σ H Q, t' σ H Q → t σ H Q) : PE X e t' := ⟨fun pins s σ H Q I q => h.run pins s σ H Q I (i σ H Q q)⟩
/-- a plain thing goes on with a value -/
def tK (K : PySem.W.Frag) (k : PV → W) (v : V) : LSt → Hp → VK → Prop := fun σ H Q => ∃ ι env S x, ∃ P : PQ, REnv K ι H env σ ∧ RS K ι H S ∧ RV K ι H x v ∧ k x env S P ∧ ∀ x S', P x S' → Fin K ι H Q x S'
def tK2 (K : PySem.W.Frag) (k : PV → PV → W) (v u : V) : LSt → Hp → VK → Prop := fun σ H Q => ∃ ι env S x y, ∃ P : PQ, REnv K ι H env σ ∧ RS K ι H S ∧ RV K ι H x v ∧ RV K ι H y u ∧ k x y env S P ∧ ∀ x S', P x S' → Fin K ι H Q x S'
section
variable {K : PySem.W.Frag} {σ : LSt} {H : Hp} {Q : VK}
theorem tW_bind {wa : W} {k : PV → W} (h : tW K (fun env S P => wa env S fun x S1 => k x env S1 P) σ H Q) : tW K wa σ H fun v H1 => tK K k v σ H1 Q := by
  obtain ⟨ι, env, S, P, re, rs, hw, hP⟩ := h
  exact ⟨ι, env, S, _, re, rs, hw, fun x S1 hk ι1 H1 v e1 rs1 rx => ⟨ι1, env, S1, x, P, re.mono e1, rs1, rx, hk, fun y S' hy => (hP y S' hy).ext e1⟩⟩
theorem tK_bind {wb : W} {v : V} {k : PV → PV → W} (h : tK K (fun x env S P => wb env S fun y S1 => k x y env S1 P) v σ H Q) : tW K wb σ H fun u H1 => tK2 K k v u σ H1 Q := by
  obtain ⟨ι, env, S, x, P, re, rs, rx, hw, hP⟩ := h
  exact ⟨ι, env, S, _, re, rs, hw, fun y S1 hk ι1 H1 u e1 rs1 ry => ⟨ι1, env, S1, x, y, P, re.mono e1, rs1, rx.mono e1, ry, hk, fun z S' hz => (hP z S' hz).ext e1⟩⟩
end
/-- a reckoned end -/
def opt (r : Option (PV × Store)) (Q : PQ) : Prop := match r with
  | some (x, S) => Q x S
  | none => False
end Lt
set_option Elab.async false
set_option linter.all false
set_option maxRecDepth 100000
/-! Lt2: expressions. -/
namespace Lt
open PySem PySem.Spec PyProof.Rows L2

section
variable {K : PySem.W.Frag} {σ : LSt} {H : Hp} {Q : VK}
theorem tW_imp {w : W} {Q' : VK} (h : tW K w σ H Q) (i : ∀ v H1, Q v H1 → Q' v H1) : tW K w σ H Q' := by
  obtain ⟨ι, env, S, P, re, rs, hw, hP⟩ := h
  exact ⟨ι, env, S, P, re, rs, hw, fun x S' hx ι' H' v e r q => i v H' (hP x S' hx ι' H' v e r q)⟩
end

/-! ### argument lists -/
abbrev WA := PEnv → Store → (List PV → Store → Prop) → Prop
def FinA (K : PySem.W.Frag) (ι : List Addr) (H : Hp) (Q : List V → Hp → Prop) (xs : List PV) (S' : Store) : Prop := ∀ ι' H' vs, Ext ι ι' H H' → RS K ι' H' S' → RVs K ι' H' xs vs → Q vs H'
theorem FinA.ext {K : PySem.W.Frag} {ι ι1 : List Addr} {H H1 : Hp} {Q : List V → Hp → Prop} {xs : List PV} {S' : Store} (e : Ext ι ι1 H H1) (h : FinA K ι H Q xs S') : FinA K ι1 H1 Q xs S' := fun ι' H' vs e' => h ι' H' vs (e.trans e')
def tWA (K : PySem.W.Frag) (w : WA) : TA := fun σ H Q => ∃ ι env S, ∃ P : List PV → Store → Prop, REnv K ι H env σ ∧ RS K ι H S ∧ w env S P ∧ ∀ xs S', P xs S' → FinA K ι H Q xs S'
structure RA (X : Cx) (es : List Expr) (w : WA) : Prop where
  pa : PA X es (tWA X.K w)
theorem PA.weak {X : Cx} {es : List Expr} {t t' : TA} (h : PA X es t) (i : ∀ σ H Q, t' σ H Q → t σ H Q) : PA X es t' := ⟨fun pos pins s σ H Q I q => h.run pos pins s σ H Q I (i σ H Q q)⟩
def wNil : WA := fun _ S P => P [] S
def wCons (w : W) (r : WA) : WA := fun env S P => w env S fun x S1 => r env S1 fun xs S2 => P (x :: xs) S2
theorem ra_nil {X : Cx} : RA X [] wNil := ⟨PA.weak pa_nil fun σ H Q ⟨ι, env, S, P, re, rs, hw, hP⟩ => hP [] S hw ι H [] .refl rs .nil⟩
theorem ra_cons {X : Cx} {e : Expr} {es : List Expr} {w : W} {r : WA} (h : RE X e w) (hr : RA X es r) (hs : starEach (e :: es) X.env = (false, eval e X.env) :: starEach es X.env := by rfl) : RA X (e :: es) (wCons w r) := by
  refine ⟨PA.weak (pa_cons h.pe hr.pa hs) fun σ H Q ⟨ι, env, S, P, re, rs, hw, hP⟩ => ?_⟩
  refine ⟨ι, env, S, _, re, rs, hw, fun x S1 hk ι1 H1 v e1 rs1 rx => ⟨ι1, env, S1, _, re.mono e1, rs1, hk, fun xs S2 hx ι2 H2 vs e2 rs2 rxs => ?_⟩⟩
  exact hP _ _ hx ι2 H2 _ (e1.trans e2) rs2 (.cons (rx.mono e2) rxs)

/-! ### names, constants -/
def wVar (i : Nat) : W := fun env S P => match env[i]? with
  | some (some x) => P x S
  | _ => False
theorem re_var {X : Cx} (i : Nat) {x : Str} {pos : Pos} (hN : X.N[i]? = some x := by rfl) (hv : Vis X.env.scope x := by first | exact Or.inl rfl | exact Or.inr (Or.inl rfl) | exact Or.inr (Or.inr rfl))
    (hd : (x == ("__debug__" : Str)) = false := by decide) (hcd : (x == ("__classdict__" : Str)) = false := by decide) : RE X (.Name x pos) (wVar i) := by
  refine ⟨PE.weak (pe_var hN hv hd hcd) fun σ H Q ⟨ι, env, S, P, re, rs, hw, hP⟩ => ?_⟩
  unfold wVar at hw
  split at hw
  · rename_i x hx
    obtain ⟨v, h1, h2⟩ := re.at_ i x hx
    exact ⟨v, h1, hP _ _ hw ι H v .refl rs h2⟩
  · exact hw.elim
def wC (x : PV) : W := fun _ S P => P x S
theorem re_c {X : Cx} {e : Expr} {x : PV} {v : V} (h : PE X e (tC v)) (r : ∀ ι H, RV X.K ι H x v) : RE X e (wC x) :=
  ⟨PE.weak h fun σ H Q ⟨ι, env, S, P, re, rs, hw, hP⟩ => hP _ _ hw ι H v .refl rs (r ι H)⟩
theorem re_int {X : Cx} {i j pos} : RE X (.Constant (.int i) j pos) (wC (.int i)) := re_c pe_int fun _ _ => .int i
theorem re_bl {X : Cx} {b j pos} : RE X (.Constant (.bool b) j pos) (wC (.bl b)) := re_c pe_bl fun _ _ => .bl b
theorem re_non {X : Cx} {j pos} : RE X (.Constant .none j pos) (wC .non) := re_c pe_non fun _ _ => .non
theorem re_str {X : Cx} {x j pos} : RE X (.Constant (.str x) j pos) (wC (.str x)) := re_c pe_str fun _ _ => .str x
/-- a module's value that never changes -/
structure GC (X : Cx) (x : Str) (c : PV) : Prop where
  ex : ∃ u v, X.mg x = some u ∧ RelV v u ∧ ∀ ι H, RV X.K ι H c v
theorem re_glob {X : Cx} {x : Str} {pos : Pos} {c : PV} (g : GC X x c) (hg : Gl X x) (hd : (x == ("__debug__" : Str)) = false := by decide) : RE X (.Name x pos) (wC c) := by
  obtain ⟨u, v, h1, h2, h3⟩ := g.ex
  exact re_c (pe_glob hg h1 h2 hd) h3

/-! ### operations by values -/
abbrev F2 := PV → PV → Store → Option (PV × Store)
def rOp (K : PySem.W.Frag) (f : F2) : R2 := fun u v H Q => ∃ ι S x y, ∃ P : PQ, RS K ι H S ∧ RV K ι H x u ∧ RV K ι H y v ∧ opt (f x y S) P ∧ ∀ z S', P z S' → Fin K ι H Q z S'
def wOp (f : F2) (wa wb : W) : W := fun env S P => wa env S fun x S1 => wb env S1 fun y S2 => opt (f x y S2) P
theorem tOp_of {K : PySem.W.Frag} {f : F2} {wa wb : W} {σ : LSt} {H : Hp} {Q : VK} (h : tW K (wOp f wa wb) σ H Q) : tOp (rOp K f) (tW K wa) (tW K wb) σ H Q := by
  refine tW_imp (tW_bind (k := fun x env S P => wb env S fun y S2 => opt (f x y S2) P) h) fun v H1 h1 => ?_
  refine tW_imp (tK_bind (k := fun x y env S P => opt (f x y S) P) h1) fun u H2 h2 => ?_
  obtain ⟨ι, env, S, x, y, P, re, rs, rx, ry, hw, hP⟩ := h2
  exact ⟨ι, S, x, y, P, rs, rx, ry, hw, hP⟩
section
variable {X : Cx} {a b c e : Expr} {wa wb wc : W} {pos : Pos}
theorem re_bin {op : Operator} {f : F2} (ho : OpR X (binaryOp op) (rOp X.K f)) (ha : RE X a wa) (hb : RE X b wb) : RE X (.BinOp a op b pos) (wOp f wa wb) :=
  ⟨PE.weak (pe_op ho ha.pe hb.pe) fun _ _ _ h => tOp_of h⟩
theorem re_cmp {op : CmpOp} {f : F2} (ho : OpR X (compareOp op) (rOp X.K f)) (ha : RE X a wa) (hb : RE X b wb) (hm : behindInMarks op b = false) : RE X (.Compare a [op] [b] pos) (wOp f wa wb) :=
  ⟨PE.weak (pe_cmpR ho ha.pe hb.pe hm) fun _ _ _ h => tOp_of h⟩
end

def cut (n : Nat) (r : PV × Store) : Option (PV × Store) := if n ≤ sizeLine then some r else none
def fAdd : F2
  | .int i, .int j, S => some (.int (i + j), S)
  | .str x, .str y, S => cut (x.length + y.length) (.str (x ++ y), S)
  | .tup xs, .tup ys, S => cut (xs.length + ys.length) (.tup (xs ++ ys), S)
  | .ref n, .ref m, S => match S[n]?, S[m]? with
    | some (.lst xs), some (.lst ys) => cut (xs.length + ys.length) (.ref S.length, S ++ [.lst (xs ++ ys)])
    | _, _ => none
  | _, _, _ => none
theorem opt_cut {n : Nat} {r : PV × Store} {P : PQ} (h : opt (cut n r) P) : n ≤ sizeLine ∧ P r.1 r.2 := by
  unfold cut at h
  split at h
  · rename_i hn; exact ⟨hn, h⟩
  · exact h.elim
theorem ref_of {K : PySem.W.Frag} {ι : List Addr} {H : Hp} {n : Nat} {v : V} (r : RV K ι H (.ref n) v) : ∃ a, v = .ref a ∧ ι[n]? = some a := by
  cases r with
  | ref h => exact ⟨_, rfl, h⟩
theorem tup_of {K : PySem.W.Frag} {ι : List Addr} {H : Hp} {xs : List PV} {v : V} (r : RV K ι H (.tup xs) v) : ∃ a us, v = .ref a ∧ SqT K H a us ∧ RVs K ι H xs us := by
  cases r with
  | tup s q => exact ⟨_, _, rfl, s, q⟩
theorem int_of {K : PySem.W.Frag} {ι : List Addr} {H : Hp} {i : Int} {v : V} (r : RV K ι H (.int i) v) : v = .int i := by cases r; rfl
theorem str_of {K : PySem.W.Frag} {ι : List Addr} {H : Hp} {i : Str} {v : V} (r : RV K ι H (.str i) v) : v = .str i := by cases r; rfl
theorem bl_of {K : PySem.W.Frag} {ι : List Addr} {H : Hp} {i : Bool} {v : V} (r : RV K ι H (.bl i) v) : v = .bl i := by cases r; rfl
theorem non_of {K : PySem.W.Frag} {ι : List Addr} {H : Hp} {v : V} (r : RV K ι H .non v) : v = .non := by cases r; rfl
theorem ty_of {K : PySem.W.Frag} {ι : List Addr} {H : Hp} {t : String} {v : V} (r : RV K ι H (.ty t) v) : v = .ty t := by cases r; rfl
theorem at_lst {K : PySem.W.Frag} {ι : List Addr} {H : Hp} {S : Store} {n : Nat} {a : Addr} {xs : List PV} (rs : RS K ι H S) (hn : S[n]? = some (.lst xs)) (ha : ι[n]? = some a) : ∃ us, H a = some (.lst us) ∧ RVs K ι H xs us := by
  obtain ⟨a', us, h1, h2, h3⟩ := rs.lst hn
  rw [ha] at h1; cases h1
  exact ⟨us, h2, h3⟩
theorem at_dic {K : PySem.W.Frag} {ι : List Addr} {H : Hp} {S : Store} {n : Nat} {a : Addr} {xs : List (Key × PV)} (rs : RS K ι H S) (hn : S[n]? = some (.dic xs)) (ha : ι[n]? = some a) : ∃ us, H a = some (.dK us) ∧ RKs K ι H xs us := by
  obtain ⟨a', us, h1, h2, h3⟩ := rs.dic hn
  rw [ha] at h1; cases h1
  exact ⟨us, h2, h3⟩
theorem at_seq {K : PySem.W.Frag} {ι : List Addr} {H : Hp} {S : Store} {n : Nat} {a : Addr} {c : Cell} {xs : List PV} (rs : RS K ι H S) (hn : S[n]? = some c) (hx : c.items = some xs) (ha : ι[n]? = some a) : ∃ us, SqL K H a us ∧ RVs K ι H xs us := by
  obtain ⟨a', us, h1, h2, h3⟩ := rs.seq hn hx
  rw [ha] at h1; cases h1
  exact ⟨us, h2, h3⟩
/-- a new list's end -/
theorem new_lst {K : PySem.W.Frag} {ι : List Addr} {H : Hp} {S : Store} {Q : VK} {P : PQ} {xs : List PV} {us : List V} (rs : RS K ι H S) (r : RVs K ι H xs us) (hP : ∀ z S', P z S' → Fin K ι H Q z S')
    (h : P (.ref S.length) (S ++ [.lst xs])) (p : Addr) (hp : H p = none) : Q (.ref p) (upd H p (.lst us)) := by
  refine hP _ _ h (ι ++ [p]) _ _ (ext_new hp) (rs.cell hp ⟨us, upd_same, r.mono (ext_new hp)⟩) (.ref ?_)
  rw [← rs.len, List.getElem?_append_right (Nat.le_refl _), Nat.sub_self]; rfl
theorem new_tup {K : PySem.W.Frag} {ι : List Addr} {H : Hp} {S : Store} {Q : VK} {P : PQ} {xs : List PV} {us : List V} (rs : RS K ι H S) (r : RVs K ι H xs us) (hP : ∀ z S', P z S' → Fin K ι H Q z S')
    (h : P (.tup xs) S) (p : Addr) (hp : H p = none) : Q (.ref p) (upd H p (.tup us)) := by
  have E : Ext ι ι H (upd H p (.tup us)) := by have := ext_new (ι := ι) (o := .tup us) (l := []) hp; rwa [List.append_nil] at this
  exact hP _ _ h ι _ _ E (rs.tup hp) (.tup (SqT.of upd_same) (r.mono E))
theorem op_fAdd {X : Cx} : OpR X (binaryOp .Add) (rOp X.K fAdd) := by
  intro pins s σ H u v uu vv Q I ru rv ⟨ι, S, x, y, P, rs, rx, ry, hf, hP⟩
  unfold fAdd at hf
  split at hf
  · cases int_of rx; cases int_of ry
    exact L2.op_add pins s σ H _ _ _ _ Q I ru rv ⟨_, _, rfl, rfl, hP _ _ hf ι H _ .refl rs (.int _)⟩
  · cases str_of rx; cases str_of ry
    obtain ⟨hn, h⟩ := opt_cut hf
    exact op_add_str pins s σ H _ _ _ _ Q I ru rv ⟨_, _, rfl, rfl, hn, hP _ _ h ι H _ .refl rs (.str _)⟩
  · obtain ⟨a, us, rfl, sa, qa⟩ := tup_of rx
    obtain ⟨b, ws, rfl, sb, qb⟩ := tup_of ry
    obtain ⟨hn, h⟩ := opt_cut hf
    refine op_catA pins s σ H _ _ _ _ Q I ru rv ⟨a, b, us, ws, rfl, rfl, sa, sb, by rw [← qa.length, ← qb.length]; exact hn, fun z => ?_, fun z1 z2 => ?_, fun _ _ => new_tup rs (qa.append qb) hP h⟩
    · subst z
      cases qa
      exact hP _ _ h ι H _ .refl rs (.tup sb qb)
    · subst z2
      cases qb
      simp only [List.append_nil] at h
      exact hP _ _ h ι H _ .refl rs (.tup sa qa)
  · obtain ⟨a, rfl, ha⟩ := ref_of rx
    obtain ⟨b, rfl, hb⟩ := ref_of ry
    split at hf
    · rename_i h1 h2
      obtain ⟨us, hu, qu⟩ := at_lst rs h1 ha
      obtain ⟨ws, hw, qw⟩ := at_lst rs h2 hb
      obtain ⟨hn, h⟩ := opt_cut hf
      refine op_cat pins s σ H _ _ _ _ Q I ru rv ⟨a, b, us, ws, rfl, rfl, hu, hw, by rw [← qu.length, ← qw.length]; exact hn, new_lst rs (qu.append qw) hP h⟩
    · exact hf.elim
  · exact hf.elim

/-! ### numbers -/
def fI (g : Int → Int → Option PV) : F2
  | .int i, .int j, S => (g i j).map fun v => (v, S)
  | _, _, _ => none
theorem opt_map {o : Option PV} {S : Store} {P : PQ} (h : opt (o.map fun v => (v, S)) P) : ∃ v, o = some v ∧ P v S := by
  cases o with
  | none => exact h.elim
  | some v => exact ⟨v, rfl, h⟩
theorem fI_of {K : PySem.W.Frag} {g : Int → Int → Option PV} {u v : V} {H : Hp} {Q : VK} (h : rOp K (fI g) u v H Q) : ∃ i j z, u = .int i ∧ v = .int j ∧ g i j = some z ∧ ∀ w, (∀ ι, RV K ι H z w) → Q w H := by
  obtain ⟨ι, S, x, y, P, rs, rx, ry, hf, hP⟩ := h
  unfold fI at hf
  split at hf
  · obtain ⟨z, hz, hp⟩ := opt_map hf
    exact ⟨_, _, z, int_of rx, int_of ry, hz, fun w hw => hP _ _ hp ι H w .refl rs (hw ι)⟩
  · exact hf.elim
section
variable {X : Cx}
def gSub : Int → Int → Option PV := fun i j => some (.int (i - j))
def gMul : Int → Int → Option PV := fun i j => if (-(2 ^ 64) < i ∧ i < 2 ^ 64) ∨ (-(2 ^ 64) < j ∧ j < 2 ^ 64) then some (.int (i * j)) else none
def gDiv : Int → Int → Option PV := fun i j => if 0 < j ∧ j < 1073741824 then some (.int (i / j)) else none
def gMod : Int → Int → Option PV := fun i j => if 0 < j then some (.int (i % j)) else none
def gPow : Int → Int → Option PV := fun i j => if 0 ≤ j ∧ j ≤ 1000000 ∧ i.natAbs < 2 ^ 64 then some (.int (i ^ j.toNat)) else none
def gB (p : Int → Int → Bool) : Int → Int → Option PV := fun i j => some (.bl (p i j))
theorem ite_some' {α : Type} {c : Prop} [Decidable c] {x z : α} (h : (if c then some x else none) = some z) : c ∧ x = z := by
  split at h
  · rename_i hc; exact ⟨hc, Option.some.inj h⟩
  · cases h
theorem op_fSub : OpR X (binaryOp .Sub) (rOp X.K (fI gSub)) := by
  intro pins s σ H u v uu vv Q I ru rv h
  obtain ⟨i, j, z, rfl, rfl, e, q⟩ := fI_of h
  cases e
  exact L2.op_sub pins s σ H _ _ _ _ Q I ru rv ⟨_, _, rfl, rfl, q _ fun _ => .int _⟩
theorem op_fMul : OpR X (binaryOp .Mult) (rOp X.K (fI gMul)) := by
  intro pins s σ H u v uu vv Q I ru rv h
  obtain ⟨i, j, z, rfl, rfl, e, q⟩ := fI_of h
  obtain ⟨c, rfl⟩ := ite_some' e
  exact L2.op_mul pins s σ H _ _ _ _ Q I ru rv ⟨_, _, rfl, rfl, c, q _ fun _ => .int _⟩
theorem op_fDiv : OpR X (binaryOp .FloorDiv) (rOp X.K (fI gDiv)) := by
  intro pins s σ H u v uu vv Q I ru rv h
  obtain ⟨i, j, z, rfl, rfl, e, q⟩ := fI_of h
  obtain ⟨c, rfl⟩ := ite_some' e
  exact L2.op_fdiv pins s σ H _ _ _ _ Q I ru rv ⟨_, _, rfl, rfl, c, q _ fun _ => .int _⟩
theorem op_fMod : OpR X (binaryOp .Mod) (rOp X.K (fI gMod)) := by
  intro pins s σ H u v uu vv Q I ru rv h
  obtain ⟨i, j, z, rfl, rfl, e, q⟩ := fI_of h
  obtain ⟨c, rfl⟩ := ite_some' e
  exact L2.op_mod pins s σ H _ _ _ _ Q I ru rv ⟨_, _, rfl, rfl, c, q _ fun _ => .int _⟩
theorem op_fPow : OpR X (binaryOp .Pow) (rOp X.K (fI gPow)) := by
  intro pins s σ H u v uu vv Q I ru rv h
  obtain ⟨i, j, z, rfl, rfl, e, q⟩ := fI_of h
  obtain ⟨c, rfl⟩ := ite_some' e
  exact L2.op_pow pins s σ H _ _ _ _ Q I ru rv ⟨_, _, rfl, rfl, c, q _ fun _ => .int _⟩
theorem op_fB {op : CmpOp} {p : Int → Int → Bool} (ho : OpR X (compareOp op) (rI0 fun i j => .bl (p i j))) : OpR X (compareOp op) (rOp X.K (fI (gB p))) := by
  intro pins s σ H u v uu vv Q I ru rv h
  obtain ⟨i, j, z, rfl, rfl, e, q⟩ := fI_of h
  cases e
  exact ho pins s σ H _ _ _ _ Q I ru rv ⟨_, _, rfl, rfl, q _ fun _ => .bl _⟩
abbrev fLt : F2 := fI (gB fun i j => decide (i < j))
abbrev fLe : F2 := fI (gB fun i j => decide (i ≤ j))
abbrev fGt : F2 := fI (gB fun i j => decide (j < i))
abbrev fGe : F2 := fI (gB fun i j => decide (j ≤ i))
theorem op_fLt : OpR X (compareOp .Lt) (rOp X.K fLt) := op_fB L2.op_lt
theorem op_fLe : OpR X (compareOp .LtE) (rOp X.K fLe) := op_fB L2.op_le
theorem op_fGt : OpR X (compareOp .Gt) (rOp X.K fGt) := op_fB L2.op_gt
theorem op_fGe : OpR X (compareOp .GtE) (rOp X.K fGe) := op_fB L2.op_ge
end

/-! ### data -/
def optAll {α β : Type} (f : α → Option β) : List α → Option (List β)
  | [] => some []
  | x :: xs => match f x, optAll f xs with
    | some y, some ys => some (y :: ys)
    | _, _ => none
def keyD : Key → PyData
  | .inl i => .int i
  | .inr x => .str x
/-- the data that a value is, to a depth -/
def toD : Nat → Store → PV → Option PyData
  | 0, _, _ => none
  | n + 1, S, v => match v with
    | .non => some .none
    | .bl b => some (.bool b)
    | .int i => some (.int i)
    | .str x => some (.str x)
    | .tup xs => (optAll (toD n S) xs).map .tuple
    | .ref m => match S[m]? with
      | some (.lst xs) => (optAll (toD n S) xs).map .list
      | some (.ro xs) => (optAll (toD n S) xs).map .list
      | some (.dic kvs) => (optAll (fun kv => (toD n S kv.2).map fun d => (keyD kv.1, d)) kvs).map .dict
      | none => none
    | .ty _ => none
theorem optAll_cons {α β : Type} {f : α → Option β} {x : α} {xs : List α} {zs : List β} (h : optAll f (x :: xs) = some zs) : ∃ y ys, f x = some y ∧ optAll f xs = some ys ∧ zs = y :: ys := by
  unfold optAll at h
  split at h
  · rename_i y ys h1 h2
    exact ⟨y, ys, h1, h2, (Option.some.inj h).symm⟩
  · cases h
section
variable {K : PySem.W.Frag} {ι : List Addr} {H : Hp} {S : Store}
theorem dp_all {f : PV → Option PyData} (hf : ∀ x v d, f x = some d → RV K ι H x v → Dp K H v d) : ∀ {xs : List PV} {us : List V} {ds : List PyData}, optAll f xs = some ds → RVs K ι H xs us → DpAll K H us ds
  | [], _, ds, h, .nil => by cases h; exact .nil
  | x :: xs, _, ds, h, .cons r t => by
    obtain ⟨y, ys, h1, h2, rfl⟩ := optAll_cons h
    exact .cons (hf x _ y h1 r) (dp_all hf h2 t)
/-- data without dicts -/
theorem dp_of (rs : RS K ι H S) : ∀ (n : Nat) (x : PV) (v : V) (d : PyData), toD n S x = some d → d.hasDict = false → RV K ι H x v → Dp K H v d
  | 0, _, _, _, h, _, _ => by cases h
  | n + 1, x, v, d, h, hd, r => by
    have go : ∀ {xs : List PV} {us : List V} {ds : List PyData}, optAll (toD n S) xs = some ds → PyData.hasDictAll ds = false → RVs K ι H xs us → DpAll K H us ds := by
      intro xs
      induction xs with
      | nil => intro us ds h _ r; cases r; cases h; exact .nil
      | cons x xs ih =>
        intro us ds h hd r
        obtain ⟨y, ys, h1, h2, rfl⟩ := optAll_cons h
        simp only [PyData.hasDictAll, Bool.or_eq_false_iff] at hd
        cases r with
        | cons r t => exact .cons (dp_of rs n x _ y h1 hd.1 r) (ih h2 hd.2 t)
    unfold toD at h
    split at h
    · cases h; cases r; exact .non
    · cases h; cases r; exact .bl _
    · cases h; cases r; exact .int _
    · cases h; cases r; exact .str _
    · obtain ⟨a, us, rfl, s, q⟩ := tup_of r
      obtain ⟨ds, h1, rfl⟩ := Option.map_eq_some_iff.mp h
      exact .tup s (go h1 (by simpa only [PyData.hasDict] using hd) q)
    · obtain ⟨a, rfl, ha⟩ := ref_of r
      split at h
      · rename_i hm
        obtain ⟨us, hu, q⟩ := at_seq rs hm rfl ha
        obtain ⟨ds, h1, rfl⟩ := Option.map_eq_some_iff.mp h
        exact .lst hu (go h1 (by simpa only [PyData.hasDict] using hd) q)
      · rename_i hm
        obtain ⟨us, hu, q⟩ := at_seq rs hm rfl ha
        obtain ⟨ds, h1, rfl⟩ := Option.map_eq_some_iff.mp h
        exact .lst hu (go h1 (by simpa only [PyData.hasDict] using hd) q)
      · obtain ⟨ds, h1, rfl⟩ := Option.map_eq_some_iff.mp h
        simp [PyData.hasDict] at hd
      · cases h
    · cases h
end
/-- x == y: the same kind of scalar, else as data -/
def eqP (x y : PV) (S : Store) : Option Bool := match x, y with
  | .int i, .int j => some (decide (i = j))
  | .str i, .str j => some (decide (i = j))
  | .bl i, .bl j => some (decide (i = j))
  | .non, .non => some true
  | x, y => match toD 66 S x, toD 66 S y with
    | some d, some e => if SeqAt.shaped d = true ∧ SeqAt.shaped e = true then some (PyData.eqv d e) else none
    | _, _ => none
def fEq : F2 := fun x y S => (eqP x y S).map fun b => (.bl b, S)
def fNe : F2 := fun x y S => (eqP x y S).map fun b => (.bl (!b), S)
theorem opt_mapB {o : Option Bool} {S : Store} {P : PQ} {g : Bool → PV} (h : opt (o.map fun v => (g v, S)) P) : ∃ v, o = some v ∧ P (g v) S := by
  cases o with
  | none => exact h.elim
  | some v => exact ⟨v, rfl, h⟩
theorem shaped_noDict {d : PyData} (h : SeqAt.shaped d = true) : d.hasDict = false := by
  have h' : (d.canLay0 && decide (d.depth ≤ 64)) = true := h
  rw [Bool.and_eq_true] at h'
  exact PyData.hasDict_of_canLay d h'.1
theorem eqP_of {K : PySem.W.Frag} {ι : List Addr} {H : Hp} {S : Store} {x y : PV} {u v : V} {b : Bool} (rs : RS K ι H S) (rx : RV K ι H x u) (ry : RV K ι H y v) (h : eqP x y S = some b) :
    (L2.scal u v = true ∧ b = decide (u = v)) ∨ ∃ d e, Dp K H u d ∧ Dp K H v e ∧ SeqAt.shaped d = true ∧ SeqAt.shaped e = true ∧ b = PyData.eqv d e := by
  unfold eqP at h
  split at h
  · cases int_of rx; cases int_of ry; cases h
    exact .inl ⟨rfl, decide_eq_decide.mpr ⟨fun e => by rw [e], fun e => V.int.inj e⟩⟩
  · cases str_of rx; cases str_of ry; cases h
    exact .inl ⟨rfl, decide_eq_decide.mpr ⟨fun e => by rw [e], fun e => V.str.inj e⟩⟩
  · cases bl_of rx; cases bl_of ry; cases h
    exact .inl ⟨rfl, decide_eq_decide.mpr ⟨fun e => by rw [e], fun e => V.bl.inj e⟩⟩
  · cases non_of rx; cases non_of ry; cases h
    exact .inl ⟨rfl, rfl⟩
  · split at h
    · rename_i d e hd he
      obtain ⟨⟨c1, c2⟩, rfl⟩ := ite_some' h
      exact .inr ⟨d, e, dp_of rs _ _ _ _ hd (shaped_noDict c1) rx, dp_of rs _ _ _ _ he (shaped_noDict c2) ry, c1, c2, rfl⟩
    · cases h
theorem op_fEq {X : Cx} (hu : X.A.units + 64 < cLine) : OpR X (compareOp .Eq) (rOp X.K fEq) := by
  intro pins s σ H u v uu vv Q I ru rv ⟨ι, S, x, y, P, rs, rx, ry, hf, hP⟩
  obtain ⟨b, hb, hp⟩ := opt_mapB (g := .bl) hf
  have q := hP _ _ hp ι H (.bl b) .refl rs (.bl b)
  rcases eqP_of rs rx ry hb with ⟨c, rfl⟩ | ⟨d, e, h1, h2, h3, h4, rfl⟩
  · exact L2.op_eq pins s σ H _ _ _ _ Q I ru rv ⟨c, q⟩
  · exact op_eqD hu pins s σ H _ _ _ _ Q I ru rv ⟨d, e, h1, h2, h3, h4, q⟩
theorem op_fNe {X : Cx} (hu : X.A.units + 64 < cLine) : OpR X (compareOp .NotEq) (rOp X.K fNe) := by
  intro pins s σ H u v uu vv Q I ru rv ⟨ι, S, x, y, P, rs, rx, ry, hf, hP⟩
  obtain ⟨b, hb, hp⟩ := opt_mapB (g := fun b => .bl (!b)) hf
  have q := hP _ _ hp ι H (.bl (!b)) .refl rs (.bl (!b))
  rcases eqP_of rs rx ry hb with ⟨c, rfl⟩ | ⟨d, e, h1, h2, h3, h4, rfl⟩
  · exact L2.op_ne pins s σ H _ _ _ _ Q I ru rv ⟨c, q⟩
  · exact op_neD hu pins s σ H _ _ _ _ Q I ru rv ⟨d, e, h1, h2, h3, h4, q⟩
end Lt
set_option Elab.async false
set_option linter.all false
set_option maxRecDepth 100000
/-! Lt3: tests, displays, calls of built-ins, methods, items, slices. -/
namespace Lt
open PySem PySem.Spec PyProof.Rows L2

/-! ### tests -/
abbrev WT := PEnv → Store → (Bool → Store → Prop) → Prop
def FinT (ι : List Addr) (H : Hp) (K : PySem.W.Frag) (Q : Bool → Hp → Prop) (b : Bool) (S' : Store) : Prop := ∀ ι' H', Ext ι ι' H H' → RS K ι' H' S' → Q b H'
def tWT (K : PySem.W.Frag) (w : WT) : TT := fun σ H Q => ∃ ι env S, ∃ P : Bool → Store → Prop, REnv K ι H env σ ∧ RS K ι H S ∧ w env S P ∧ ∀ b S', P b S' → FinT ι H K Q b S'
structure RT (X : Cx) (e : Expr) (w : WT) : Prop where
  pt : PT X e (tWT X.K w)
structure RW (X : Cx) (e : Expr) (w : WT) : Prop where
  pw : PW X e (tWT X.K w)
theorem PT.weak {X : Cx} {e : Expr} {t t' : TT} (h : PT X e t) (i : ∀ σ H Q, t' σ H Q → t σ H Q) : PT X e t' := ⟨fun pins s σ H Q I q => h.run pins s σ H Q I (i σ H Q q)⟩
theorem PW.weak {X : Cx} {e : Expr} {t t' : TT} (h : PW X e t) (i : ∀ σ H Q, t' σ H Q → t σ H Q) : PW X e t' := ⟨fun wh pins s σ H Q I q => h.run wh pins s σ H Q I (i σ H Q q)⟩
theorem tWT_imp {K : PySem.W.Frag} {w : WT} {σ : LSt} {H : Hp} {Q Q' : Bool → Hp → Prop} (h : tWT K w σ H Q) (i : ∀ b H1, Q b H1 → Q' b H1) : tWT K w σ H Q' := by
  obtain ⟨ι, env, S, P, re, rs, hw, hP⟩ := h
  exact ⟨ι, env, S, P, re, rs, hw, fun b S' hb ι' H' e r => i _ _ (hP b S' hb ι' H' e r)⟩
/-- behind a test -/
theorem tWT_bind {K : PySem.W.Frag} {wt : WT} {k : Bool → PEnv → Store → (PV → Store → Prop) → Prop} {σ : LSt} {H : Hp} {Q : VK} (h : tW K (fun env S P => wt env S fun b S1 => k b env S1 P) σ H Q) :
    tWT K wt σ H fun b H1 => tW K (k b) σ H1 Q := by
  obtain ⟨ι, env, S, P, re, rs, hw, hP⟩ := h
  exact ⟨ι, env, S, _, re, rs, hw, fun b S1 hk ι1 H1 e1 rs1 => ⟨ι1, env, S1, P, re.mono e1, rs1, hk, fun y S' hy => (hP y S' hy).ext e1⟩⟩
theorem tWT_bindT {K : PySem.W.Frag} {wt : WT} {k : Bool → WT} {σ : LSt} {H : Hp} {Q : Bool → Hp → Prop} (h : tWT K (fun env S P => wt env S fun b S1 => k b env S1 P) σ H Q) :
    tWT K wt σ H fun b H1 => tWT K (k b) σ H1 Q := by
  obtain ⟨ι, env, S, P, re, rs, hw, hP⟩ := h
  exact ⟨ι, env, S, _, re, rs, hw, fun b S1 hk ι1 H1 e1 rs1 => ⟨ι1, env, S1, P, re.mono e1, rs1, hk, fun y S' hy ι2 H2 e2 => hP y S' hy ι2 H2 (e1.trans e2)⟩⟩
/-- a bool's test -/
def wB (w : W) : WT := fun env S P => w env S fun x S1 => match x with
  | .bl b => P b S1
  | _ => False
theorem tB_of {K : PySem.W.Frag} {w : W} {t : TE} (i : ∀ σ H Q, tW K w σ H Q → t σ H Q) {σ : LSt} {H : Hp} {Q : Bool → Hp → Prop} (h : tWT K (wB w) σ H Q) : tTest t σ H Q := by
  obtain ⟨ι, env, S, P, re, rs, hw, hP⟩ := h
  refine i _ _ _ ⟨ι, env, S, _, re, rs, hw, fun x S1 hx ι1 H1 v e1 rs1 rx => ?_⟩
  cases x with
  | bl b => cases bl_of rx; exact ⟨b, rfl, hP b S1 hx ι1 H1 e1 rs1⟩
  | _ => exact hx.elim
section
variable {X : Cx} {a b c e : Expr} {wa wb wc : W} {ta tb : WT} {pos : Pos} {rest : List Expr}
theorem rt_cmp {op : CmpOp} {f : F2} (ho : OpR X (compareOp op) (rOp X.K f)) (ha : RE X a wa) (hb : RE X b wb) (hm : behindInMarks op b = false) : RT X (.Compare a [op] [b] pos) (wB (wOp f wa wb)) :=
  ⟨PT.weak (pt_cmpR ho ha.pe hb.pe hm) fun _ _ _ h => tB_of (fun _ _ _ q => tOp_of q) h⟩
/-- a op b op' c -/
def wCh (f g : F2) (wa wb wc : W) : W := fun env S P => wa env S fun x S1 => wb env S1 fun y S2 => opt (f x y S2) fun z S3 => match z with
  | .bl true => wc env S3 fun u S4 => opt (g y u S4) P
  | .bl false => P (.bl false) S3
  | _ => False
theorem tChain_of {K : PySem.W.Frag} {f g : F2} {σ : LSt} {H : Hp} {Q : VK} (h : tW K (wCh f g wa wb wc) σ H Q) : tChain (rOp K f) (rOp K g) (tW K wa) (tW K wb) (tW K wc) σ H Q := by
  obtain ⟨ι, env, S, P, re, rs, hw, hP⟩ := h
  refine ⟨ι, env, S, _, re, rs, hw, fun x S1 hx ι1 H1 u e1 rs1 rx => ⟨ι1, env, S1, _, re.mono e1, rs1, hx, fun y S2 hy ι2 H2 v e2 rs2 ry => ?_⟩⟩
  refine ⟨ι2, S2, x, y, _, rs2, rx.mono e2, ry, hy, fun z S3 hz ι3 H3 w e3 rs3 rz => ?_⟩
  cases z with
  | bl k =>
    cases bl_of rz
    refine ⟨k, rfl, ?_⟩
    cases k with
    | false => exact hP _ _ hz ι3 H3 _ ((e1.trans e2).trans e3) rs3 (.bl false)
    | true =>
      refine ⟨ι3, env, S3, _, re.mono ((e1.trans e2).trans e3), rs3, hz, fun u' S4 hu ι4 H4 v4 e4 rs4 ru => ?_⟩
      exact ⟨ι4, S4, y, u', P, rs4, ry.mono (e3.trans e4), ru, hu, fun r S5 hr => (hP r S5 hr).ext (((e1.trans e2).trans e3).trans e4)⟩
  | _ => exact hz.elim
theorem re_chain {op op' : CmpOp} {f g : F2} (ho : OpR X (compareOp op) (rOp X.K f)) (ho' : OpR X (compareOp op') (rOp X.K g)) (ha : RE X a wa) (hb : RE X b wb) (hc : RE X c wc)
    (hm : lastMarks [op, op'] [b, c] = false := by with_unfolding_all rfl) : RE X (.Compare a [op, op'] [b, c] pos) (wCh f g wa wb wc) := ⟨PE.weak (pe_chain ho ho' ha.pe hb.pe hc.pe hm) fun _ _ _ h => tChain_of h⟩
theorem rt_chain {op op' : CmpOp} {f g : F2} (ho : OpR X (compareOp op) (rOp X.K f)) (ho' : OpR X (compareOp op') (rOp X.K g)) (ha : RE X a wa) (hb : RE X b wb) (hc : RE X c wc)
    (hm : lastMarks [op, op'] [b, c] = false := by with_unfolding_all rfl) : RT X (.Compare a [op, op'] [b, c] pos) (wB (wCh f g wa wb wc)) := ⟨PT.weak (pt_chain ho ho' ha.pe hb.pe hc.pe hm) fun _ _ _ h => tB_of (fun _ _ _ q => tChain_of q) h⟩
/-- a value's truth -/
def tru : PV → Store → Option Bool
  | .non, _ => some false
  | .bl b, _ => some b
  | .int i, _ => some (i != 0)
  | .str y, _ => if y.length ≤ sizeLine then some ((y.length : Int) != 0) else none
  | .tup xs, _ => some (!xs.isEmpty)
  | .ref n, S => match S[n]? with
    | some (.lst xs) => some (!xs.isEmpty)
    | some (.ro xs) => some (!xs.isEmpty)
    | some (.dic xs) => some (!xs.isEmpty)
    | none => none
  | .ty _, _ => none
theorem RVs.isEmpty {K : PySem.W.Frag} {ι : List Addr} {H : Hp} {xs : List PV} {us : List V} (r : RVs K ι H xs us) : xs.isEmpty = us.isEmpty := by cases r <;> rfl
theorem tru_of {K : PySem.W.Frag} {ι : List Addr} {H : Hp} {S : Store} {x : PV} {v : V} {b : Bool} (rs : RS K ι H S) (r : RV K ι H x v) (h : tru x S = some b) : TruV K v H b := by
  unfold tru at h
  split at h
  · cases non_of r; cases h; rfl
  · cases bl_of r; cases h; rfl
  · cases int_of r; cases h; rfl
  · cases str_of r; obtain ⟨c, rfl⟩ := ite_some' h; exact ⟨c, rfl⟩
  · obtain ⟨a, us, rfl, s, q⟩ := tup_of r
    cases h
    exact .inr (.inl ⟨us, s, by rw [q.isEmpty]⟩)
  · obtain ⟨a, rfl, ha⟩ := ref_of r
    split at h
    · rename_i hm
      obtain ⟨us, hu, q⟩ := at_seq rs hm rfl ha
      cases h
      exact .inl ⟨us, hu, by rw [q.isEmpty]⟩
    · rename_i hm
      obtain ⟨us, hu, q⟩ := at_seq rs hm rfl ha
      cases h
      exact .inl ⟨us, hu, by rw [q.isEmpty]⟩
    · rename_i hm
      obtain ⟨us, hu, q⟩ := at_dic rs hm ha
      cases h
      refine .inr (.inr ⟨us, hu, ?_⟩)
      cases q <;> rfl
    · cases h
  · cases h
def wTru (w : W) : WT := fun env S P => w env S fun x S1 => match tru x S1 with
  | some b => P b S1
  | none => False
theorem rt_tru (ha : RE X a wa) (he : ∀ whole, isTrue a X.env whole = (do let v ← whole; standAt a.pos; holding [v] (truthy v)) := by intro _; rfl) : RT X a (wTru wa) := by
  refine ⟨PT.weak (pt_truth ha.pe he) fun σ H Q ⟨ι, env, S, P, re, rs, hw, hP⟩ => ?_⟩
  refine ⟨ι, env, S, _, re, rs, hw, fun x S1 hx ι1 H1 v e1 rs1 rx => ?_⟩
  split at hx
  · rename_i b hb
    exact ⟨b, tru_of rs1 rx hb, hP b S1 hx ι1 H1 e1 rs1⟩
  · exact hx.elim
def wNot (t : WT) : WT := fun env S P => t env S fun b S1 => P (!b) S1
theorem rt_not (h : RT X a ta) : RT X (.UnaryOp .Not a pos) (wNot ta) :=
  ⟨PT.weak (pt_not h.pt) fun σ H Q ⟨ι, env, S, P, re, rs, hw, hP⟩ => ⟨ι, env, S, _, re, rs, hw, fun b S1 hb ι1 H1 e1 rs1 => hP _ _ hb ι1 H1 e1 rs1⟩⟩
def wAndT (t u : WT) : WT := fun env S P => t env S fun b S1 => match b with
  | true => u env S1 P
  | false => P false S1
def wOrT (t u : WT) : WT := fun env S P => t env S fun b S1 => match b with
  | true => P true S1
  | false => u env S1 P
theorem RW.rt (h : RW X e ta) : RT X e ta := ⟨h.pw.pt⟩
theorem rw_and1 (h : RT X a ta) : RW X (.BoolOp .And [a] pos) ta := ⟨pw_and1 h.pt⟩
theorem rw_or1 (h : RT X a ta) : RW X (.BoolOp .Or [a] pos) ta := ⟨pw_or1 h.pt⟩
theorem rw_and (h : RT X a ta) (hb : RW X (.BoolOp .And (b :: rest) pos) tb) : RW X (.BoolOp .And (a :: b :: rest) pos) (wAndT ta tb) := by
  refine ⟨PW.weak (pw_and h.pt hb.pw) fun σ H Q h => ?_⟩
  refine tWT_imp (tWT_bindT (k := fun b env S P => match b with | true => tb env S P | false => P false S) h) fun b H1 h1 => ?_
  cases b with
  | true => exact h1
  | false => obtain ⟨ι, env, S, P, re, rs, hw, hP⟩ := h1; exact hP _ _ hw ι H1 .refl rs
theorem rw_or (h : RT X a ta) (hb : RW X (.BoolOp .Or (b :: rest) pos) tb) : RW X (.BoolOp .Or (a :: b :: rest) pos) (wOrT ta tb) := by
  refine ⟨PW.weak (pw_or h.pt hb.pw) fun σ H Q h => ?_⟩
  refine tWT_imp (tWT_bindT (k := fun b env S P => match b with | true => P true S | false => tb env S P) h) fun b H1 h1 => ?_
  cases b with
  | false => exact h1
  | true => obtain ⟨ι, env, S, P, re, rs, hw, hP⟩ := h1; exact hP _ _ hw ι H1 .refl rs
/-! .. as values -/
def wAnd (wa wb : W) : W := fun env S P => wa env S fun x S1 => match x with
  | .bl true => wb env S1 P
  | .bl false => P (.bl false) S1
  | _ => False
def wOr (wa wb : W) : W := fun env S P => wa env S fun x S1 => match x with
  | .bl true => P (.bl true) S1
  | .bl false => wb env S1 P
  | _ => False
def wNotV (wa : W) : W := fun env S P => wa env S fun x S1 => match x with
  | .bl b => P (.bl (!b)) S1
  | _ => False
theorem re_one {op} (h : RE X a wa) : RE X (.BoolOp op [a] pos) wa := ⟨pe_one h.pe⟩
theorem re_and (ha : RE X a wa) (hb : RE X (.BoolOp .And (b :: rest) pos) wb) : RE X (.BoolOp .And (a :: b :: rest) pos) (wAnd wa wb) := by
  refine ⟨PE.weak (pe_and ha.pe hb.pe) fun σ H Q ⟨ι, env, S, P, re, rs, hw, hP⟩ => ⟨ι, env, S, _, re, rs, hw, fun x S1 hx ι1 H1 v e1 rs1 rx => ?_⟩⟩
  cases x with
  | bl k =>
    cases bl_of rx
    refine ⟨k, rfl, ?_⟩
    cases k with
    | true => exact ⟨ι1, env, S1, P, re.mono e1, rs1, hx, fun y S' hy => (hP y S' hy).ext e1⟩
    | false => exact hP _ _ hx ι1 H1 _ e1 rs1 (.bl false)
  | _ => exact hx.elim
theorem re_or (ha : RE X a wa) (hb : RE X (.BoolOp .Or (b :: rest) pos) wb) : RE X (.BoolOp .Or (a :: b :: rest) pos) (wOr wa wb) := by
  refine ⟨PE.weak (pe_or ha.pe hb.pe) fun σ H Q ⟨ι, env, S, P, re, rs, hw, hP⟩ => ⟨ι, env, S, _, re, rs, hw, fun x S1 hx ι1 H1 v e1 rs1 rx => ?_⟩⟩
  cases x with
  | bl k =>
    cases bl_of rx
    refine ⟨k, rfl, ?_⟩
    cases k with
    | false => exact ⟨ι1, env, S1, P, re.mono e1, rs1, hx, fun y S' hy => (hP y S' hy).ext e1⟩
    | true => exact hP _ _ hx ι1 H1 _ e1 rs1 (.bl true)
  | _ => exact hx.elim
theorem re_not (ha : RE X a wa) : RE X (.UnaryOp .Not a pos) (wNotV wa) := by
  refine ⟨PE.weak (pe_not ha.pe) fun σ H Q ⟨ι, env, S, P, re, rs, hw, hP⟩ => ⟨ι, env, S, _, re, rs, hw, fun x S1 hx ι1 H1 v e1 rs1 rx => ?_⟩⟩
  cases x with
  | bl k => cases bl_of rx; exact ⟨k, rfl, hP _ _ hx ι1 H1 _ e1 rs1 (.bl _)⟩
  | _ => exact hx.elim
def wNeg (wa : W) : W := fun env S P => wa env S fun x S1 => match x with
  | .int i => P (.int (-i)) S1
  | _ => False
theorem re_neg (ha : RE X a wa) : RE X (.UnaryOp .USub a pos) (wNeg wa) := by
  refine ⟨PE.weak (pe_un un_neg ha.pe) fun σ H Q ⟨ι, env, S, P, re, rs, hw, hP⟩ => ⟨ι, env, S, _, re, rs, hw, fun x S1 hx ι1 H1 v e1 rs1 rx => ?_⟩⟩
  cases x with
  | int i => cases int_of rx; exact ⟨i, rfl, hP _ _ hx ι1 H1 _ e1 rs1 (.int _)⟩
  | _ => exact hx.elim
def wIf (t : WT) (wa wb : W) : W := fun env S P => t env S fun b S1 => match b with
  | true => wa env S1 P
  | false => wb env S1 P
theorem re_if (hc : RT X c ta) (ha : RE X a wa) (hb : RE X b wb) : RE X (.IfExp c a b pos) (wIf ta wa wb) := by
  refine ⟨PE.weak (pe_ifExp hc.pt ha.pe hb.pe) fun σ H Q h => ?_⟩
  refine tWT_imp (tWT_bind (k := fun b env S P => match b with | true => wa env S P | false => wb env S P) h) fun b H1 h1 => ?_
  cases b with
  | true => exact h1
  | false => exact h1
end

/-! ### displays -/
section
variable {X : Cx} {es : List Expr} {w : WA} {pos : Pos}
def wTup (w : WA) : W := fun env S P => w env S fun xs S1 => xs.length ≤ sizeLine ∧ P (.tup xs) S1
def wLst (w : WA) : W := fun env S P => w env S fun xs S1 => xs.length ≤ sizeLine ∧ P (.ref S1.length) (S1 ++ [.lst xs])
theorem fin_ext {K : PySem.W.Frag} {ι ι1 : List Addr} {H H1 : Hp} {Q : VK} {P : PQ} (e : Ext ι ι1 H H1) (h : ∀ x S', P x S' → Fin K ι H Q x S') : ∀ x S', P x S' → Fin K ι1 H1 Q x S' := fun x S' hx => (h x S' hx).ext e
theorem re_tup {k : Nat} (h : RA X es w) : RE X (.Tuple es k pos) (wTup w) := by
  refine ⟨PE.weak (pe_tup h.pa) fun σ H Q ⟨ι, env, S, P, re, rs, hw, hP⟩ => ⟨ι, env, S, _, re, rs, hw, fun xs S1 hx ι1 H1 vs e1 rs1 rx => ?_⟩⟩
  exact ⟨by rw [← rx.length]; exact hx.1, new_tup rs1 rx (fin_ext e1 hP) hx.2⟩
theorem re_lst (h : RA X es w) : RE X (.List es pos) (wLst w) := by
  refine ⟨PE.weak (pe_lst h.pa) fun σ H Q ⟨ι, env, S, P, re, rs, hw, hP⟩ => ⟨ι, env, S, _, re, rs, hw, fun xs S1 hx ι1 H1 vs e1 rs1 rx => ?_⟩⟩
  exact ⟨by rw [← rx.length]; exact hx.1, new_lst rs1 rx (fin_ext e1 hP) hx.2⟩
end

/-! ### built-ins -/
abbrev FB := List PV → Store → Option (PV × Store)
def rB (K : PySem.W.Frag) (f : FB) : List V → Hp → VK → Prop := fun us H Q => ∃ ι S xs, ∃ P : PQ, RS K ι H S ∧ RVs K ι H xs us ∧ opt (f xs S) P ∧ ∀ z S', P z S' → Fin K ι H Q z S'
def wCall (f : FB) (w : WA) : W := fun env S P => w env S fun xs S1 => opt (f xs S1) P
theorem tCB_of {K : PySem.W.Frag} {f : FB} {w : WA} {σ : LSt} {H : Hp} {Q : VK} (h : tW K (wCall f w) σ H Q) : tCB (rB K f) (tWA K w) σ H Q := by
  obtain ⟨ι, env, S, P, re, rs, hw, hP⟩ := h
  exact ⟨ι, env, S, _, re, rs, hw, fun xs S1 hx ι1 H1 vs e1 rs1 rx => ⟨ι1, S1, xs, P, rs1, rx, hx, fin_ext e1 hP⟩⟩
section
variable {X : Cx} {x : Str} {e : Expr} {es : List Expr} {w : WA} {p pos : Pos} {id T : String} {f : FB}
theorem re_callB (hc : CallR X (.builtin id) (rB X.K f)) (hg : Gl X x) (hm : X.mg x = none) (hv : bootBuiltins x = some (.builtin id)) (ha : RA X (e :: es) w) (hn : x ≠ "__name__" := by decide) (hdb : (x == ("__debug__" : Str)) = false := by decide)
    (he : starEach (e :: es) X.env = (false, eval e X.env) :: starEach es X.env := by rfl) (hpl : (backTo pos (starEach es X.env)).any (·.1) = false := by rfl) : RE X (.Call (.Name x p) (e :: es) [] pos) (wCall f w) :=
  ⟨PE.weak (pe_callB hc hg hm hv ha.pa hn hdb he hpl) fun _ _ _ h => tCB_of h⟩
theorem re_callTy (hc : CallR X (.type T) (rB X.K f)) (hg : Gl X x) (hm : X.mg x = none) (hv : bootBuiltins x = some (.type T)) (ha : RA X (e :: es) w) (hn : x ≠ "__name__" := by decide) (hdb : (x == ("__debug__" : Str)) = false := by decide)
    (he : starEach (e :: es) X.env = (false, eval e X.env) :: starEach es X.env := by rfl) (hpl : (backTo pos (starEach es X.env)).any (·.1) = false := by rfl) : RE X (.Call (.Name x p) (e :: es) [] pos) (wCall f w) :=
  ⟨PE.weak (pe_callTy hc hg hm hv ha.pa hn hdb he hpl) fun _ _ _ h => tCB_of h⟩
/-- a type's name as a value -/
theorem re_type (hg : Gl X x) (hm : X.mg x = none) (hv : bootBuiltins x = some (.type T)) (hn : x ≠ "__name__" := by decide) (hdb : (x == ("__debug__" : Str)) = false := by decide) (hT : T ≠ "!" := by decide) : RE X (.Name x p) (wC (.ty T)) :=
  re_c (pe_bltn (v := .ty T) hg hm hv rfl hn hdb) fun _ _ => .ty T hT
end
def seqOf : PV → Store → Option (List PV)
  | .tup xs, _ => some xs
  | .ref n, S => match S[n]? with
    | some c => c.items
    | none => none
  | _, _ => none
theorem seqOf_of {K : PySem.W.Frag} {ι : List Addr} {H : Hp} {S : Store} {x : PV} {v : V} {xs : List PV} (rs : RS K ι H S) (r : RV K ι H x v) (h : seqOf x S = some xs) : ∃ a us, v = .ref a ∧ (SqL K H a us ∨ SqT K H a us) ∧ RVs K ι H xs us := by
  unfold seqOf at h
  split at h
  · cases h
    obtain ⟨a, us, rfl, s, q⟩ := tup_of r
    exact ⟨a, us, rfl, .inr s, q⟩
  · obtain ⟨a, rfl, ha⟩ := ref_of r
    split at h
    · rename_i hc
      obtain ⟨us, hu, q⟩ := at_seq rs hc h ha
      exact ⟨a, us, rfl, .inl hu, q⟩
    · cases h
  · cases h
theorem rvs1 {K : PySem.W.Frag} {ι : List Addr} {H : Hp} {x : PV} {us : List V} (r : RVs K ι H [x] us) : ∃ u, us = [u] ∧ RV K ι H x u := by
  cases r with
  | cons r t => cases t; exact ⟨_, rfl, r⟩
theorem rvs2 {K : PySem.W.Frag} {ι : List Addr} {H : Hp} {x y : PV} {us : List V} (r : RVs K ι H [x, y] us) : ∃ u v, us = [u, v] ∧ RV K ι H x u ∧ RV K ι H y v := by
  cases r with
  | cons r t => obtain ⟨v, rfl, q⟩ := rvs1 t; exact ⟨_, v, rfl, r, q⟩
def bLen : FB
  | [.str x], S => if x.length ≤ sizeLine then some (.int x.length, S) else none
  | [x], S => (seqOf x S).map fun xs => (.int xs.length, S)
  | _, _ => none
theorem opt_map' {α : Type} {o : Option α} {g : α → PV × Store} {P : PQ} (h : opt (o.map g) P) : ∃ v, o = some v ∧ P (g v).1 (g v).2 := by
  cases o with
  | none => exact h.elim
  | some v => exact ⟨v, rfl, h⟩
theorem opt_ite {c : Prop} [Decidable c] {r : PV × Store} {P : PQ} (h : opt (if c then some r else none) P) : c ∧ P r.1 r.2 := by
  split at h
  · rename_i hc; exact ⟨hc, h⟩
  · exact h.elim
section
variable {X : Cx}
theorem call_bLen : CallR X (.builtin "len") (rB X.K bLen) := by
  intro pins s σ H vs us Q I r ⟨ι, S, xs, P, rs, rx, hf, hP⟩
  unfold bLen at hf
  split at hf
  · obtain ⟨u, rfl, q⟩ := rvs1 rx
    cases str_of q
    obtain ⟨c, h⟩ := opt_ite hf
    exact call_len_str pins s σ H _ _ Q I r ⟨_, rfl, c, hP _ _ h ι H _ .refl rs (.int _)⟩
  · obtain ⟨u, rfl, q⟩ := rvs1 rx
    obtain ⟨ys, hy, h⟩ := opt_map' hf
    obtain ⟨a, ws, rfl, sq, qs⟩ := seqOf_of rs q hy
    refine call_len_seq pins s σ H _ _ Q I r ⟨a, ws, rfl, sq, ?_⟩
    rw [← qs.length]
    exact hP _ _ h ι H _ .refl rs (.int _)
  · exact hf.elim
def bInt : FB
  | [.int i], S => some (.int i, S)
  | [.bl b], S => some (.int (if b then 1 else 0), S)
  | _, _ => none
theorem call_bInt : CallR X (.type "int") (rB X.K bInt) := by
  intro pins s σ H vs us Q I r ⟨ι, S, xs, P, rs, rx, hf, hP⟩
  unfold bInt at hf
  split at hf
  · obtain ⟨u, rfl, q⟩ := rvs1 rx
    cases int_of q
    exact call_int1 pins s σ H _ _ Q I r (.inl ⟨_, rfl, hP _ _ hf ι H _ .refl rs (.int _)⟩)
  · obtain ⟨u, rfl, q⟩ := rvs1 rx
    cases bl_of q
    exact call_int1 pins s σ H _ _ Q I r (.inr ⟨_, rfl, hP _ _ hf ι H _ .refl rs (.int _)⟩)
  · exact hf.elim
def bAbs : FB
  | [.int i], S => some (.int (if i < 0 then -i else i), S)
  | _, _ => none
theorem call_bAbs : CallR X (.builtin "abs") (rB X.K bAbs) := by
  intro pins s σ H vs us Q I r ⟨ι, S, xs, P, rs, rx, hf, hP⟩
  unfold bAbs at hf
  split at hf
  · obtain ⟨u, rfl, q⟩ := rvs1 rx
    cases int_of q
    exact call_abs pins s σ H _ _ Q I r ⟨_, rfl, hP _ _ hf ι H _ .refl rs (.int _)⟩
  · exact hf.elim
def bMin : FB
  | [.int i, .int j], S => some (.int (if j < i then j else i), S)
  | _, _ => none
theorem call_bMin (hc : X.calm = true) : CallR X (.builtin "min") (rB X.K bMin) := by
  intro pins s σ H vs us Q I r ⟨ι, S, xs, P, rs, rx, hf, hP⟩
  unfold bMin at hf
  split at hf
  · obtain ⟨u, v, rfl, q, q'⟩ := rvs2 rx
    cases int_of q; cases int_of q'
    exact call_min2 hc pins s σ H _ _ Q I r ⟨_, _, rfl, hP _ _ hf ι H _ .refl rs (.int _)⟩
  · exact hf.elim
def bMax : FB
  | [.int i, .int j], S => some (.int (if j > i then j else i), S)
  | _, _ => none
theorem call_bMax (hc : X.calm = true) : CallR X (.builtin "max") (rB X.K bMax) := by
  intro pins s σ H vs us Q I r ⟨ι, S, xs, P, rs, rx, hf, hP⟩
  unfold bMax at hf
  split at hf
  · obtain ⟨u, v, rfl, q, q'⟩ := rvs2 rx
    cases int_of q; cases int_of q'
    exact call_max2 hc pins s σ H _ _ Q I r ⟨_, _, rfl, hP _ _ hf ι H _ .refl rs (.int _)⟩
  · exact hf.elim
def bList : FB
  | [x], S => (seqOf x S).map fun xs => (.ref S.length, S ++ [.lst xs])
  | _, _ => none
theorem call_bList : CallR X (.type "list") (rB X.K bList) := by
  intro pins s σ H vs us Q I r ⟨ι, S, xs, P, rs, rx, hf, hP⟩
  unfold bList at hf
  split at hf
  · obtain ⟨u, rfl, q⟩ := rvs1 rx
    obtain ⟨ys, hy, h⟩ := opt_map' hf
    obtain ⟨a, ws, rfl, sq, qs⟩ := seqOf_of rs q hy
    exact call_list_of pins s σ H _ _ Q I r ⟨a, ws, rfl, sq, new_lst rs qs hP h⟩
  · exact hf.elim
def bTuple : FB
  | [x], S => (seqOf x S).map fun xs => (.tup xs, S)
  | _, _ => none
theorem call_bTuple : CallR X (.type "tuple") (rB X.K bTuple) := by
  intro pins s σ H vs us Q I r ⟨ι, S, xs, P, rs, rx, hf, hP⟩
  unfold bTuple at hf
  split at hf
  · obtain ⟨u, rfl, q⟩ := rvs1 rx
    obtain ⟨ys, hy, h⟩ := opt_map' hf
    obtain ⟨a, ws, rfl, sq, qs⟩ := seqOf_of rs q hy
    refine call_tuple_of pins s σ H _ _ Q I r ⟨a, ws, rfl, ?_⟩
    rcases sq with sq | sq
    · exact .inl ⟨sq, new_tup rs qs hP h⟩
    · exact .inr ⟨sq, hP _ _ h ι H _ .refl rs (.tup sq qs)⟩
  · exact hf.elim
/-- the name of a value's type -/
def tyN : PV → Store → Option String
  | .non, _ => some "NoneType"
  | .bl _, _ => some "bool"
  | .int _, _ => some "int"
  | .str _, _ => some "str"
  | .tup _, _ => some "tuple"
  | .ref n, S => match S[n]? with
    | some (.lst _) => some "list"
    | some (.ro _) => some "list"
    | some (.dic _) => some "dict"
    | none => none
  | .ty _, _ => none
theorem tyN_of {K : PySem.W.Frag} {ι : List Addr} {H : Hp} {S : Store} {x : PV} {v : V} {t : String} (rs : RS K ι H S) (r : RV K ι H x v) (h : tyN x S = some t) : TyX K H v (.type t) := by
  have lst : ∀ {a : Addr} {us : List V}, SqL K H a us → TyX K H (.ref a) (.type "list") := fun {a us} q => by
    rcases q with (q | ⟨o, q⟩) | ⟨o, its, n, q1, q2, _⟩
    · exact .base (.lst q)
    · exact .base (.frz q)
    · exact .kList q1 q2
  unfold tyN at h
  split at h
  · cases non_of r; cases h; exact .base .non
  · cases bl_of r; cases h; exact .base (.bl _)
  · cases int_of r; cases h; exact .base (.int _)
  · cases str_of r; cases h; exact .base (.str _)
  · obtain ⟨a, us, rfl, s, q⟩ := tup_of r
    cases h
    rcases s with (s | ⟨o, s⟩) | ⟨o, its, n, s1, s2, _⟩
    · exact .base (.tup s)
    · exact .fTuple s
    · exact .kTuple s1 s2
  · obtain ⟨a, rfl, ha⟩ := ref_of r
    split at h
    · rename_i hm
      obtain ⟨us, hu, q⟩ := at_seq rs hm rfl ha
      cases h; exact lst hu
    · rename_i hm
      obtain ⟨us, hu, q⟩ := at_seq rs hm rfl ha
      cases h; exact lst hu
    · rename_i hm
      obtain ⟨us, hu, q⟩ := at_dic rs hm ha
      cases h; exact .base (.dK hu)
    · cases h
  · cases h
def bIsi : FB
  | [x, .ty T], S => match tyN x S with
    | some t => (kitB t T).map fun b => (.bl b, S)
    | none => none
  | _, _ => none
theorem call_bIsi : CallR X (.builtin "isinstance") (rB X.K bIsi) := by
  intro pins s σ H vs us Q I r ⟨ι, S, xs, P, rs, rx, hf, hP⟩
  unfold bIsi at hf
  split at hf
  · obtain ⟨u, v, rfl, q, q'⟩ := rvs2 rx
    cases ty_of q'
    split at hf
    · rename_i t ht
      obtain ⟨b, hb, h⟩ := opt_map' hf
      exact call_isi pins s σ H _ _ Q I r ⟨u, _, _, _, b, rfl, .ty _, tyN_of rs q ht, kit_ty hb, hP _ _ h ι H _ .refl rs (.bl _)⟩
    · exact hf.elim
  · exact hf.elim
end
end Lt
set_option Elab.async false
set_option linter.all false
set_option maxRecDepth 100000
/-! Lt4: methods of lists, items, slices, dicts, repr. -/
namespace Lt
open PySem PySem.Spec PyProof.Rows L2

/-! ### methods -/
abbrev FM := PV → List PV → Store → Option (PV × Store)
def rM (K : PySem.W.Frag) (f : FM) : V → List V → Hp → VK → Prop := fun u us H Q => ∃ ι S x xs, ∃ P : PQ, RS K ι H S ∧ RV K ι H x u ∧ RVs K ι H xs us ∧ opt (f x xs S) P ∧ ∀ z S', P z S' → Fin K ι H Q z S'
/-- the receiver's type, as the method's rule asks it -/
def tyOk (T : String) : PV → Store → Prop
  | .str _, _ => T = "str"
  | .int _, _ => T = "int"
  | .ref n, S => (T = "list" ∧ ∃ c xs, S[n]? = some c ∧ c.items = some xs) ∨ (T = "dict" ∧ ∃ kvs, S[n]? = some (.dic kvs))
  | _, _ => False
theorem tyOk_of {K : PySem.W.Frag} {ι : List Addr} {H : Hp} {S : Store} {T : String} {x : PV} {v : V} (rs : RS K ι H S) (r : RV K ι H x v) (h : tyOk T x S) : tyV K T v H := by
  cases x with
  | str y => cases str_of r; exact h
  | int y => cases int_of r; exact h
  | ref n =>
    obtain ⟨a, rfl, ha⟩ := ref_of r
    rcases h with ⟨rfl, c, xs, hc, hx⟩ | ⟨rfl, kvs, hc⟩
    · obtain ⟨us, hu, _⟩ := at_seq rs hc hx ha
      exact .inl ⟨rfl, us, hu⟩
    · obtain ⟨us, hu, _⟩ := at_dic rs hc ha
      exact .inr (.inr (.inl ⟨rfl, .inl ⟨us, hu⟩⟩))
  | _ => exact h.elim
def wM0 (T : String) (f : FM) (wo : W) : W := fun env S P => wo env S fun x S1 => tyOk T x S1 ∧ opt (f x [] S1) P
def wM (T : String) (f : FM) (wo : W) (w : WA) : W := fun env S P => wo env S fun x S1 => tyOk T x S1 ∧ w env S1 fun xs S2 => opt (f x xs S2) P
section
variable {X : Cx} {o e : Expr} {es : List Expr} {wo : W} {w : WA} {name : Str} {apos cpos : Pos} {T id : String} {f : FM}
theorem re_m0 (pa : PlainAttrs T) (slot : Slot T name id) (hty : typeOf (.builtin id) = pure (.type "method_descriptor")) (hm : MtR X id (rM X.K f)) (ho : RE X o wo)
    (hbase : attributeBase o name X.env (eval o X.env) = eval o X.env := by rfl) (hline : (apos.endLine == cpos.line) = true := by rfl) : RE X (.Call (.Attribute o name apos) [] [] cpos) (wM0 T f wo) := by
  refine ⟨PE.weak (pe_bm0 pa slot hty hm ho.pe hbase hline) fun σ H Q ⟨ι, env, S, P, re, rs, hw, hP⟩ => ⟨ι, env, S, _, re, rs, hw, fun x S1 hx ι1 H1 v e1 rs1 rx => ?_⟩⟩
  exact ⟨tyOk_of rs1 rx hx.1, ι1, S1, x, [], P, rs1, rx, .nil, hx.2, fin_ext e1 hP⟩
theorem re_m (pa : PlainAttrs T) (slot : Slot T name id) (hty : typeOf (.builtin id) = pure (.type "method_descriptor")) (hm : MtR X id (rM X.K f)) (ho : RE X o wo) (ha : RA X (e :: es) w)
    (hbase : attributeBase o name X.env (eval o X.env) = eval o X.env := by rfl)
    (hfew : ((backTo cpos (starEach (e :: es) X.env)).all (fun x => !x.1) && (backToKw cpos (keywordEach [] X.env)).all (fun x => x.1.isSome)
      && decide ((e :: es).length + ([] : List Keyword).length + (if ([] : List Keyword).isEmpty then 0 else 1) < 30)) = true := by rfl)
    (hline : (apos.endLine == cpos.line) = true := by rfl) (hs : starEach (e :: es) X.env = (false, eval e X.env) :: starEach es X.env := by rfl) (hplain : (backTo cpos (starEach es X.env)).any (·.1) = false := by rfl) :
    RE X (.Call (.Attribute o name apos) (e :: es) [] cpos) (wM T f wo w) := by
  refine ⟨PE.weak (pe_bm pa slot hty hm ho.pe ha.pa hbase hfew hline hs hplain) fun σ H Q ⟨ι, env, S, P, re, rs, hw, hP⟩ => ⟨ι, env, S, _, re, rs, hw, fun x S1 hx ι1 H1 v e1 rs1 rx => ?_⟩⟩
  refine ⟨tyOk_of rs1 rx hx.1, ι1, env, S1, _, re.mono e1, rs1, hx.2, fun xs S2 h2 ι2 H2 us e2 rs2 r2 => ?_⟩
  exact ⟨ι2, S2, x, xs, P, rs2, rx.mono e2, r2, h2, fin_ext (e1.trans e2) hP⟩
end
/-- what becomes of a list's items -/
def onL (g : List PV → List PV → Option (List PV × PV)) : FM := fun x args S => match x with
  | .ref n => match S[n]? with
    | some (.lst xs) => (g xs args).map fun r => (r.2, S.set n (.lst r.1))
    | _ => none
  | _ => none
theorem onL_of {K : PySem.W.Frag} {g : List PV → List PV → Option (List PV × PV)} {u : V} {us : List V} {H : Hp} {Q : VK} (h : rM K (onL g) u us H Q) :
    ∃ a ws ι xs args ys z, u = .ref a ∧ H a = some (.lst ws) ∧ RVs K ι H xs ws ∧ RVs K ι H args us ∧ g xs args = some (ys, z) ∧ ∀ ws' v, RVs K ι H ys ws' → RV K ι H z v → Q v (upd H a (.lst ws')) := by
  obtain ⟨ι, S, x, args, P, rs, rx, ra, hf, hP⟩ := h
  unfold onL at hf
  split at hf
  · obtain ⟨a, rfl, ha⟩ := ref_of rx
    split at hf
    · rename_i hn
      obtain ⟨ws, hw, q⟩ := at_lst rs hn ha
      obtain ⟨⟨ys, z⟩, hg, hp⟩ := opt_map' hf
      refine ⟨a, ws, ι, _, args, ys, z, rfl, hw, q, ra, hg, fun ws' v r rz => ?_⟩
      obtain ⟨rs', E⟩ := rs.write (c' := .lst ys) (o' := .lst ws') hn ha rfl rfl fun E => ⟨ws', upd_same, r.mono E⟩
      exact hP _ _ hp ι _ v E rs' (rz.mono E)
    · exact hf.elim
  · exact hf.elim
def gAppend : List PV → List PV → Option (List PV × PV)
  | xs, [y] => if xs.length < sizeLine then some (xs ++ [y], .non) else none
  | _, _ => none
def gPop : List PV → List PV → Option (List PV × PV)
  | xs, [] => (xs[xs.length - 1]?).map fun y => (xs.dropLast, y)
  | xs, [.int i] => if -(2 ^ 63) ≤ i ∧ i < 2 ^ 63 then match seqIndex? i xs.length with
    | some k => (xs[k]?).map fun y => (xs.eraseIdx k, y)
    | none => none
    else none
  | _, _ => none
def gInsert : List PV → List PV → Option (List PV × PV)
  | xs, [.int i, y] => if xs.length < sizeLine ∧ 0 ≤ i ∧ i < 2 ^ 63 then some (xs.take i.toNat ++ [y] ++ xs.drop i.toNat, .non) else none
  | _, _ => none
section
variable {X : Cx}
theorem ite_some2 {α : Type} {c : Prop} [Decidable c] {z : α} {o : Option α} (h : (if c then o else none) = some z) : c ∧ o = some z := by
  split at h
  · rename_i hc; exact ⟨hc, h⟩
  · cases h
theorem mt_gAppend : MtR X "list.append" (rM X.K (onL gAppend)) := by
  intro pins s σ H u us v vs Q I ru rus h
  obtain ⟨a, ws, ι, xs, args, ys, z, rfl, hH, rx, ra, hg, q⟩ := onL_of h
  unfold gAppend at hg
  split at hg
  · obtain ⟨c, e⟩ := ite_some' hg
    cases e
    obtain ⟨w, rfl, rw'⟩ := rvs1 ra
    refine mt_append pins s σ H _ _ _ _ Q I ru rus ⟨a, ws, w, rfl, rfl, hH, by rw [← rx.length]; exact c, q _ _ (rx.snoc rw') .non⟩
  · cases hg
theorem mt_gPop : MtR X "list.pop" (rM X.K (onL gPop)) := by
  intro pins s σ H u us v vs Q I ru rus h
  obtain ⟨a, ws, ι, xs, args, ys, z, rfl, hH, rx, ra, hg, q⟩ := onL_of h
  unfold gPop at hg
  split at hg
  · cases ra
    obtain ⟨y, hy, e⟩ := Option.map_eq_some_iff.mp hg
    cases e
    obtain ⟨w, hw, rw'⟩ := rx.get hy
    refine mt_pop pins s σ H _ _ _ _ Q I ru rus ⟨a, ws, w, rfl, rfl, hH, by rw [← rx.length]; exact hw, q _ _ rx.dropLast rw'⟩
  · obtain ⟨w0, rfl, r0⟩ := rvs1 ra
    cases int_of r0
    obtain ⟨c, e⟩ := ite_some2 hg
    split at e
    · rename_i k hk
      obtain ⟨y, hy, e⟩ := Option.map_eq_some_iff.mp e
      cases e
      obtain ⟨w, hw, rw'⟩ := rx.get hy
      exact mt_popAt pins s σ H _ _ _ _ Q I ru rus ⟨a, ws, _, k, w, rfl, rfl, hH, c.1, c.2, by rw [← rx.length]; exact hk, hw, q _ _ (rx.eraseIdx k) rw'⟩
    · cases e
  · cases hg
theorem mt_gInsert : MtR X "list.insert" (rM X.K (onL gInsert)) := by
  intro pins s σ H u us v vs Q I ru rus h
  obtain ⟨a, ws, ι, xs, args, ys, z, rfl, hH, rx, ra, hg, q⟩ := onL_of h
  unfold gInsert at hg
  split at hg
  · obtain ⟨c, e⟩ := ite_some' hg
    cases e
    obtain ⟨w0, w1, rfl, r0, r1⟩ := rvs2 ra
    cases int_of r0
    refine mt_insert pins s σ H _ _ _ _ Q I ru rus ⟨a, ws, _, w1, rfl, rfl, hH, by rw [← rx.length]; exact c.1, c.2.1, c.2.2, q _ _ (((rx.take _).append (.cons r1 .nil)).append (rx.drop _)) .non⟩
  · cases hg
/-- l.extend(m), both lists that may be written -/
def mExtend : FM
  | .ref n, [.ref m], S => match S[n]?, S[m]? with
    | some (.lst xs), some (.lst ys) => if xs.length + ys.length ≤ sizeLine then some (.non, S.set n (.lst (xs ++ ys))) else none
    | _, _ => none
  | _, _, _ => none
theorem mt_mExtend : MtR X "list.extend" (rM X.K mExtend) := by
  intro pins s σ H u us v vs Q I ru rus ⟨ι, S, x, args, P, rs, rx, ra, hf, hP⟩
  unfold mExtend at hf
  split at hf
  · obtain ⟨a, rfl, ha⟩ := ref_of rx
    obtain ⟨w, rfl, rw'⟩ := rvs1 ra
    obtain ⟨b, rfl, hb⟩ := ref_of rw'
    split at hf
    · rename_i hn hm
      obtain ⟨c, h⟩ := opt_ite hf
      obtain ⟨ws, hw, q⟩ := at_lst rs hn ha
      obtain ⟨ws2, hw2, q2⟩ := at_lst rs hm hb
      obtain ⟨rs', E⟩ := rs.write (c' := .lst _) (o' := .lst (ws ++ ws2)) hn ha rfl rfl fun E => ⟨_, upd_same, (q.append q2).mono E⟩
      exact mt_extend pins s σ H _ _ _ _ Q I ru rus ⟨a, b, ws, ws2, rfl, rfl, hw, hw2, by rw [← q.length, ← q2.length]; exact c, hP _ _ h ι _ _ E rs' .non⟩
    · exact hf.elim
  · exact hf.elim

/-! ### items -/
def fIx : F2
  | .tup xs, .int i, S => (atI xs i).map fun v => (v, S)
  | .ref n, .int i, S => match S[n]? with
    | some c => match c.items with
      | some xs => (atI xs i).map fun v => (v, S)
      | none => none
    | none => none
  | .str z, .int i, S => if z.length ≤ sizeLine then (atI z.cps.toList i).map fun c => (.str ⟨#[c]⟩, S) else none
  | _, _, _ => none
theorem atI_rel {K : PySem.W.Frag} {ι : List Addr} {H : Hp} {xs : List PV} {us : List V} {i : Int} {x : PV} (r : RVs K ι H xs us) (h : atI xs i = some x) : ∃ v, atI us i = some v ∧ RV K ι H x v := by
  unfold atI at h ⊢
  rw [← r.length]
  cases e : ixN xs.length i with
  | none => rw [e] at h; cases h
  | some j =>
    rw [e] at h
    obtain ⟨v, h1, h2⟩ := r.get (show xs[j]? = some x from h)
    exact ⟨v, h1, h2⟩
theorem ix_fIx : IxR X (rOp X.K fIx) := by
  intro value slice pins s σ H u v uu vv Q I ru rv ⟨ι, S, x, y, P, rs, rx, ry, hf, hP⟩ hsub
  unfold fIx at hf
  split at hf
  · obtain ⟨a, us, rfl, sa, qa⟩ := tup_of rx
    cases int_of ry
    obtain ⟨z, hz, hp⟩ := opt_map hf
    obtain ⟨w, h1, h2⟩ := atI_rel qa hz
    exact ix_tup value slice pins s σ H _ _ _ _ Q I ru rv ⟨a, us, _, w, rfl, rfl, sa, h1, hP _ _ hp ι H w .refl rs h2⟩ hsub
  · obtain ⟨a, rfl, ha⟩ := ref_of rx
    cases int_of ry
    split at hf
    · rename_i c hc
      split at hf
      · rename_i xs hx
        obtain ⟨us, hu, q⟩ := at_seq rs hc hx ha
        obtain ⟨z, hz, hp⟩ := opt_map hf
        obtain ⟨w, h1, h2⟩ := atI_rel q hz
        exact ix_list value slice pins s σ H _ _ _ _ Q I ru rv ⟨a, us, _, w, rfl, rfl, hu, h1, hP _ _ hp ι H w .refl rs h2⟩ hsub
      · exact hf.elim
    · exact hf.elim
  · cases str_of rx
    cases int_of ry
    split at hf
    · rename_i hl
      obtain ⟨c, hz, hp⟩ := opt_map' hf
      exact ix_str value slice pins s σ H _ _ _ _ Q I ru rv ⟨_, _, c, rfl, rfl, hl, hz, hP _ _ hp ι H _ .refl rs (.str _)⟩ hsub
    · exact hf.elim
  · exact hf.elim
theorem re_ix {a b : Expr} {wa wb : W} {pos : Pos} (ha : RE X a wa) (hb : RE X b wb) (hs : PlainIx b := by intro _ _; rfl) : RE X (.Subscript a b pos) (wOp fIx wa wb) := ⟨PE.weak (pe_ix ix_fIx ha.pe hb.pe hs) fun _ _ _ h => tOp_of h⟩

/-! ### slices -/
abbrev WO := PEnv → Store → (Option Int → Store → Prop) → Prop
def tWO (K : PySem.W.Frag) (w : WO) : TO := fun σ H Q => ∃ ι env S, ∃ P : Option Int → Store → Prop, REnv K ι H env σ ∧ RS K ι H S ∧ w env S P ∧ ∀ o S', P o S' → ∀ ι' H', Ext ι ι' H H' → RS K ι' H' S' → Q o H'
structure RO (X : Cx) (e : Option Expr) (w : WO) : Prop where
  po : PO X e (tWO X.K w)
theorem PO.weak {e : Option Expr} {t t' : TO} (h : PO X e t) (i : ∀ σ H Q, t' σ H Q → t σ H Q) : PO X e t' := by
  obtain ⟨r⟩ := h
  exact ⟨fun pins s σ H Q I q => r pins s σ H Q I (i σ H Q q)⟩
def wNoP : WO := fun _ S P => P none S
def wP (w : W) : WO := fun env S P => w env S fun x S1 => match x with
  | .int i => P (some i) S1
  | _ => False
theorem ro_none : RO X none wNoP := ⟨PO.weak po_none fun σ H Q ⟨ι, env, S, P, re, rs, hw, hP⟩ => hP _ _ hw ι H .refl rs⟩
theorem ro_some {e : Expr} {w : W} (h : RE X e w) : RO X (some e) (wP w) := by
  refine ⟨PO.weak (po_some h.pe) fun σ H Q ⟨ι, env, S, P, re, rs, hw, hP⟩ => ⟨ι, env, S, _, re, rs, hw, fun x S1 hx ι1 H1 v e1 rs1 rx => ?_⟩⟩
  cases x with
  | int i => cases int_of rx; exact ⟨i, rfl, hP _ _ hx ι1 H1 e1 rs1⟩
  | _ => exact hx.elim
def cutP (xs : List PV) (lo hi : Option Int) : List PV := (xs.drop (HT.sIx xs.length 0 lo)).take (HT.sIx xs.length xs.length hi - HT.sIx xs.length 0 lo)
theorem cut_rel {K : PySem.W.Frag} {ι : List Addr} {H : Hp} {xs : List PV} {us : List V} {lo hi : Option Int} (r : RVs K ι H xs us) : RVs K ι H (cutP xs lo hi) (cutV us lo hi) := by
  unfold cutP cutV
  rw [r.length]
  exact (r.drop _).take _
theorem cutP_whole {xs : List PV} {lo hi : Option Int} (h : HT.sIx xs.length 0 lo = 0 ∧ HT.sIx xs.length xs.length hi = xs.length) : cutP xs lo hi = xs := by
  unfold cutP
  rw [h.1, h.2]
  simp
abbrev FS := PV → Option Int → Option Int → Store → Option (PV × Store)
def fSl : FS
  | .tup xs, lo, hi, S => some (.tup (cutP xs lo hi), S)
  | .ref n, lo, hi, S => match S[n]? with
    | some c => match c.items with
      | some xs => some (.ref S.length, S ++ [.lst (cutP xs lo hi)])
      | none => none
    | none => none
  | .str z, lo, hi, S => if z.length ≤ sizeLine then some (.str (cutS z lo hi), S) else none
  | _, _, _, _ => none
def rSl (K : PySem.W.Frag) : V → Option Int → Option Int → Hp → VK → Prop := fun u lo hi H Q => ∃ ι S x, ∃ P : PQ, RS K ι H S ∧ RV K ι H x u ∧ opt (fSl x lo hi S) P ∧ ∀ z S', P z S' → Fin K ι H Q z S'
theorem sl_fSl : SlR X (rSl X.K) := by
  intro pins s σ H u v vl vu lo hi sl Q I ru hs pl pu ⟨ι, S, x, P, rs, rx, hf, hP⟩
  unfold fSl at hf
  split at hf
  · obtain ⟨a, us, rfl, sa, qa⟩ := tup_of rx
    refine sl_tupA pins s σ H _ _ _ _ _ _ _ Q I ru hs pl pu ⟨a, us, rfl, sa, fun h => ?_, fun _ => new_tup rs (cut_rel qa) hP hf⟩
    rw [← qa.length] at h
    have e := cutP_whole h
    have hf' : P (.tup (cutP _ lo hi)) S := hf
    rw [e] at hf'
    exact hP _ _ hf' ι H _ .refl rs (.tup sa qa)
  · obtain ⟨a, rfl, ha⟩ := ref_of rx
    split at hf
    · rename_i c hc
      split at hf
      · rename_i xs hx
        obtain ⟨us, hu, q⟩ := at_seq rs hc hx ha
        exact sl_list pins s σ H _ _ _ _ _ _ _ Q I ru hs pl pu ⟨a, us, rfl, hu, new_lst rs (cut_rel q) hP hf⟩
      · exact hf.elim
    · exact hf.elim
  · cases str_of rx
    obtain ⟨c, h⟩ := opt_ite hf
    exact sl_str pins s σ H _ _ _ _ _ _ _ Q I ru hs pl pu ⟨_, rfl, c, hP _ _ h ι H _ .refl rs (.str _)⟩
  · exact hf.elim
def wSl (wa : W) (wl wh : WO) : W := fun env S P => wa env S fun x S1 => wl env S1 fun l S2 => wh env S2 fun h S3 => opt (fSl x l h S3) P
theorem re_slice {e : Expr} {lo hi : Option Expr} {wa : W} {wl wh : WO} {p2 pos : Pos} (ha : RE X e wa) (hl : RO X lo wl) (hh : RO X hi wh) : RE X (.Subscript e (.Slice lo hi none p2) pos) (wSl wa wl wh) := by
  refine ⟨PE.weak (pe_slice sl_fSl ha.pe hl.po hh.po) fun σ H Q ⟨ι, env, S, P, re, rs, hw, hP⟩ => ⟨ι, env, S, _, re, rs, hw, fun x S1 hx ι1 H1 v e1 rs1 rx => ?_⟩⟩
  refine ⟨ι1, env, S1, _, re.mono e1, rs1, hx, fun l S2 h2 ι2 H2 e2 rs2 => ⟨ι2, env, S2, _, re.mono (e1.trans e2), rs2, h2, fun h S3 h3 ι3 H3 e3 rs3 => ?_⟩⟩
  exact ⟨ι3, S3, x, P, rs3, rx.mono (e2.trans e3), h3, fin_ext ((e1.trans e2).trans e3) hP⟩

/-! ### dicts by written keys -/
theorem kV_key {K : PySem.W.Frag} {ι : List Addr} {H : Hp} {k : Key} : RV K ι H (match k with | .inl i => .int i | .inr x => .str x) (kV k) := by
  cases k with
  | inl i => exact .int i
  | inr x => exact .str x
def lookK (k : Key) : List (Key × PV) → Option PV
  | [] => none
  | (j, x) :: r => if j = k then some x else lookK k r
def putP (kvs : List (Key × PV)) (k : Key) (y : PV) : List (Key × PV) :=
  if (kvs.any fun kv => decide (kv.1 = k)) = true then kvs.map (fun kv => if kv.1 = k then (kv.1, y) else kv) else kvs ++ [(k, y)]
def keyOf : PV → Option Key
  | .int i => some (.inl i)
  | .str x => some (.inr x)
  | _ => none
theorem keyOf_of {K : PySem.W.Frag} {ι : List Addr} {H : Hp} {y : PV} {v : V} {k : Key} (r : RV K ι H y v) (h : keyOf y = some k) : v = kV k := by
  unfold keyOf at h
  split at h
  · cases h; exact int_of r
  · cases h; exact str_of r
  · cases h
theorem RKs.look {K : PySem.W.Frag} {ι : List Addr} {H : Hp} {k : Key} : ∀ {kvs : List (Key × PV)} {us : List (Key × V)} {x : PV}, RKs K ι H kvs us → lookK k kvs = some x → ∃ v, valV us k = some v ∧ RV K ι H x v
  | _, _, _, .nil, e => by cases e
  | _, _, _, .cons (k := j) r t, e => by
    unfold lookK at e
    split at e
    · rename_i hj
      cases e
      exact ⟨_, valV_pos hj, r⟩
    · rename_i hj
      obtain ⟨v, h1, h2⟩ := t.look e
      exact ⟨v, by rw [valV_neg hj]; exact h1, h2⟩
theorem RKs.length {K : PySem.W.Frag} {ι : List Addr} {H : Hp} : ∀ {kvs : List (Key × PV)} {us : List (Key × V)}, RKs K ι H kvs us → kvs.length = us.length
  | _, _, .nil => rfl
  | _, _, .cons _ t => congrArg (· + 1) t.length

theorem RKs.any {K : PySem.W.Frag} {ι : List Addr} {H : Hp} {k : Key} : ∀ {kvs : List (Key × PV)} {us : List (Key × V)}, RKs K ι H kvs us → (kvs.any fun kv => decide (kv.1 = k)) = (us.any fun kv => decide (kv.1 = k))
  | _, _, .nil => rfl
  | _, _, .cons r t => by simp only [List.any_cons, t.any]
theorem RKs.repl {K : PySem.W.Frag} {ι : List Addr} {H : Hp} {k : Key} {y : PV} {v : V} (r : RV K ι H y v) : ∀ {kvs : List (Key × PV)} {us : List (Key × V)}, RKs K ι H kvs us →
    RKs K ι H (kvs.map fun kv => if kv.1 = k then (kv.1, y) else kv) (us.map fun kv => if kv.1 = k then (kv.1, v) else kv)
  | _, _, .nil => .nil
  | _, _, .cons (k := j) q t => by
    simp only [List.map_cons]
    by_cases e : j = k
    · rw [if_pos e, if_pos e]; exact .cons r (RKs.repl r t)
    · rw [if_neg e, if_neg e]; exact .cons q (RKs.repl r t)
theorem RKs.snoc {K : PySem.W.Frag} {ι : List Addr} {H : Hp} {k : Key} {y : PV} {v : V} (r : RV K ι H y v) : ∀ {kvs : List (Key × PV)} {us : List (Key × V)}, RKs K ι H kvs us → RKs K ι H (kvs ++ [(k, y)]) (us ++ [(k, v)])
  | _, _, .nil => .cons r .nil
  | _, _, .cons q t => .cons q (RKs.snoc r t)
theorem RKs.put {K : PySem.W.Frag} {ι : List Addr} {H : Hp} {k : Key} {y : PV} {v : V} {kvs : List (Key × PV)} {us : List (Key × V)} (h : RKs K ι H kvs us) (r : RV K ι H y v) : RKs K ι H (putP kvs k y) (putK us k v) := by
  unfold putP putK
  rw [h.any (k := k)]
  split
  · exact h.repl r
  · exact h.snoc r
def fGet : F2 := fun x y S => match x, keyOf y with
  | .ref n, some k => match S[n]? with
    | some (.dic kvs) => (lookK k kvs).map fun v => (v, S)
    | _ => none
  | _, _ => none
theorem re_dget {o i : Expr} {wo wi : W} {pos : Pos} (hu : X.A.units + 1 < cLine) (ho : RE X o wo) (hi : RE X i wi) (hs : NoSl i := by intro _ _; rfl) : RE X (.Subscript o i pos) (wOp fGet wo wi) := by
  refine ⟨PE.weak (pe_dget hu ho.pe hi.pe hs) fun σ H Q h => ?_⟩
  refine tW_imp (tW_bind (k := fun x env S P => wi env S fun y S2 => opt (fGet x y S2) P) h) fun v H1 h1 => ?_
  refine tW_imp (tK_bind (k := fun x y env S P => opt (fGet x y S) P) h1) fun u H2 h2 => ?_
  obtain ⟨ι, env, S, x, y, P, re, rs, rx, ry, hf, hP⟩ := h2
  unfold fGet at hf
  split at hf
  · rename_i n k hk
    obtain ⟨a, rfl, ha⟩ := ref_of rx
    cases keyOf_of ry hk
    split at hf
    · rename_i kvs hn
      obtain ⟨us, hu', q⟩ := at_dic rs hn ha
      obtain ⟨z, hz, hp⟩ := opt_map hf
      obtain ⟨w, h1, h2⟩ := q.look hz
      exact ⟨a, w, rfl, by rw [← h1]; exact DGet.k hu', hP _ _ hp ι H2 w .refl rs h2⟩
    · exact hf.elim
  · exact hf.elim
/-! {k: v, ..} with written keys -/
def wPairs : List (Key × W) → PEnv → Store → (List (Key × PV) → Store → Prop) → Prop
  | [], _, S, P => P [] S
  | (k, w) :: r, env, S, P => w env S fun x S1 => wPairs r env S1 fun kvs S2 => P ((k, x) :: kvs) S2
/-- the new dict stands empty while the pairs are made -/
def wDict (ps : List (Key × W)) : W := fun env S P => wPairs ps env (S ++ [.dic []]) fun kvs S1 => S1[S.length]? = some (.dic []) ∧ kvs.length ≤ 15 ∧ P (.ref S.length) (S1.set S.length (.dic (kvs.foldl (fun acc kv => putP acc kv.1 kv.2) [])))
def keyE : Key → Const
  | .inl i => .int i
  | .inr x => .str x
def keyT : Key → TE
  | .inl i => tC (.int i)
  | .inr x => tC (.str x)
inductive RPs (X : Cx) (pos : Pos) : List (Option Expr) → List Expr → List (Key × W) → Prop
  | nil : RPs X pos [] [] []
  | cons {k : Key} {j : Nat} {p : Pos} {e : Expr} {w : W} {ks : List (Option Expr)} {vs : List Expr} {ps : List (Key × W)} : RE X e w → RPs X pos ks vs ps → RPs X pos (some (.Constant (keyE k) j p) :: ks) (e :: vs) ((k, w) :: ps)
theorem pps_of {pos : Pos} : ∀ {ks : List (Option Expr)} {vs : List Expr} {ps : List (Key × W)}, RPs X pos ks vs ps → PPs X pos ks vs (ps.map fun p => (keyT p.1, tW X.K p.2))
  | _, _, _, .nil => pps_nil
  | _, _, _, .cons (k := k) h r => by
    refine pps_cons ?_ h.pe (pps_of r)
    cases k with
    | inl i => exact pe_int
    | inr x => exact pe_str
theorem pairs_of {K : PySem.W.Frag} {σ : LSt} : ∀ {ps : List (Key × W)} {H : Hp} {Q : List (V × V) → Hp → Prop} {ι : List Addr} {env : PEnv} {S : Store} {P : List (Key × PV) → Store → Prop}, REnv K ι H env σ → RS K ι H S → wPairs ps env S P →
    (∀ kvs S', P kvs S' → ∀ ι' H' us, Ext ι ι' H H' → RS K ι' H' S' → RKs K ι' H' kvs us → Q (us.map fun u => (kV u.1, u.2)) H') → tPairs (ps.map fun p => (keyT p.1, tW K p.2)) σ H Q
  | [], H, Q, ι, env, S, P, re, rs, hw, hP => hP [] S hw ι H [] .refl rs .nil
  | (k, w) :: r, H, Q, ι, env, S, P, re, rs, hw, hP => by
    have go : tW K w σ H fun v H1 => tPairs (r.map fun p => (keyT p.1, tW K p.2)) σ H1 fun ps H2 => Q ((kV k, v) :: ps) H2 := by
      refine ⟨ι, env, S, _, re, rs, hw, fun x S1 hx ι1 H1 v e1 rs1 rx => ?_⟩
      refine pairs_of (re.mono e1) rs1 hx fun kvs S2 h2 ι2 H2 us e2 rs2 rk => ?_
      exact hP _ _ h2 ι2 H2 ((k, v) :: us) (e1.trans e2) rs2 (.cons (rx.mono e2) rk)
    cases k with
    | inl i => exact go
    | inr x => exact go
theorem RKs.merge {K : PySem.W.Frag} {ι : List Addr} {H : Hp} : ∀ {more : List (Key × PV)} {us : List (Key × V)} {kvs : List (Key × PV)} {ws : List (Key × V)}, RKs K ι H more us → RKs K ι H kvs ws → RKs K ι H (more.foldl (fun acc kv => putP acc kv.1 kv.2) kvs) (mergeK ws us)
  | _, _, _, _, .nil, h => h
  | _, _, _, _, .cons r t, h => by
    unfold mergeK
    simp only [List.foldl_cons]
    exact RKs.merge t (h.put r)
theorem re_dict {ks : List (Option Expr)} {vs : List Expr} {ps : List (Key × W)} {pos : Pos} (h : RPs X pos ks vs ps) (hall : ks.all (·.isSome) = true := by rfl) (hl : ks.length = vs.length := by rfl) (h0 : ks ≠ [] := by intro z; cases z) (h15 : ks.length ≤ 15 := by decide) : RE X (.Dict ks vs pos) (wDict ps) := by
  refine ⟨PE.weak (pe_disp (pps_of h) hall hl h0 h15) fun σ H Q ⟨ι, env, S, P, re, rs, hw, hP⟩ p hp => ?_⟩
  have E : Ext ι (ι ++ [p]) H (upd H p (.dK [])) := ext_new hp
  have rs1 : RS X.K (ι ++ [p]) (upd H p (.dK [])) (S ++ [.dic []]) := rs.cell hp ⟨[], upd_same, .nil⟩
  have hat : (ι ++ [p])[S.length]? = some p := by rw [← rs.len, List.getElem?_append_right (Nat.le_refl _), Nat.sub_self]; rfl
  refine pairs_of (re.mono E) rs1 hw fun kvs S2 h2 ι2 H2 us e2 rs2 rk => ?_
  obtain ⟨g1, g2, g3⟩ := h2
  have hat2 := e2.pre _ _ hat
  obtain ⟨ws, hw2, q⟩ := at_dic rs2 g1 hat2
  cases q
  refine ⟨hw2, us, rfl, by rw [← rk.length]; exact g2, ?_⟩
  obtain ⟨rs3, E3⟩ := rs2.write (c' := .dic (kvs.foldl (fun acc kv => putP acc kv.1 kv.2) [])) (o' := .dK (mergeK [] us)) g1 hat2 rfl rfl fun E3 => ⟨_, upd_same, (RKs.merge rk .nil).mono E3⟩
  exact hP _ _ g3 ι2 _ _ ((E.trans e2).trans E3) rs3 (.ref hat2)
theorem re_dict0 {pos : Pos} : RE X (.Dict [] [] pos) (fun _ S P => P (.ref S.length) (S ++ [.dic []])) := by
  refine ⟨PE.weak pe_dnewK fun σ H Q ⟨ι, env, S, P, re, rs, hw, hP⟩ p hp => ?_⟩
  refine hP _ _ hw _ _ _ (ext_new hp) (rs.cell hp ⟨[], upd_same, .nil⟩) (.ref ?_)
  rw [← rs.len, List.getElem?_append_right (Nat.le_refl _), Nat.sub_self]; rfl
end
end Lt
set_option Elab.async false
set_option linter.all false
set_option maxRecDepth 100000
/-! Lt5: targets, what is walked, comprehensions, statements. -/
namespace Lt
open PySem PySem.Spec PyProof.Rows L2

/-! ### targets -/
abbrev WG := PV → PEnv → Option PEnv
abbrev WGs := List PV → PEnv → Option PEnv
def SameW (sl : List Nat) (σ σ' : LSt) : Prop := ∀ vs : List Nat, (∀ i ∈ sl, i ∈ vs) → wipe σ' vs = wipe σ vs
def tG (K : PySem.W.Frag) (g : WG) (sl : List Nat) : TG := fun v σ H Q => ∃ ι x env env', REnv K ι H env σ ∧ RV K ι H x v ∧ g x env = some env' ∧ ∀ σ', REnv K ι H env' σ' → SameW sl σ σ' → Q σ' H
def tGs (K : PySem.W.Frag) (g : WGs) (sl : List Nat) : TGs := fun vs σ H Q => ∃ ι xs env env', REnv K ι H env σ ∧ RVs K ι H xs vs ∧ g xs env = some env' ∧ ∀ σ', REnv K ι H env' σ' → SameW sl σ σ' → Q σ' H
structure RG (X : Cx) (target : Expr) (g : WG) (sl : List Nat) : Prop where
  pg : PG X target (tG X.K g sl)
structure RGs (X : Cx) (ts : List Expr) (g : WGs) (sl : List Nat) (n : Nat) : Prop where
  pg : PGs X ts (tGs X.K g sl)
  len : ∀ xs env env', g xs env = some env' → xs.length = n
theorem PG.weak {X : Cx} {e : Expr} {t t' : TG} (h : PG X e t) (i : ∀ v σ H Q, t' v σ H Q → t v σ H Q) : PG X e t' := ⟨fun pins s σ H v u Q I r q => h.run pins s σ H v u Q I r (i v σ H Q q)⟩
theorem PGs.weak {X : Cx} {e : List Expr} {t t' : TGs} (h : PGs X e t) (i : ∀ v σ H Q, t' v σ H Q → t v σ H Q) : PGs X e t' := ⟨fun pins s σ H v u Q I r q => h.run pins s σ H v u Q I r (i v σ H Q q)⟩
theorem wipe_get (σ : LSt) (j : Nat) : ∀ vs : List Nat, (wipe σ vs)[j]? = if j ∈ vs then (σ[j]?).map (fun _ => (none : Option V)) else σ[j]?
  | [] => by simp [wipe]
  | v :: vs => by
    unfold wipe
    have ih := wipe_get σ j vs
    by_cases h : v = j
    · subst h
      rw [if_pos (List.mem_cons_self ..)]
      by_cases hl : v < (wipe σ vs).length
      · rw [List.getElem?_set_self hl]
        have hl2 : v < σ.length := by rw [wipe_length] at hl; exact hl
        rw [List.getElem?_eq_getElem hl2]; rfl
      · rw [List.getElem?_eq_none (by simpa using hl)]
        have hl2 : ¬ v < σ.length := by rw [wipe_length] at hl; exact hl
        rw [List.getElem?_eq_none (by omega)]; rfl
    · rw [List.getElem?_set_ne h, ih]
      have : (j ∈ v :: vs) ↔ j ∈ vs := by
        rw [List.mem_cons]
        exact ⟨fun q => q.elim (fun z => absurd z.symm h) id, .inr⟩
      by_cases hj : j ∈ vs
      · rw [if_pos hj, if_pos (this.mpr hj)]
      · rw [if_neg hj, if_neg (fun q => hj (this.mp q))]
theorem sameW_set {σ : LSt} {i : Nat} {v : Option V} : SameW [i] σ (σ.set i v) := fun vs h => by
  have hi : i ∈ vs := h i (List.mem_cons_self ..)
  apply List.ext_getElem?
  intro j
  rw [wipe_get, wipe_get]
  by_cases hj : i = j
  · subst hj
    rw [if_pos hi, if_pos hi]
    by_cases hl : i < σ.length
    · rw [List.getElem?_set_self hl, List.getElem?_eq_getElem hl]; rfl
    · rw [List.getElem?_eq_none (by simpa using hl), List.getElem?_eq_none (by simpa using hl)]
  · rw [List.getElem?_set_ne hj]
theorem SameW.trans {a b : List Nat} {σ σ' σ'' : LSt} (h : SameW a σ σ') (h' : SameW b σ' σ'') : SameW (a ++ b) σ σ'' := fun vs hv =>
  (h' vs fun i hi => hv i (List.mem_append_right _ hi)).trans (h vs fun i hi => hv i (List.mem_append_left _ hi))
theorem REnv.set {K : PySem.W.Frag} {ι : List Addr} {H : Hp} {env : PEnv} {σ : LSt} (h : REnv K ι H env σ) {i : Nat} {x : PV} {v : V} (r : RV K ι H x v) : REnv K ι H (env.set i (some x)) (σ.set i (some v)) := by
  refine ⟨by rw [List.length_set, List.length_set]; exact h.len, fun j y hy => ?_⟩
  by_cases hj : i = j
  · subst hj
    have hl : i < env.length := by
      have := (List.getElem?_eq_some_iff.mp hy).1
      rwa [List.length_set] at this
    rw [List.getElem?_set_self hl] at hy
    cases hy
    exact ⟨v, by rw [List.getElem?_set_self (by rw [← h.len]; exact hl)], r⟩
  · rw [List.getElem?_set_ne hj] at hy
    obtain ⟨w, h1, h2⟩ := h.at_ j y hy
    exact ⟨w, by rw [List.getElem?_set_ne hj]; exact h1, h2⟩
section
variable {X : Cx} {pos : Pos}
def gN (i : Nat) : WG := fun x env => some (env.set i (some x))
theorem rg_name (i : Nat) {x : Str} (hN : X.N.Nodup) (hi : X.N[i]? = some x := by rfl) (hx : Loc X.env.scope x := by first | exact Or.inl rfl | exact Or.inr rfl)
    (hf : X.fn x = true ∨ X.env.scope.names.lookup x = some .local := by first | exact .inl rfl | exact .inr rfl | assumption) : RG X (.Name x pos) (gN i) [i] := by
  refine ⟨PG.weak (pg_name hN hi hx hf) fun v σ H Q ⟨ι, x, env, env', re, rx, hg, hQ⟩ => ?_⟩
  cases hg
  exact hQ _ (re.set rx) sameW_set
def gsN : WGs := fun xs env => match xs with
  | [] => some env
  | _ :: _ => none
def gsC (g : WG) (r : WGs) : WGs := fun xs env => match xs with
  | [] => none
  | x :: xs => (g x env).bind fun env1 => r xs env1
theorem rgs_nil : RGs X [] gsN [] 0 := by
  refine ⟨PGs.weak pgs_nil fun vs σ H Q ⟨ι, xs, env, env', re, rx, hg, hQ⟩ => ?_, fun xs env env' h => ?_⟩
  · cases rx with
    | nil => cases hg; exact ⟨rfl, hQ σ re fun _ _ => rfl⟩
    | cons _ _ => cases hg
  · cases xs with
    | nil => rfl
    | cons _ _ => cases h
theorem rgs_cons {e : Expr} {es : List Expr} {g : WG} {r : WGs} {a b : List Nat} {n : Nat} (h1 : RG X e g a) (h2 : RGs X es r b n)
    (hs : (assignEach (e :: es) X.env).map (·.2) = assign e X.env :: (assignEach es X.env).map (·.2) := by rfl) : RGs X (e :: es) (gsC g r) (a ++ b) (n + 1) := by
  refine ⟨PGs.weak (pgs_cons h1.pg h2.pg hs) fun vs σ H Q ⟨ι, xs, env, env', re, rx, hg, hQ⟩ => ?_, fun xs env env' h => ?_⟩
  · cases rx with
    | nil => cases hg
    | cons rx rt =>
      obtain ⟨env1, e1, e2⟩ := Option.bind_eq_some_iff.mp hg
      refine ⟨_, _, rfl, ι, _, env, env1, re, rx, e1, fun σ1 re1 s1 => ?_⟩
      exact ⟨ι, _, env1, env', re1, rt, e2, fun σ2 re2 s2 => hQ σ2 re2 (s1.trans s2)⟩
  · cases xs with
    | nil => cases h
    | cons x xs =>
      obtain ⟨env1, e1, e2⟩ := Option.bind_eq_some_iff.mp h
      rw [List.length_cons, h2.len _ _ _ e2]
def gT (r : WGs) : WG := fun x env => match x with
  | .tup xs => r xs env
  | _ => none
theorem rg_tup {es : List Expr} {k n : Nat} {r : WGs} {a : List Nat} (hc : X.calm = true) (h : RGs X es r a n)
    (hn : (assignEach es X.env).length = n := by rfl) (hst : (assignEach es X.env).findIdx? (·.1) = none := by rfl) : RG X (.Tuple es k pos) (gT r) a := by
  refine ⟨PG.weak (pg_tup hc h.pg hn hst) fun v σ H Q ⟨ι, x, env, env', re, rx, hg, hQ⟩ => ?_⟩
  cases x with
  | tup xs =>
    obtain ⟨b, us, rfl, s, q⟩ := tup_of rx
    exact ⟨b, us, rfl, s, by rw [← q.length]; exact h.len _ _ _ hg, ι, xs, env, env', re, q, hg, hQ⟩
  | _ => cases hg
end

/-! ### what is walked -/
abbrev PIt := Nat → Store → Option (Option PV)
abbrev WI := PEnv → Store → (PIt → Store → Prop) → Prop
def PItOk (K : PySem.W.Frag) (J : It) (g : PIt) (ι0 : List Addr) (H0 : Hp) : Prop := ∀ ι H S i, Ext ι0 ι H0 H → RS K ι H S →
  (g i S = some none → J.stop i H) ∧ ∀ x, g i S = some (some x) → J.go i H ∧ ∀ v H', J.yld i H v H' → Ext ι ι H H' ∧ RS K ι H' S ∧ RV K ι H' x v
def tWI (K : PySem.W.Frag) (w : WI) : TI := fun σ H R => ∃ ι env S, ∃ P : PIt → Store → Prop, REnv K ι H env σ ∧ RS K ι H S ∧ w env S P ∧ ∀ g S', P g S' → ∀ ι' H' J, Ext ι ι' H H' → RS K ι' H' S' → PItOk K J g ι' H' → R J H'
structure RI (X : Cx) (tg iter : Expr) (w : WI) : Prop where
  pi : PI X tg iter (tWI X.K w)
theorem PI.weak {X : Cx} {tg e : Expr} {t t' : TI} (h : PI X tg e t) (i : ∀ σ H R, t' σ H R → t σ H R) : PI X tg e t' := ⟨fun pins s σ H R I q => h.run pins s σ H R I (i σ H R q)⟩
/-- a list or a tuple, whichever comes -/
theorem pi_seq {X : Cx} {tg l : Expr} {tl : TE} (hl : PE X l tl) : PI X tg l (fun σ H R => tl σ H fun x H1 => ∃ a, x = .ref a ∧ (((∃ xs, SqL X.K H1 a xs) ∧ R (Itl X.K a) H1) ∨ ((∃ xs, SqT X.K H1 a xs) ∧ R (Itt X.K a) H1))) := by
  refine ⟨fun pins s σ H R I h => thn (hl.run pins s σ H _ I h) fun v s1 hv => ?_⟩
  obtain ⟨x, H1, I1, r1, a, rfl, hq⟩ := hv
  cases r1
  have fp : ∀ b ∈ [s1.heap.objs.size], FpOk X pins H1 b := fun b hb => by
    rw [show b = s1.heap.objs.size by simpa using hb]
    exact I1.fpOk (Nat.le_refl _) (I1.hok.fresh (Nat.le_refl _))
  rcases hq with ⟨⟨xs, hq⟩, q⟩ | ⟨⟨xs, hq⟩, q⟩
  · obtain ⟨its, _, p, _⟩ := I1.list hq
    refine wpAny_pyIter_list p.isList ?_
    exact ⟨_, _, _, _, H1, rfl, I1.kept (t' := s1.toks) (fun b o e => Heap.get?_push_of_some _ e), turn_list a _, ⟨_, Heap.get?_push_size _ rfl, rfl, rfl⟩, fp, q⟩
  · obtain ⟨its, _, p, _⟩ := I1.tuple hq
    refine wpAny_pyIter_tuple (show s1.heap.IsTuple a its.toArray from p) ?_
    exact ⟨_, _, _, _, H1, rfl, I1.kept (t' := s1.toks) (fun b o e => Heap.get?_push_of_some _ e), turn_tuple a _, ⟨_, Heap.get?_push_size _ rfl, rfl, rfl⟩, fp, q⟩
def gL (n : Nat) : PIt := fun i S => match S[n]? with
  | some c => match c.items with
    | some xs => some xs[i]?
    | none => none
  | none => none
def gTu (xs : List PV) : PIt := fun i _ => some xs[i]?
def wSeqI (w : W) : WI := fun env S P => w env S fun x S1 => match x with
  | .tup xs => P (gTu xs) S1
  | .ref n => (∃ c xs, S1[n]? = some c ∧ c.items = some xs) ∧ P (gL n) S1
  | _ => False
theorem it_lst {K : PySem.W.Frag} {ι : List Addr} {H : Hp} {n : Nat} {a : Addr} (ha : ι[n]? = some a) : PItOk K (Itl K a) (gL n) ι H := by
  intro ι1 H1 S i e rs
  have ha1 := e.pre n a ha
  have key : ∀ r, gL n i S = some r → ∃ xs us, SqL K H1 a us ∧ RVs K ι1 H1 xs us ∧ r = xs[i]? := fun r h => by
    unfold gL at h
    split at h
    · rename_i c hc
      split at h
      · rename_i xs hx
        obtain ⟨us, hu, q⟩ := at_seq rs hc hx ha1
        exact ⟨xs, us, hu, q, (Option.some.inj h).symm⟩
      · cases h
    · cases h
  refine ⟨fun h => ?_, fun x h => ?_⟩
  · obtain ⟨xs, us, hu, q, e⟩ := key _ h
    exact ⟨us, hu, by rw [← q.length]; exact List.getElem?_eq_none_iff.mp e.symm⟩
  · obtain ⟨xs, us, hu, q, e⟩ := key _ h
    obtain ⟨v, h1, h2⟩ := q.get e.symm
    refine ⟨⟨us, v, hu, h1⟩, fun v' H' y => ?_⟩
    obtain ⟨rfl, y⟩ := y
    have := y us hu
    rw [h1] at this; cases this
    exact ⟨.refl, rs, h2⟩
theorem it_tup {K : PySem.W.Frag} {ι : List Addr} {H : Hp} {a : Addr} {xs : List PV} {us : List V} (ht : SqT K H a us) (r : RVs K ι H xs us) : PItOk K (Itt K a) (gTu xs) ι H := by
  intro ι1 H1 S i e rs
  have ht1 := e.sqT ht
  have r1 := r.mono e
  refine ⟨fun h => ?_, fun x h => ?_⟩
  · exact ⟨us, ht1, by rw [← r1.length]; exact List.getElem?_eq_none_iff.mp (Option.some.inj h)⟩
  · obtain ⟨v, h1, h2⟩ := r1.get (Option.some.inj h)
    refine ⟨⟨us, v, ht1, h1⟩, fun v' H' y => ?_⟩
    obtain ⟨rfl, y⟩ := y
    have := y us ht1
    rw [h1] at this; cases this
    exact ⟨.refl, rs, h2⟩
theorem ri_seq {X : Cx} {tg l : Expr} {w : W} (h : RE X l w) : RI X tg l (wSeqI w) := by
  refine ⟨PI.weak (pi_seq h.pe) fun σ H R ⟨ι, env, S, P, re, rs, hw, hP⟩ => ⟨ι, env, S, _, re, rs, hw, fun x S1 hx ι1 H1 v e1 rs1 rx => ?_⟩⟩
  cases x with
  | tup xs =>
    obtain ⟨a, us, rfl, s, q⟩ := tup_of rx
    exact ⟨a, rfl, .inr ⟨⟨us, s⟩, hP _ _ hx ι1 H1 _ e1 rs1 (it_tup s q)⟩⟩
  | ref n =>
    obtain ⟨a, rfl, ha⟩ := ref_of rx
    obtain ⟨⟨c, xs, hc, hi⟩, hp⟩ := hx
    obtain ⟨us, hu, q⟩ := at_seq rs1 hc hi ha
    exact ⟨a, rfl, .inl ⟨⟨us, hu⟩, hP _ _ hp ι1 H1 _ e1 rs1 (it_lst ha)⟩⟩
  | _ => exact hx.elim
def gR (lo : Int) (n : Nat) : PIt := fun i _ => if i < n then some (some (.int (lo + i))) else some none
theorem it_rng {K : PySem.W.Frag} {ι : List Addr} {H : Hp} {lo : Int} {n : Nat} : PItOk K (Itr lo n) (gR lo n) ι H := by
  intro ι1 H1 S i e rs
  refine ⟨fun h => ?_, fun x h => ?_⟩
  · unfold gR at h
    split at h
    · cases h
    · rename_i c; exact Nat.le_of_not_lt c
  · unfold gR at h
    split at h
    · rename_i c
      cases h
      refine ⟨c, fun v H' y => ?_⟩
      obtain ⟨rfl, rfl⟩ := y
      exact ⟨.refl, rs, .int _⟩
    · cases h
def wR1 (w : WA) : WI := fun env S P => w env S fun xs S1 => match xs with
  | [.int j] => (-(2 ^ 62) ≤ j ∧ j < 2 ^ 62) ∧ P (gR 0 j.toNat) S1
  | _ => False
def wR2 (w : WA) : WI := fun env S P => w env S fun xs S1 => match xs with
  | [.int i, .int j] => (-(2 ^ 62) ≤ i ∧ i < 2 ^ 62 ∧ -(2 ^ 62) ≤ j ∧ j < 2 ^ 62) ∧ P (gR i (j - i).toNat) S1
  | _ => False
theorem ri_range1 {X : Cx} {tg a : Expr} {w : WA} {p pos : Pos} (hg : Gl X "range") (hm : X.mg "range" = none) (ha : RA X [a] w) (hs : starEach [a] X.env = [(false, eval a X.env)] := by rfl) : RI X tg (.Call (.Name "range" p) [a] [] pos) (wR1 w) := by
  refine ⟨PI.weak (pi_range1 hg hm ha.pa hs) fun σ H R ⟨ι, env, S, P, re, rs, hw, hP⟩ => ⟨ι, env, S, _, re, rs, hw, fun xs S1 hx ι1 H1 vs e1 rs1 rx => ?_⟩⟩
  split at hx
  · obtain ⟨u, rfl, q⟩ := rvs1 rx
    cases int_of q
    exact ⟨_, rfl, hx.1.1, hx.1.2, hP _ _ hx.2 ι1 H1 _ e1 rs1 it_rng⟩
  · exact hx.elim
theorem ri_range2 {X : Cx} {tg a b : Expr} {w : WA} {p pos : Pos} (hg : Gl X "range") (hm : X.mg "range" = none) (ha : RA X [a, b] w) (hs : starEach [a, b] X.env = [(false, eval a X.env), (false, eval b X.env)] := by rfl) (hs2 : starEach [b] X.env = [(false, eval b X.env)] := by rfl) :
    RI X tg (.Call (.Name "range" p) [a, b] [] pos) (wR2 w) := by
  refine ⟨PI.weak (pi_range2 hg hm ha.pa hs hs2) fun σ H R ⟨ι, env, S, P, re, rs, hw, hP⟩ => ⟨ι, env, S, _, re, rs, hw, fun xs S1 hx ι1 H1 vs e1 rs1 rx => ?_⟩⟩
  split at hx
  · obtain ⟨u, v, rfl, q, q'⟩ := rvs2 rx
    cases int_of q; cases int_of q'
    exact ⟨_, _, rfl, hx.1, hP _ _ hx.2 ι1 H1 _ e1 rs1 it_rng⟩
  · exact hx.elim
/-- enumerate of a list -/
def gE (n : Nat) : PIt := fun i S => (gL n i S).map fun o => o.map fun x => .tup [.int (i : Nat), x]
def wEnum (w : WA) : WI := fun env S P => w env S fun xs S1 => match xs with
  | [.ref n] => (∃ c ys, S1[n]? = some c ∧ c.items = some ys) ∧ P (gE n) S1
  | _ => False
theorem ext_tup {ι : List Addr} {H : Hp} {p : Addr} {o : HO} (hp : H p = none) : Ext ι ι H (upd H p o) := by
  have := ext_new (ι := ι) (o := o) (l := []) hp
  rwa [List.append_nil] at this
theorem gL_of {K : PySem.W.Frag} {ι : List Addr} {H : Hp} {S : Store} {n i : Nat} {a : Addr} {r : Option PV} (rs : RS K ι H S) (ha : ι[n]? = some a) (h : gL n i S = some r) : ∃ xs us, SqL K H a us ∧ RVs K ι H xs us ∧ r = xs[i]? := by
  unfold gL at h
  split at h
  · rename_i c hc
    split at h
    · rename_i xs hx
      obtain ⟨us, hu, q⟩ := at_seq rs hc hx ha
      exact ⟨xs, us, hu, q, (Option.some.inj h).symm⟩
    · cases h
  · cases h
theorem it_enum {K : PySem.W.Frag} {ι : List Addr} {H : Hp} {n : Nat} {a : Addr} (ha : ι[n]? = some a) : PItOk K (Ite K a) (gE n) ι H := by
  intro ι1 H1 S i e rs
  refine ⟨fun h => ?_, fun x h => ?_⟩
  · obtain ⟨o, hg, ho⟩ := Option.map_eq_some_iff.mp h
    obtain ⟨xs, us, hu, q, e1⟩ := gL_of rs (e.pre n a ha) hg
    cases o with
    | some _ => cases ho
    | none => exact ⟨us, hu, by rw [← q.length]; exact List.getElem?_eq_none_iff.mp e1.symm⟩
  · obtain ⟨o, hg, ho⟩ := Option.map_eq_some_iff.mp h
    obtain ⟨xs, us, hu, q, e1⟩ := gL_of rs (e.pre n a ha) hg
    cases o with
    | none => cases ho
    | some y =>
      cases ho
      obtain ⟨v, hv, rv⟩ := q.get e1.symm
      refine ⟨⟨us, v, hu, hv⟩, fun v' H' q => ?_⟩
      obtain ⟨T, z, rfl, hT, rfl, hz⟩ := q
      have := hz us hu
      rw [hv] at this; cases this
      have E : Ext ι1 ι1 H1 (upd H1 T (.tup [.int (i : Nat), v])) := ext_tup hT
      exact ⟨E, rs.tup hT, .tup (SqT.of upd_same) (.cons (.int _) (.cons (rv.mono E) .nil))⟩
theorem ri_enum {X : Cx} {e : Expr} {w : WA} {p pos tpos : Pos} {elts : List Expr} {kk : Nat} (hg : Gl X "enumerate") (hm : X.mg "enumerate" = none) (ha : RA X [e] w) (hs : starEach [e] X.env = [(false, eval e X.env)] := by rfl) :
    RI X (.Tuple elts kk tpos) (.Call (.Name "enumerate" p) [e] [] pos) (wEnum w) := by
  refine ⟨PI.weak (pi_enum hg hm ha.pa hs) fun σ H R ⟨ι, env, S, P, re, rs, hw, hP⟩ => ⟨ι, env, S, _, re, rs, hw, fun xs S1 hx ι1 H1 vs e1 rs1 rx => ?_⟩⟩
  split at hx
  · obtain ⟨u, rfl, q⟩ := rvs1 rx
    obtain ⟨a, rfl, ha'⟩ := ref_of q
    obtain ⟨⟨c, ys, hc, hi⟩, hp⟩ := hx
    obtain ⟨us, hu, q⟩ := at_seq rs1 hc hi ha'
    exact ⟨a, us, rfl, hu, hP _ _ hp ι1 H1 _ e1 rs1 (it_enum ha')⟩
  · exact hx.elim

/-! ### list comprehensions -/
def wipeP (env : PEnv) : List Nat → PEnv
  | [] => env
  | v :: vs => (wipeP env vs).set v none
theorem REnv.wipe {K : PySem.W.Frag} {ι : List Addr} {H : Hp} {env : PEnv} {σ : LSt} (h : REnv K ι H env σ) : ∀ vs : List Nat, REnv K ι H (wipeP env vs) (L2.wipe σ vs)
  | [] => h
  | v :: vs => by
    have ih := REnv.wipe h vs
    unfold wipeP L2.wipe
    refine ⟨by rw [List.length_set, List.length_set]; exact ih.len, fun j y hy => ?_⟩
    by_cases hj : v = j
    · subst hj
      have hl : v < (wipeP env vs).length := by
        have := (List.getElem?_eq_some_iff.mp hy).1
        rwa [List.length_set] at this
      rw [List.getElem?_set_self hl] at hy
      cases hy
    · rw [List.getElem?_set_ne hj] at hy ⊢
      exact ih.at_ j y hy
structure RTs (X : Cx) (ifs : List Expr) (w : WT) : Prop where
  pt : PTs X ifs (tWT X.K w)
theorem PTs.weak {X : Cx} {e : List Expr} {t t' : TT} (h : PTs X e t) (i : ∀ σ H Q, t' σ H Q → t σ H Q) : PTs X e t' := ⟨fun pins s σ H Q I q => h.run pins s σ H Q I (i σ H Q q)⟩
def wYes : WT := fun _ S P => P true S
theorem rts_nil {X : Cx} : RTs X [] wYes := ⟨PTs.weak pts_nil fun σ H Q ⟨ι, env, S, P, re, rs, hw, hP⟩ => hP _ _ hw ι H .refl rs⟩
theorem rts_one {X : Cx} {c : Expr} {w : WT} (h : RT X c w) : RTs X [c] w := ⟨pts_one h.pt⟩
def wLcL (g : PIt) (tg : WG) (tt : WT) (te : W) (own : List Nat) (env0 : PEnv) (d : Nat) (P : PQ) : Nat → Nat → Store → Prop
  | 0, _, _ => False
  | m + 1, i, S => match g i S with
    | some none => P (.ref d) S
    | some (some x) => match tg x (wipeP env0 own) with
      | some env1 => tt env1 S fun b S1 => match b with
        | true => te env1 S1 fun y S2 => match S2[d]? with
          | some (.lst acc) => acc.length < sizeLine ∧ wLcL g tg tt te own env0 d P m (i + 1) (S2.set d (.lst (acc ++ [y])))
          | _ => False
        | false => wLcL g tg tt te own env0 d P m (i + 1) S1
      | none => False
    | none => False
def wLc (wi : WI) (tg : WG) (tt : WT) (te : W) (own : List Nat) : W := fun env S P => wi env S fun g S1 => ∃ m, wLcL g tg tt te own env S1.length P m 0 (S1 ++ [.lst []])
theorem tLc_of {K : PySem.W.Frag} {wi : WI} {tg : WG} {tt : WT} {te : W} {own sl : List Nat} (hsl : ∀ i ∈ sl, i ∈ own) {σ : LSt} {H : Hp} {Q : VK} (h : tW K (wLc wi tg tt te own) σ H Q) :
    tLc (tWI K wi) (tG K tg sl) (tWT K tt) (tW K te) own σ H Q := by
  obtain ⟨ι, env, S, P, re, rs, hw, hP⟩ := h
  refine ⟨ι, env, S, _, re, rs, hw, fun g S1 hx ι1 H1 J e1 rs1 ok => ?_⟩
  obtain ⟨m0, hm⟩ := hx
  intro D hD
  have E : Ext ι1 (ι1 ++ [D]) H1 (upd H1 D (.lst [])) := ext_new hD
  have rs2 : RS K (ι1 ++ [D]) (upd H1 D (.lst [])) (S1 ++ [.lst []]) := rs1.cell hD ⟨[], upd_same, .nil⟩
  have hat : (ι1 ++ [D])[S1.length]? = some D := by rw [← rs1.len, List.getElem?_append_right (Nat.le_refl _), Nat.sub_self]; rfl
  refine ⟨fun i m H' => ∃ ι' S', Ext (ι1 ++ [D]) ι' (upd H1 D (.lst [])) H' ∧ RS K ι' H' S' ∧ wLcL g tg tt te own env S1.length P m i S', ⟨m0, ι1 ++ [D], _, .refl, rs2, hm⟩, ?_⟩
  rintro i m H' ⟨ι', S', E', rs', hl⟩
  cases m with
  | zero => exact hl.elim
  | succ m =>
    obtain ⟨k1, k2⟩ := ok ι' H' S' i (E.trans E') rs'
    unfold wLcL at hl
    split at hl
    · rename_i hg
      exact .inl ⟨k1 hg, hP _ _ hl ι' H' _ ((e1.trans E).trans E') rs' (.ref (E'.pre _ _ hat))⟩
    · rename_i x hg
      obtain ⟨go, yl⟩ := k2 x hg
      refine .inr ⟨go, fun H'' => ∃ ι'' S'', Ext (ι1 ++ [D]) ι'' (upd H1 D (.lst [])) H'' ∧ RS K ι'' H'' S'' ∧ wLcL g tg tt te own env S1.length P m (i + 1) S'', fun H'' n => ⟨m, Nat.lt_succ_self _, n⟩, fun v H2 y => ?_⟩
      obtain ⟨e2, rs2', rv⟩ := yl v H2 y
      split at hl
      · rename_i env1 ht
        have EE : Ext ι ι' H H2 := ((e1.trans E).trans E').trans e2
        refine ⟨ι', x, wipeP env own, env1, (re.mono EE).wipe own, rv, ht, fun σ' re' sw => ?_⟩
        refine ⟨?_, ?_⟩
        · rw [sw own hsl]
          apply List.ext_getElem?
          intro j
          rw [wipe_get, wipe_get]
          by_cases hj : j ∈ own
          · rw [if_pos hj, if_pos hj]
            cases (σ[j]?) <;> rfl
          · rw [if_neg hj, if_neg hj]
        · refine ⟨ι', env1, S', _, re', rs2', hl, fun b S2 hb ι3 H3 e3 rs3 => ?_⟩
          cases b with
          | false => exact ⟨ι3, S2, (E'.trans e2).trans e3, rs3, hb⟩
          | true =>
            refine ⟨ι3, env1, S2, _, re'.mono e3, rs3, hb, fun z S3 hz ι4 H4 u e4 rs4 rz => ?_⟩
            have E4 : Ext (ι1 ++ [D]) ι4 (upd H1 D (.lst [])) H4 := ((E'.trans e2).trans e3).trans e4
            have hd := E4.pre _ _ hat
            split at hz
            · rename_i acc hacc
              obtain ⟨us, hu, q⟩ := at_lst rs4 hacc hd
              obtain ⟨rs5, E5⟩ := rs4.write (c' := .lst (acc ++ [z])) (o' := .lst (us ++ [u])) hacc hd rfl rfl fun E5 => ⟨_, upd_same, (q.snoc rz).mono E5⟩
              exact ⟨us, hu, by rw [← q.length]; exact hz.1, ι4, _, E4.trans E5, rs5, hz.2⟩
            · exact hz.elim
      · exact hl.elim
    · exact hl.elim
section
variable {X : Cx} {elt tg iter : Expr} {ifs : List Expr} {scope : Scope} {own : List (Str × Nat)} {pos : Pos} {wi : WI} {g : WG} {sl : List Nat} {tt : WT} {te : W}
theorem re_lc (hc : X.calm = true) (hN : X.N.Nodup) (hi : RI X tg iter wi) (ok : BlkOk X.N X.env.scope scope own) (hsl : ∀ i ∈ sl, i ∈ own.map (·.2))
    (hg : ∀ (s : Shared) (H : Hp) (C : Addr) (cl : List (Str × Addr)) (fp : List Addr), RG (X.blk s H scope (compEnvC scope cl C X.env) fp) tg g sl) (ht : ∀ (s : Shared) (H : Hp) (C : Addr) (cl : List (Str × Addr)) (fp : List Addr), RTs (X.blk s H scope (compEnvC scope cl C X.env) fp) ifs tt)
    (he : ∀ (s : Shared) (H : Hp) (C : Addr) (cl : List (Str × Addr)) (fp : List Addr), RE (X.blk s H scope (compEnvC scope cl C X.env) fp) elt te) (hs : ∀ x, foldedSetIterable iter X.env x = pure x := by intro _; rfl) :
    RE X (.ListComp elt [⟨tg, iter, ifs, 0⟩] scope pos) (wLc wi g tt te (own.map (·.2))) :=
  ⟨PE.weak (pe_lc hc hN hi.pi ok (fun s H C cl fp => (hg s H C cl fp).pg) (fun s H C cl fp => (ht s H C cl fp).pt) (fun s H C cl fp => (he s H C cl fp).pe) hs) fun _ _ _ h => tLc_of hsl h⟩
end

/-! ### statements -/
structure PEnds where
  nx : PEnv → Store → Prop
  rt : PQ
  bk : PEnv → Store → Prop
  ct : PEnv → Store → Prop
abbrev WS := PEnv → Store → PEnds → Prop
def FinN (K : PySem.W.Frag) (ι : List Addr) (H : Hp) (q : LSt → Hp → Prop) (env' : PEnv) (S' : Store) : Prop := ∀ ι' H' σ', Ext ι ι' H H' → RS K ι' H' S' → REnv K ι' H' env' σ' → q σ' H'
structure FinS (K : PySem.W.Frag) (ι : List Addr) (H : Hp) (P : PEnds) (D : Ends) : Prop where
  nx : ∀ env' S', P.nx env' S' → FinN K ι H D.nx env' S'
  rt : ∀ x S', P.rt x S' → Fin K ι H D.rt x S'
  bk : ∀ env' S', P.bk env' S' → FinN K ι H D.bk env' S'
  ct : ∀ env' S', P.ct env' S' → FinN K ι H D.ct env' S'
theorem FinN.ext {K : PySem.W.Frag} {ι ι1 : List Addr} {H H1 : Hp} {q : LSt → Hp → Prop} {env' : PEnv} {S' : Store} (e : Ext ι ι1 H H1) (h : FinN K ι H q env' S') : FinN K ι1 H1 q env' S' := fun ι' H' σ' e' => h ι' H' σ' (e.trans e')
theorem FinS.ext {K : PySem.W.Frag} {ι ι1 : List Addr} {H H1 : Hp} {P : PEnds} {D : Ends} (e : Ext ι ι1 H H1) (h : FinS K ι H P D) : FinS K ι1 H1 P D :=
  ⟨fun a b c => (h.nx a b c).ext e, fun a b c => (h.rt a b c).ext e, fun a b c => (h.bk a b c).ext e, fun a b c => (h.ct a b c).ext e⟩
def tWS (K : PySem.W.Frag) (w : WS) : TS := fun D σ H => ∃ ι env S P, REnv K ι H env σ ∧ RS K ι H S ∧ w env S P ∧ FinS K ι H P D
structure JS (X : Cx) (st : Stmt) (w : WS) : Prop where
  ps : PS X st (tWS X.K w)
structure JB (X : Cx) (sts : List Stmt) (w : WS) : Prop where
  ps : PSs X sts (tWS X.K w)
theorem PS.weak {X : Cx} {e : Stmt} {t t' : TS} (h : PS X e t) (i : ∀ D σ H, t' D σ H → t D σ H) : PS X e t' := ⟨fun pins s σ H D I q => h.run pins s σ H D I (i D σ H q)⟩
theorem PSs.weak {X : Cx} {e : List Stmt} {t t' : TS} (h : PSs X e t) (i : ∀ D σ H, t' D σ H → t D σ H) : PSs X e t' := ⟨fun pins s σ H D I q => h.run pins s σ H D I (i D σ H q)⟩
section
variable {X : Cx} {st : Stmt} {rest : List Stmt} {w w2 : WS} {e : Expr} {we : W} {pos : Pos}
def wNx : WS := fun env S D => D.nx env S
def wSq (a b : WS) : WS := fun env S D => a env S { D with nx := fun env1 S1 => b env1 S1 D }
theorem jb_nil : JB X [] wNx := ⟨PSs.weak pss_nil fun D σ H ⟨ι, env, S, P, re, rs, hw, hP⟩ => hP.nx _ _ hw ι H σ .refl rs re⟩
theorem jb_cons (h : JS X st w) (h2 : JB X rest w2) : JB X (st :: rest) (wSq w w2) := by
  refine ⟨PSs.weak (pss_cons h.ps h2.ps) fun D σ H ⟨ι, env, S, P, re, rs, hw, hP⟩ => ⟨ι, env, S, _, re, rs, hw, ?_, hP.rt, hP.bk, hP.ct⟩⟩
  exact fun env1 S1 hx ι1 H1 σ1 e1 rs1 re1 => ⟨ι1, env1, S1, P, re1, rs1, hx, hP.ext e1⟩
theorem jb_one (h : JS X st w) : JB X [st] w := ⟨pss_one h.ps⟩
theorem js_pass : JS X (.Pass pos) wNx := ⟨PS.weak ps_pass fun D σ H ⟨ι, env, S, P, re, rs, hw, hP⟩ => hP.nx _ _ hw ι H σ .refl rs re⟩
theorem js_break : JS X (.Break pos) (fun env S D => D.bk env S) := ⟨PS.weak ps_break fun D σ H ⟨ι, env, S, P, re, rs, hw, hP⟩ => hP.bk _ _ hw ι H σ .refl rs re⟩
theorem js_continue : JS X (.Continue pos) (fun env S D => D.ct env S) := ⟨PS.weak ps_continue fun D σ H ⟨ι, env, S, P, re, rs, hw, hP⟩ => hP.ct _ _ hw ι H σ .refl rs re⟩
def wDrop (we : W) : WS := fun env S D => we env S fun _ S1 => D.nx env S1
theorem js_expr (h : RE X e we) (hs : swapsWith e none pos.line X.env = pure false := by rfl) : JS X (.Expr e pos) (wDrop we) :=
  ⟨PS.weak (ps_expr h.pe hs) fun D σ H ⟨ι, env, S, P, re, rs, hw, hP⟩ => ⟨ι, env, S, _, re, rs, hw, fun x S1 hx ι1 H1 v e1 rs1 rx => hP.nx _ _ hx ι1 H1 σ e1 rs1 (re.mono e1)⟩⟩
def wRet (we : W) : WS := fun env S D => we env S D.rt
theorem js_ret (h : RE X e we) : JS X (.Return (some e) pos) (wRet we) :=
  ⟨PS.weak (ps_ret h.pe) fun D σ H ⟨ι, env, S, P, re, rs, hw, hP⟩ => ⟨ι, env, S, P.rt, re, rs, hw, hP.rt⟩⟩
theorem js_retN : JS X (.Return none pos) (fun _ S D => D.rt .non S) := ⟨PS.weak ps_retN fun D σ H ⟨ι, env, S, P, re, rs, hw, hP⟩ => hP.rt _ _ hw ι H _ .refl rs .non⟩
def wIfS (t : WT) (a b : WS) : WS := fun env S D => t env S fun c S1 => match c with
  | true => a env S1 D
  | false => b env S1 D
theorem js_if {c : Expr} {a b : List Stmt} {t : WT} (hc : RT X c t) (ha : JB X a w) (hb : JB X b w2) : JS X (.If c a b pos) (wIfS t w w2) := by
  refine ⟨PS.weak (ps_if hc.pt ha.ps hb.ps) fun D σ H ⟨ι, env, S, P, re, rs, hw, hP⟩ => ⟨ι, env, S, _, re, rs, hw, fun b S1 hb ι1 H1 e1 rs1 => ?_⟩⟩
  cases b with
  | true => exact ⟨ι1, env, S1, P, re.mono e1, rs1, hb, hP.ext e1⟩
  | false => exact ⟨ι1, env, S1, P, re.mono e1, rs1, hb, hP.ext e1⟩
def wSet (i : Nat) (we : W) : WS := fun env S D => we env S fun x S1 => D.nx (env.set i (some x)) S1
theorem asg_of {K : PySem.W.Frag} {i : Nat} {D : Ends} {σ : LSt} {H : Hp} (h : tWS K (wSet i we) D σ H) : tAsg (tW K we) (gName i) D σ H := by
  obtain ⟨ι, env, S, P, re, rs, hw, hP⟩ := h
  exact ⟨ι, env, S, _, re, rs, hw, fun x S1 hx ι1 H1 v e1 rs1 rx => hP.nx _ _ hx ι1 H1 _ e1 rs1 ((re.mono e1).set rx)⟩
theorem js_set (i : Nat) {x : Str} {pos' : Pos} (hN : X.N.Nodup) (h : RE X e we) (hi : X.N[i]? = some x := by rfl) (hx : Loc X.env.scope x := by first | exact Or.inl rfl | exact Or.inr rfl) (hs : swapsWith e (some (.Name x pos')) pos.line X.env = pure false := by rfl)
    (hf : X.fn x = true ∨ X.env.scope.names.lookup x = some .local := by first | exact .inl rfl | exact .inr rfl | assumption) : JS X (.Assign [.Name x pos'] e pos) (wSet i we) :=
  ⟨PS.weak (ps_set hN hi hx h.pe hs hf) fun _ _ _ h => asg_of h⟩
theorem js_setLc (i : Nat) {y : Str} {py spos : Pos} {elt tg iter : Expr} {ifs : List Expr} {scope : Scope} {own : List (Str × Nat)} {wi : WI} {g : WG} {sl : List Nat} {tt : WT} {te : W} (hc : X.calm = true) (hN : X.N.Nodup) (hi : RI X tg iter wi) (ok : BlkOk X.N X.env.scope scope own) (hsl : ∀ i ∈ sl, i ∈ own.map (·.2))
    (hsw : swapsWith (.ListComp elt [⟨tg, iter, ifs, 0⟩] scope pos) (some (.Name y py)) spos.line X.env = pure true)
    (hg : ∀ (s : Shared) (H : Hp) (C : Addr) (cl : List (Str × Addr)) (fp : List Addr), RG (X.blk s H scope (compEnvC scope cl C X.env) fp) tg g sl) (ht : ∀ (s : Shared) (H : Hp) (C : Addr) (cl : List (Str × Addr)) (fp : List Addr), RTs (X.blk s H scope (compEnvC scope cl C X.env) fp) ifs tt)
    (he : ∀ (s : Shared) (H : Hp) (C : Addr) (cl : List (Str × Addr)) (fp : List Addr), RE (X.blk s H scope (compEnvC scope cl C X.env) fp) elt te)
    (hy : X.N[i]? = some y := by rfl) (hyl : X.env.scope.names.lookup y = some .local := by rfl) (hs : ∀ x, foldedSetIterable iter X.env x = pure x := by intro _; rfl) :
    JS X (.Assign [.Name y py] (.ListComp elt [⟨tg, iter, ifs, 0⟩] scope pos) spos) (wSet i (wLc wi g tt te (own.map (·.2)))) := by
  refine ⟨PS.weak (ps_setLc (wi := tWI X.K wi) (g := tG X.K g sl) (tt := tWT X.K tt) (te := tW X.K te) hc hN hy hyl hsw hi.pi ok (fun s H C cl fp => (hg s H C cl fp).pg) (fun s H C cl fp => (ht s H C cl fp).pt) (fun s H C cl fp => (he s H C cl fp).pe) hs) fun D σ H h => ?_⟩
  obtain ⟨ι, env, S, P, re, rs, hw, hP⟩ := h
  exact tLc_of hsl ⟨ι, env, S, _, re, rs, hw, fun x S1 hx ι1 H1 v e1 rs1 rx => hP.nx _ _ hx ι1 H1 _ e1 rs1 ((re.mono e1).set rx)⟩
/-- a, b = e -/
def wAsg (we : W) (g : WG) : WS := fun env S D => we env S fun x S1 => match g x env with
  | some env1 => D.nx env1 S1
  | none => False
theorem js_asg {tg : Expr} {g : WG} {sl : List Nat} (h : RE X e we) (hg : RG X tg g sl) (hs : swapsWithSole [tg] e pos.line X.env = pure false := by rfl) (hw : swappedStores [tg] e X.env = pure none := by rfl)
    (h1 : (assignEach [tg] X.env).map (·.2) = [assign tg X.env] := by rfl) : JS X (.Assign [tg] e pos) (wAsg we g) := by
  refine ⟨PS.weak (ps_asg h.pe hg.pg hs hw h1) fun D σ H ⟨ι, env, S, P, re, rs, hw, hP⟩ => ⟨ι, env, S, _, re, rs, hw, fun x S1 hx ι1 H1 v e1 rs1 rx => ?_⟩⟩
  split at hx
  · rename_i env1 hg1
    exact ⟨ι1, x, env, env1, re.mono e1, rx, hg1, fun σ' re' _ => hP.nx _ _ hx ι1 H1 σ' e1 rs1 re'⟩
  · exact hx.elim
/-- a, b = x, y, plain local names -/
def wPar (i j : Nat) (w : WA) : WS := fun env S D => w env S fun xs S1 => match xs with
  | [x, y] => D.nx ((env.set i (some x)).set j (some y)) S1
  | _ => False
theorem js_par (i j : Nat) {x y : Str} {a b : Expr} {wa : WA} {px py pt : Pos} {kt k2 pt2} (hc : X.calm = true) (hN : X.N.Nodup) (ha : RA X [a, b] wa)
    (hi : X.N[i]? = some x := by rfl) (hj : X.N[j]? = some y := by rfl) (hij : i ≠ j := by decide)
    (hx : X.env.scope.names.lookup x = some .local := by rfl) (hy : X.env.scope.names.lookup y = some .local := by rfl)
    (hw : swappedStores [.Tuple [.Name x px, .Name y py] kt pt] (.Tuple [a, b] k2 pt2) X.env = pure (some [x, y]) := by rfl)
    (hs : swapsWithSole [.Tuple [.Name x px, .Name y py] kt pt] (.Tuple [a, b] k2 pt2) pos.line X.env = pure false := by rfl) :
    JS X (.Assign [.Tuple [.Name x px, .Name y py] kt pt] (.Tuple [a, b] k2 pt2) pos) (wPar i j wa) := by
  refine ⟨PS.weak (ps_par hc hN hi hj hij hx hy ha.pa hw hs) fun D σ H ⟨ι, env, S, P, re, rs, hw, hP⟩ => ⟨ι, env, S, _, re, rs, hw, fun xs S1 hx ι1 H1 vs e1 rs1 rx => ?_⟩⟩
  split at hx
  · obtain ⟨u, v, rfl, q, q'⟩ := rvs2 rx
    exact ⟨u, v, rfl, hP.nx _ _ hx ι1 H1 _ e1 rs1 (((re.mono e1).set q).set q')⟩
  · exact hx.elim
/-- x op= e -/
def wAug (i : Nat) (f : F2) (we : W) : WS := fun env S D => match env[i]? with
  | some (some x) => we env S fun y S1 => opt (f x y S1) fun z S2 => D.nx (env.set i (some z)) S2
  | _ => False
theorem js_aug (i : Nat) {x : Str} {op : Operator} {f : F2} {pos' : Pos} (hN : X.N.Nodup) (h : RE X e we) (ho : OpR X (inplaceOp op) (rOp X.K f)) (hi : X.N[i]? = some x := by rfl) (hx : Loc X.env.scope x := by first | exact Or.inl rfl | exact Or.inr rfl)
    (hf : X.fn x = true ∨ X.env.scope.names.lookup x = some .local := by first | exact .inl rfl | exact .inr rfl | assumption) : JS X (.AugAssign (.Name x pos') op e pos) (wAug i f we) := by
  refine ⟨PS.weak (ps_aug hN hi hx h.pe ho hf) fun D σ H ⟨ι, env, S, P, re, rs, hw, hP⟩ => ?_⟩
  unfold wAug at hw
  split at hw
  · rename_i x0 hx0
    obtain ⟨v, h1, h2⟩ := re.at_ i x0 hx0
    refine ⟨v, h1, ι, env, S, _, re, rs, hw, fun y S1 hy ι1 H1 u e1 rs1 ry => ?_⟩
    exact ⟨ι1, S1, x0, y, _, rs1, h2.mono e1, ry, hy, fun z S2 hz ι2 H2 w2 e2 rs2 rz => hP.nx _ _ hz ι2 H2 _ (e1.trans e2) rs2 ((re.mono (e1.trans e2)).set rz)⟩
  · exact hw.elim
/-- o[i] = v, a list -/
def wSub (wo wi wv : W) : WS := fun env S D => wv env S fun v S1 => wo env S1 fun o S2 => wi env S2 fun i S3 => match o, i with
  | .ref n, .int k => match S3[n]? with
    | some (.lst xs) => match ixN xs.length k with
      | some j => D.nx env (S3.set n (.lst (xs.set j v)))
      | none => False
    | _ => False
  | _, _ => False
theorem js_sub {o i v : Expr} {wo wi wv : W} {tpos : Pos} (hv : RE X v wv) (ho : RE X o wo) (hi : RE X i wi) (hs : swapsWithSole [.Subscript o i tpos] v pos.line X.env = pure false := by rfl) (hw : swappedStores [.Subscript o i tpos] v X.env = pure none := by rfl)
    (h1 : (assignEach [.Subscript o i tpos] X.env).map (·.2) = [assign (.Subscript o i tpos) X.env] := by rfl)
    (ha : ∀ v, assign (.Subscript o i tpos) X.env v = (do
      let ov ← holding [v] (eval o X.env)
      let iv ← holding [v, ov] (eval i X.env)
      standAt tpos
      holding [v, ov, iv] (setItem ov iv v)
      release [v, ov, iv] []) := by intro _; rfl) : JS X (.Assign [.Subscript o i tpos] v pos) (wSub wo wi wv) := by
  refine ⟨PS.weak (ps_asg hv.pe (pg_sub ho.pe hi.pe set_list ha) hs hw h1) fun D σ H ⟨ι, env, S, P, re, rs, hw, hP⟩ => ⟨ι, env, S, _, re, rs, hw, fun x S1 hx ι1 H1 v e1 rs1 rx => ?_⟩⟩
  refine ⟨ι1, env, S1, _, re.mono e1, rs1, hx, fun y S2 hy ι2 H2 u e2 rs2 ry => ⟨ι2, env, S2, _, re.mono (e1.trans e2), rs2, hy, fun z S3 hz ι3 H3 w e3 rs3 rz => ?_⟩⟩
  split at hz
  · obtain ⟨a, rfl, ha'⟩ := ref_of (ry.mono e3)
    cases int_of rz
    split at hz
    · rename_i xs hn
      split at hz
      · rename_i j hj
        obtain ⟨us, hu, q⟩ := at_lst rs3 hn ha'
        have E := (e1.trans e2).trans e3
        obtain ⟨rs4, E4⟩ := rs3.write (c' := .lst (xs.set j x)) (o' := .lst (us.set j v)) hn ha' rfl rfl fun E4 => ⟨_, upd_same, (q.set ((rx.mono (e2.trans e3))) j).mono E4⟩
        exact ⟨a, us, _, j, rfl, rfl, hu, by rw [← q.length]; exact hj, hP.nx _ _ hz ι3 _ σ (E.trans E4) rs4 (re.mono (E.trans E4))⟩
      · exact hz.elim
    · exact hz.elim
  · exact hz.elim
/-- d[k] = v -/
def wDPut (wo wi wv : W) : WS := fun env S D => wv env S fun v S1 => wo env S1 fun o S2 => wi env S2 fun i S3 => match o, keyOf i with
  | .ref n, some k => match S3[n]? with
    | some (.dic kvs) => kvs.length < sizeLine ∧ D.nx env (S3.set n (.dic (putP kvs k v)))
    | _ => False
  | _, _ => False
theorem js_dput {o i v : Expr} {wo wi wv : W} {tpos : Pos} (hu : X.A.units + 1 < cLine) (hv : RE X v wv) (ho : RE X o wo) (hi : RE X i wi) (hs : swapsWith v (some (.Subscript o i tpos)) pos.line X.env = pure false := by rfl) : JS X (.Assign [.Subscript o i tpos] v pos) (wDPut wo wi wv) := by
  refine ⟨PS.weak (ps_dput hu ho.pe hi.pe hv.pe hs) fun D σ H ⟨ι, env, S, P, re, rs, hw, hP⟩ => ⟨ι, env, S, _, re, rs, hw, fun x S1 hx ι1 H1 v e1 rs1 rx => ?_⟩⟩
  refine ⟨ι1, env, S1, _, re.mono e1, rs1, hx, fun y S2 hy ι2 H2 u e2 rs2 ry => ⟨ι2, env, S2, _, re.mono (e1.trans e2), rs2, hy, fun z S3 hz ι3 H3 w e3 rs3 rz => ?_⟩⟩
  split at hz
  · rename_i n k hk
    obtain ⟨a, rfl, ha'⟩ := ref_of (ry.mono e3)
    cases keyOf_of rz hk
    split at hz
    · rename_i kvs hn
      obtain ⟨us, hu', q⟩ := at_dic rs3 hn ha'
      have E := (e1.trans e2).trans e3
      obtain ⟨rs4, E4⟩ := rs3.write (c' := .dic (putP kvs k x)) (o' := .dK (putK us k v)) hn ha' rfl rfl fun E4 => ⟨_, upd_same, (q.put (rx.mono (e2.trans e3))).mono E4⟩
      exact ⟨a, _, rfl, DPut.k hu' (by rw [← q.length]; exact hz.1), hP.nx _ _ hz.2 ι3 _ σ (E.trans E4) rs4 (re.mono (E.trans E4))⟩
    · exact hz.elim
  · exact hz.elim

/-! ### loops -/
def wLoop (g : PIt) (tg : WG) (body : WS) (D : PEnds) : Nat → Nat → PEnv → Store → Prop
  | 0, _, _, _ => False
  | m + 1, i, env, S => match g i S with
    | some none => D.nx env S
    | some (some x) => match tg x env with
      | some env1 => body env1 S ⟨wLoop g tg body D m (i + 1), D.rt, D.nx, wLoop g tg body D m (i + 1)⟩
      | none => False
    | none => False
def wFor (wi : WI) (tg : WG) (body : WS) : WS := fun env S D => wi env S fun g S1 => ∃ m, wLoop g tg body D m 0 env S1
theorem js_for {tg iter : Expr} {body : List Stmt} {wi : WI} {g : WG} {sl : List Nat} (hp : PassesOwn (model X.prog X.w) X.A X.env X.xe) (hc : X.calm = true) (hi : RI X tg iter wi) (hg : RG X tg g sl) (hb : JB X body w)
    (hs : ∀ x, foldedSetIterable iter X.env x = pure x := by intro _; rfl) : JS X (.For tg iter body [] pos) (wFor wi g w) := by
  refine ⟨PS.weak (ps_for hp hc hi.pi hg.pg hb.ps hs) fun D σ H ⟨ι, env, S, P, re, rs, hw, hP⟩ => ⟨ι, env, S, _, re, rs, hw, fun gi S1 hx ι1 H1 J e1 rs1 ok => ?_⟩⟩
  obtain ⟨m0, hm⟩ := hx
  refine ⟨fun i m σ' H' => ∃ ι' env' S', Ext ι1 ι' H1 H' ∧ REnv X.K ι' H' env' σ' ∧ RS X.K ι' H' S' ∧ wLoop gi g w P m i env' S', ⟨m0, ι1, env, S1, .refl, re.mono e1, rs1, hm⟩, ?_⟩
  rintro i m σ' H' ⟨ι', env', S', E', re', rs', hl⟩
  cases m with
  | zero => exact hl.elim
  | succ m =>
    obtain ⟨k1, k2⟩ := ok ι' H' S' i E' rs'
    unfold wLoop at hl
    split at hl
    · rename_i hgi
      exact .inl ⟨k1 hgi, hP.nx _ _ hl ι' H' σ' (e1.trans E') rs' re'⟩
    · rename_i x hgi
      obtain ⟨go, yl⟩ := k2 x hgi
      refine .inr ⟨go, fun σ'' H'' => ∃ ι'' env'' S'', Ext ι1 ι'' H1 H'' ∧ REnv X.K ι'' H'' env'' σ'' ∧ RS X.K ι'' H'' S'' ∧ wLoop gi g w P m (i + 1) env'' S'', fun σ'' H'' n => ⟨m, Nat.lt_succ_self _, n⟩, fun v H2 y => ?_⟩
      obtain ⟨e2, rs2, rv⟩ := yl v H2 y
      split at hl
      · rename_i env1 ht
        refine ⟨ι', x, env', env1, re'.mono e2, rv, ht, fun σ2 re2 _ => ?_⟩
        refine ⟨ι', env1, S', _, re2, rs2, hl, fun env3 S3 h3 ι3 H3 σ3 e3 rs3 re3 => ?_, fun x' S3 h3 => (hP.rt x' S3 h3).ext ((e1.trans E').trans e2), fun env3 S3 h3 => (hP.nx env3 S3 h3).ext ((e1.trans E').trans e2), fun env3 S3 h3 ι3 H3 σ3 e3 rs3 re3 => ?_⟩
        · exact ⟨ι3, env3, S3, (E'.trans e2).trans e3, re3, rs3, h3⟩
        · exact ⟨ι3, env3, S3, (E'.trans e2).trans e3, re3, rs3, h3⟩
      · exact hl.elim
    · exact hl.elim
def wWhL (t : WT) (body : WS) (D : PEnds) : Nat → PEnv → Store → Prop
  | 0, _, _ => False
  | m + 1, env, S => t env S fun b S1 => match b with
    | true => body env S1 ⟨wWhL t body D m, D.rt, D.nx, wWhL t body D m⟩
    | false => D.nx env S1
def wWhile (t : WT) (body : WS) : WS := fun env S D => ∃ m, wWhL t body D m env S
theorem js_while {c : Expr} {body : List Stmt} {t : WT} (hp : PassesOwn (model X.prog X.w) X.A X.env X.xe) (hc : RT X c t) (hb : JB X body w) : JS X (.While c body [] pos) (wWhile t w) := by
  refine ⟨PS.weak (ps_while hp hc.pt hb.ps) fun D σ H ⟨ι, env, S, P, re, rs, ⟨m0, hw⟩, hP⟩ => ?_⟩
  refine ⟨fun m σ' H' => ∃ ι' env' S', Ext ι ι' H H' ∧ REnv X.K ι' H' env' σ' ∧ RS X.K ι' H' S' ∧ wWhL t w P m env' S', ⟨m0, ι, env, S, .refl, re, rs, hw⟩, ?_⟩
  rintro m σ' H' ⟨ι', env', S', E', re', rs', hl⟩
  cases m with
  | zero => exact hl.elim
  | succ m =>
    refine ⟨ι', env', S', _, re', rs', hl, fun b S1 hb ι1 H1 e1 rs1 => ?_⟩
    cases b with
    | false => exact hP.nx _ _ hb ι1 H1 σ' (E'.trans e1) rs1 (re'.mono e1)
    | true =>
      refine ⟨fun σ'' H'' => ∃ ι'' env'' S'', Ext ι ι'' H H'' ∧ REnv X.K ι'' H'' env'' σ'' ∧ RS X.K ι'' H'' S'' ∧ wWhL t w P m env'' S'', fun σ'' H'' n => ⟨m, Nat.lt_succ_self _, n⟩, ?_⟩
      refine ⟨ι1, env', S1, _, re'.mono e1, rs1, hb, fun env3 S3 h3 ι3 H3 σ3 e3 rs3 re3 => ?_, fun x' S3 h3 => (hP.rt x' S3 h3).ext (E'.trans e1), fun env3 S3 h3 => (hP.nx env3 S3 h3).ext (E'.trans e1), fun env3 S3 h3 ι3 H3 σ3 e3 rs3 re3 => ?_⟩
      · exact ⟨ι3, env3, S3, (E'.trans e1).trans e3, re3, rs3, h3⟩
      · exact ⟨ι3, env3, S3, (E'.trans e1).trans e3, re3, rs3, h3⟩
end
end Lt
set_option Elab.async false
set_option linter.all false
set_option maxRecDepth 100000
/-! Lt6: repr, calls of the text's defs, a def's rule, the law's end. -/
namespace Lt
open PySem PySem.Spec PyProof.Rows L2

/-! ### repr of lists and tuples -/
def bRepr : FB
  | [x], S => match toD 66 S x with
    | some d => if isDisplay d = true ∧ d.hasDict = false ∧ d.showable = true ∧ d.depth ≤ 60 ∧ d.shown.length ≤ sizeLine then some (.str d.shown, S) else none
    | none => none
  | _, _ => none
theorem call_bRepr {X : Cx} (hg : X.A.guards = some []) (hu : X.A.units + 64 < cLine) : CallR X (.builtin "repr") (rB X.K bRepr) := by
  intro pins s σ H vs us Q I r ⟨ι, S, xs, P, rs, rx, hf, hP⟩
  unfold bRepr at hf
  split at hf
  · obtain ⟨v, rfl, q⟩ := rvs1 rx
    obtain ⟨u, rfl, ru⟩ := vals1 r
    split at hf
    · rename_i d hd
      obtain ⟨⟨c1, c2, c3, c4, c5⟩, h⟩ := opt_ite hf
      obtain ⟨as, r1⟩ := Dp.reads I d v u (dp_of rs _ _ _ _ hd c2 q) ru
      obtain ⟨a, rfl⟩ := isRef_of_reads r1 c1
      refine repr_of_reads' r1 c3 (PyData.noDict_hsm c2) hg (by omega) (fun _ _ e => e) (fun h' u tk hk => ?_) c5
      exact ⟨.str d.shown, H, I.kept hk, ⟨u, rfl⟩, hP _ _ h ι H _ .refl rs (.str _)⟩
    · exact hf.elim
  · exact hf.elim

/-! ### defs -/
/-- as FnOk, where no repr is under way around -/
structure FnG (P : Program) (w : World) (K : PySem.W.Frag) (mg : Str → Option Value) (base : Heap) (CX : CXT) (k : Nat) (f : Addr) (fd : FuncData) (ps : List Str) (sp : Sp) : Prop where
  len : ∀ vs H Q E, sp vs H Q E → vs.length = ps.length
  run : ∀ (A : Around) (outer : List Env) (s : Shared) (H : Hp) (args : Args) (us : List Value) (vs : List V) (Q : VK) (E : XK), Room k A → A.guards = some [] → Env0 P w K mg base A outer s H → BindsTo s fd args (ps.zip us) → Vals vs us → sp vs H Q E →
    codeAny (model P w) A (.call (.ref f) args) (CR CX outer P w H s Q E) s
theorem FnG.mono {P : Program} {w : World} {K : PySem.W.Frag} {mg : Str → Option Value} {base : Heap} {CX : CXT} {j k : Nat} {f : Addr} {fd : FuncData} {ps : List Str} {sp : Sp} (F : FnG P w K mg base CX j f fd ps sp) (h : j ≤ k) :
    FnG P w K mg base CX k f fd ps sp := ⟨F.len, fun A outer s H args us vs Q E hr => F.run A outer s H args us vs Q E (hr.mono h)⟩
/-- a plain promise -/
abbrev Con := List PV → Store → PQ → Prop
def spC (K : PySem.W.Frag) (c : Con) : Sp := fun vs H Q _ => ∃ ι S xs, ∃ P : PQ, RS K ι H S ∧ RVs K ι H xs vs ∧ c xs S P ∧ ∀ x S', P x S' → Fin K ι H Q x S'
def wF (c : Con) (w : WA) : W := fun env S P => w env S fun xs S1 => c xs S1 P
section
variable {X : Cx} {k : Nat} {f : Addr} {fd : FuncData} {ps ks : List Str} {c : Con} {x : Str} {p pos : Pos} {e : Expr} {es : List Expr} {kws : List Keyword} {w wk : WA} {CX : CXT} {E : XK}
theorem run_con {sp : Sp} {pins : List (Addr × Obj)} {σ : LSt} {H : Hp} {s : Shared} {Q : VK} {args : Args} {us : List Value} {vs : List V} (F : FnG X.prog X.w X.K X.mg X.base CX k f fd ps sp) (hr : Room k X.A) (hgd : X.A.guards = some []) (hx : Passes CX X E)
    (I : Inv X pins σ H s) (hb : BindsTo s fd args (ps.zip us)) (r : Vals vs us) (h : sp vs H Q E) : wpAny (model X.prog X.w) X.A (call (.ref f) args.pos args.kw) (EP X pins σ Q) X.xe s := by
  refine wpAny_call (codeAny_mono (F.run X.A X.stack s H args us vs Q E hr hgd I.env0 hb r h) fun r s' hq => ?_)
  rcases r with e | fl
  · exact hx pins σ H s e s' I hq
  · cases fl with
    | ret u => exact I.after hq
    | _ => exact False.elim hq
theorem spC_of {K : PySem.W.Frag} {ι ι1 : List Addr} {H H1 : Hp} {S1 : Store} {xs : List PV} {vs : List V} {P : PQ} {Q : VK} {E : XK} (e1 : Ext ι ι1 H H1) (rs1 : RS K ι1 H1 S1) (rx : RVs K ι1 H1 xs vs) (hP : ∀ x S', P x S' → Fin K ι H Q x S')
    (h : c xs S1 P) : spC K c vs H1 Q E := ⟨ι1, S1, xs, P, rs1, rx, h, fun x S' hx => (hP x S' hx).ext e1⟩
/-- f(e, ..) -/
theorem re_call (F : FnG X.prog X.w X.K X.mg X.base CX k f fd ps (spC X.K c)) (hr : Room k X.A) (hgd : X.A.guards = some []) (hg : Gl X x) (hm : X.mg x = some (.ref f)) (hk : PySem.W.keepIn X.K (.ref f) = true) (hb : Binds X.K fd ps []) (hx : Passes CX X E)
    (ha : RA X (e :: es) w) (hdb : (x == ("__debug__" : Str)) = false := by decide) (he : starEach (e :: es) X.env = (false, eval e X.env) :: starEach es X.env := by rfl) (hpl : (backTo pos (starEach es X.env)).any (·.1) = false := by rfl) :
    RE X (.Call (.Name x p) (e :: es) [] pos) (wF c w) := by
  refine ⟨⟨fun pins s σ H Q I ⟨ι, env, S, P, re, rs, hw, hP⟩ => ?_⟩⟩
  refine wpAny_Call_Name_kw (ld_glob I hg hm ?_ hdb)
  refine PySem.W.callWith_K (h₀ := X.base) I.ok.mod.kin hk (thn (ha.pa.run pos pins s σ H (fun vs H1 => spC X.K c vs H1 Q E) I ⟨ι, env, S, _, re, rs, hw, fun xs S1 hx ι1 H1 vs e1 rs1 rx => spC_of e1 rs1 rx hP hx⟩) fun us s1 ⟨vs, H1, I1, r, q⟩ => ⟨I1.kIn, ?_⟩) he hpl
  have hl : (us ++ ([] : List Value)).length = ps.length := by rw [List.append_nil, ← r.length]; exact F.len _ _ _ _ q
  have hb' := hb s1 us I1.kIn hl
  rw [List.append_nil] at hb'
  exact run_con (args := ⟨us, []⟩) F hr hgd hx I1 hb' r q
end
/-- where a def's body stands: all that its parts ask of the context -/
structure Ctx (X : Cx) : Prop where
  calm : X.calm = true
  nd : X.N.Nodup
  gd : X.A.guards = some []

section
variable {P : Program} {w : World} {K : PySem.W.Frag} {mg : Str → Option Value} {base : Heap}
/-- THE RULE for a def: its body as a plain term, and what is to be shown of it -/
theorem def_ok {x qual : Str} {st : Stmt} {f : Addr} {fd : FuncData} {N ps : List Str} {k : Nat} {c : Con} {wb : WS} (F : Fun K x qual st f fd) (S : FnScope N ps (defScope st)) (hlen : ∀ xs S0 P, c xs S0 P → xs.length = ps.length)
    (hbody : ∀ (cdv : Value) (A : Around) (outer : List Env) (s : Shared) (H : Hp) (E : XK), Room k (A.deeper (envOfC qual (defScope st) s.heap.objs.size f cdv)) → A.guards = some [] →
      JB (cxOf CX0 P w K mg base N qual (defScope st) f cdv A outer s H E).nox (defBody st) wb)
    (hpl : ∀ xs S0 P, c xs S0 P → wb (xs.map some ++ List.replicate (N.length - xs.length) none) S0 ⟨fun _ S' => P .non S', P, fun _ _ => False, fun _ _ => False⟩) : FnG P w K mg base CX0 (k + 1) f fd ps (spC K c) := by
  obtain ⟨oc, od, kV, doc, pm, an, cdv, ct, osl, rfl, lk, hcd⟩ := F.ex
  refine ⟨fun vs H Q E ⟨ι, S0, xs, P, rs, rx, hp, _⟩ => by rw [← rx.length]; exact hlen xs S0 P hp, fun A outer s H args us vs Q E hr hg e0 hb r hsp => ?_⟩
  obtain ⟨ι, S0, xs, PP, rs, rx, hp, hP⟩ := hsp
  have hl : vs.length = ps.length := by rw [← rx.length]; exact hlen xs S0 PP hp
  have KX : K.In s.heap := e0.mod.kin.keeps fun b o e => (e0.bs b o e).1
  have lim : s.heap.NoLimit := e0.mod.nolimit.keeps fun b o e => (e0.bs b o e).1
  have kinds : ∀ y ∈ ps.zip us, (defScope st).names.lookup y.1 = some .local ∨ ((defScope st).names.lookup y.1 = some .cell ∧ ((cellsFrom (s.heap.objs.size + 1) (defScope st).names []).lookup y.1).isSome = true) := by
    rintro ⟨n, v⟩ hy
    exact (S.par n (List.of_mem_zip hy).1).imp id fun q => ⟨q, PySem.W.cellsFrom_some _ _ _ (.inl q)⟩
  refine codeAny_call_function hr.depth (KX _ _ lk) rfl S.co S.gen rfl (PySem.W.codeRec_of KX hcd) (hb _ _ _ _ ?_)
  refine wpAny_newFunctionEnv_cells S.kind kinds fun env he s1 xc => ?_
  subst he
  refine ⟨lim.keeps xc.toInCall.keep, codeAny_func ?_⟩
  have I : Inv (cxOf CX0 P w K mg base N qual (defScope st) f cdv A outer s H E) [] (L2.start N vs) H s1 := inv_start S hr.hd e0 hl r xc
  have jb := hbody cdv A outer s H E (hr.deeper _) hg
  have re : REnv K ι H (xs.map some ++ List.replicate (N.length - xs.length) none) (L2.start N vs) := by
    refine ⟨by unfold L2.start; simp only [List.length_append, List.length_map, List.length_replicate, rx.length], fun i y hy => ?_⟩
    unfold L2.start
    by_cases hi : i < xs.length
    · rw [List.getElem?_append_left (by rw [List.length_map]; exact hi), List.getElem?_map] at hy
      obtain ⟨z, hz, e⟩ := Option.map_eq_some_iff.mp hy
      cases e
      obtain ⟨v, h1, h2⟩ := rx.get hz
      exact ⟨v, by rw [List.getElem?_append_left (by rw [List.length_map, ← rx.length]; exact hi), List.getElem?_map, h1]; rfl, h2⟩
    · rw [List.getElem?_append_right (by rw [List.length_map]; omega)] at hy
      have := List.mem_of_getElem? hy
      rw [List.mem_replicate] at this
      cases this.2
  have go := jb.ps.run [] s1 (L2.start N vs) H ⟨fun _ H' => Q .non H', Q, fun _ _ => False, fun _ _ => False⟩ (I.wish _) ⟨ι, _, S0, _, re, rs, hpl xs S0 PP hp,
    ⟨fun env' S' h ι' H' σ' e r _ => hP _ _ h ι' H' _ e r .non, fun y S' h => hP y S' h, fun _ _ h => h.elim, fun _ _ h => h.elim⟩⟩
  refine wpAny_mono go (fun fl s' hs => ?_) fun e s' hs => False.elim hs
  have fin : ∀ {σ' : LSt} {H' : Hp} {v : V} {u : Value}, Inv (cxOf CX0 P w K mg base N qual (defScope st) f cdv A outer s H E).nox [] σ' H' s' → RelV v u → Q v H' → CE outer P w H s Q u s' :=
    fun {σ' H' v u} J rv q => ⟨v, H', J.unwish.os, J.unwish.bare, J.unwish.base, J.unwish.hok, rv, q⟩
  cases fl with
  | ret u => obtain ⟨v, σ', H', J, rv, q⟩ := hs; exact fin J rv q
  | next => obtain ⟨σ', H', J, q⟩ := hs; exact fin (v := V.non) (u := Value.none) J rfl q
  | brk => obtain ⟨_, _, _, q⟩ := hs; exact False.elim q
  | cont => obtain ⟨_, _, _, q⟩ := hs; exact False.elim q
end
end Lt
set_option Elab.async false
set_option linter.all false
set_option maxRecDepth 100000
/-! Lt7: the law's end. -/
namespace Lt
open PySem PySem.Spec PyProof.Rows L2

theorem guards_caller : callerA.guards = some [] := by first | rfl | decide
section
variable {P : Program} {w : World} {K : PySem.W.Frag} {mg mb : Str → Option Value} {k : Nat} {fa a : Addr} {fd : FuncData} {x : Str} {c : Con} {s1 : Shared} {vs : List Value} {ns : List Int}
theorem rvs_ints {ι : List Addr} {H : Hp} : ∀ ns : List Int, RVs K ι H (ns.map PV.int) (ns.map V.int)
  | [] => .nil
  | n :: r => .cons (.int n) (rvs_ints r)
/-- from an abstract heap that tracks the script alone (or nothing) -/
theorem law_from (H : Hp) (hO : ∀ b u, H b = some u → b = a ∧ ∃ o xs, u = .frz o (.lst xs)) (hro : RoL K H a (ns.map V.int)) (hok : HOk P w H s1.heap) (hK : H a ≠ none → K.lookup a = none)
    (hsm : SM s1.heap) (KX : K.In s1.heap) (hns : s1.heap.Ns mainGlobals mg) (hb : s1.heap.Ns builtinsNs mb) (hbb : ∀ x : Str, x ≠ "__name__" → mb x = bootBuiltins x) (hlim : s1.heap.NoLimit) (hg : s1.gens = #[])
    (ha : s1.heap.get? a = some { cls := .type "list", data := .seq vs.toArray }) (hr : Room k callerA)
    (F : ∀ base : Heap, SM base → K.In base → base.Ns mainGlobals mg → FnG P w K mg base CX0 k fa fd [x] (spC K c)) (hbind : ∀ (s : Shared) (u : Value), BindsTo s fd ⟨[u], []⟩ [(x, u)])
    (hc : c [.ref 0] [.ro (ns.map .int)] fun y _ => y = .bl true) :
    codeAny (model P w) callerA (.call (.ref fa) ⟨[.ref a], []⟩) (fun r s' => r = .ok (.ret (.bool true)) ∧ OldK s1.heap s'.heap ∧ s'.os = s1.os ∧ AllBare s'.gens) s1 := by
  -- what is no list of ours stays where it stands
  have hidden : ∀ {b : Addr} {o : Obj}, s1.heap.get? b = some o → (b = a → H a = none) → (hidT s1.heap H).get? b = some o := fun {b o} e n => hidT_get e (by
    cases q : H b with
    | none => rfl
    | some u =>
      obtain ⟨z, _⟩ := hO b u q
      rw [z, n z] at q; cases q)
  have dicts : ∀ {b : Addr} {m : Str → Option Value}, s1.heap.Ns b m → (hidT s1.heap H).Ns b m := fun {b m} ⟨o, es, ep, e, d, r⟩ => ⟨o, es, ep, hidden e (fun z => by
    subst z
    rw [ha] at e; cases e
    have d' : Data.seq vs.toArray 0 = Data.dict es ep := d
    cases d'), d, r⟩
  have kin : K.In (hidT s1.heap H) := fun b o e => hidden (KX b o e) fun z => by
    subst z
    cases q : H b with
    | none => rfl
    | some u => rw [hK (by rw [q]; simp)] at e; cases e
  have M : Mod K mg (hidT s1.heap H) := ⟨kin, dicts hns, ⟨mb, dicts hb, hbb⟩, let ⟨mc, h1, h2⟩ := hlim; ⟨mc, dicts h1, h2⟩⟩
  have e0 : Env0 P w K mg (hidT s1.heap H) callerA [] s1 H :=
    { frames := rfl, mod := M, bs := fun b o e => of_hidT e, bsz := Nat.le_of_eq (hidT_size _ _), funs := trivial, frf := fun b hb => (by cases hb), hok := hok, bare := .of_eq hg }
  have rs : RS K [a] H [.ro (ns.map .int)] := by
    refine ⟨rfl, fun n d hd => ?_, fun n m d1 d2 b h1 h2 m1 => ?_⟩
    · cases n with
      | zero => cases hd; exact ⟨a, rfl, ns.map V.int, hro, rvs_ints ns⟩
      | succ n => cases hd
    · cases n with
      | zero => cases h1; cases m1
      | succ n => cases h1
  have sp : spC K c [.ref a] H (fun v _ => v = .bl true) (fun _ _ _ => False) := ⟨[a], _, [.ref 0], _, rs, .cons (.ref rfl) .nil, hc, fun y S' (hy : y = .bl true) ι' H' v _ _ r => by
    subst hy
    exact bl_of r⟩
  refine codeAny_mono ((F _ (hsm.imp fun _ x => dicts x) kin (dicts hns)).run callerA [] s1 H ⟨[.ref a], []⟩ [.ref a] [.ref a] _ _ hr guards_caller e0 (hbind s1 (.ref a)) (.cons rfl .nil) sp) fun r s' h => ?_
  rcases r with e | fl
  · exact False.elim h
  cases fl with
  | ret u =>
    obtain ⟨v, H', os, bare, un, hok', rv, q⟩ := h
    cases (show v = .bl true from q)
    cases (show u = Value.bool true from rv)
    refine ⟨rfl, OldK.of_keep fun b o e => ?_, os, bare⟩
    cases q : H b with
    | none => exact un.keep b o e q (fun z => by cases z) (fun z => by cases z)
    | some u =>
      obtain ⟨_, ob, xs, rfl⟩ := hO b u q
      have e1 : s1.heap.get? b = some ob := (hok b _ q).1
      have e2 : s'.heap.get? b = some ob := (hok' b _ (un.frzs b ob _ q)).1
      rw [e2, ← e1, e]
  | _ => exact False.elim h
theorem law_end (hsm : SM s1.heap) (KX : K.In s1.heap) (hns : s1.heap.Ns mainGlobals mg) (hb : s1.heap.Ns builtinsNs mb) (hbb : ∀ x : Str, x ≠ "__name__" → mb x = bootBuiltins x) (hlim : s1.heap.NoLimit) (hg : s1.gens = #[])
    (ha : s1.heap.get? a = some { cls := .type "list", data := .seq vs.toArray }) (hi : IntsAre vs ns) (hl : ns.length ≤ sizeLine) (hr : Room k callerA)
    (F : ∀ base : Heap, SM base → K.In base → base.Ns mainGlobals mg → FnG P w K mg base CX0 k fa fd [x] (spC K c)) (hbind : ∀ (s : Shared) (u : Value), BindsTo s fd ⟨[u], []⟩ [(x, u)])
    (hc : c [.ref 0] [.ro (ns.map .int)] fun y _ => y = .bl true) :
    codeAny (model P w) callerA (.call (.ref fa) ⟨[.ref a], []⟩) (fun r s' => r = .ok (.ret (.bool true)) ∧ OldK s1.heap s'.heap ∧ s'.os = s1.os ∧ AllBare s'.gens) s1 := by
  have rv := L2.vals_ints hi
  have ln := hi.length
  cases hk : K.lookup a with
  | some o =>
    have e := KX a o hk
    rw [ha] at e
    cases e
    exact law_from (fun _ => none) (fun b u z => by cases z) (.inr ⟨_, vs.toArray, _, hk, rfl, rfl, rfl, by rw [List.size_toArray, ln]; exact hl, by simpa using rv⟩) (fun b u z => by cases z) (fun z => absurd rfl z) hsm KX hns hb hbb hlim hg ha hr F hbind hc
  | none =>
    have at_ : ∀ {b : Addr} {u : HO}, (if b = a then some (HO.frz { cls := .type "list", data := .seq vs.toArray } (.lst (ns.map V.int))) else none) = some u → b = a ∧ u = .frz { cls := .type "list", data := .seq vs.toArray } (.lst (ns.map V.int)) := fun {b u} z => by
      split at z
      · rename_i hb; exact ⟨hb, (Option.some.inj z).symm⟩
      · cases z
    refine law_from (fun b => if b = a then some (.frz { cls := .type "list", data := .seq vs.toArray } (.lst (ns.map V.int))) else none) (fun b u z => ?_) (.inl ⟨_, if_pos rfl⟩) (fun b u z => ?_) (fun _ => hk) hsm KX hns hb hbb hlim hg ha hr F hbind hc
    · obtain ⟨h1, h2⟩ := at_ z
      exact ⟨h1, _, _, h2⟩
    · obtain ⟨rfl, rfl⟩ := at_ z
      exact ⟨ha, by rw [List.length_map]; exact hl, vs, _, rv, ha⟩
end
theorem sm_of {h : Heap} (x : h.NoSeer) : SM h := let ⟨mm, a, _⟩ := x.mods; ⟨mm, a⟩
/-- the goal that the head leaves -/
theorem walk_ltG {l : PySem.W.OpenLaw} {n k : Nat} {q : Program} {loose : List Str} {XP : (Str → Option Value) → Heap → Prop} {YP : World → Heap → Prop} {d : DefRec} {K : Params → PySem.W.Frag} {c : Con} {x : Str}
    (hn : l.most = some n) (hn2 : n ≤ sizeLine) (hdf : d.params.defaults = []) (hr : Room k callerA) (hi : importsNone q = true) (hY : ∀ (w : World) (h : Heap), YP w h → (K w.params).In h)
    (F : ∀ (w : World) (mg : Str → Option Value) (fa : Addr) (h : Heap), (K w.params).In h → h.Ns mainGlobals mg → mg d.name = some (.ref fa) →
      ∃ fd : FuncData, (∀ (s : Shared) (u : Value), BindsTo s fd ⟨[u], []⟩ [(x, u)]) ∧ ∀ base : Heap, SM base → (K w.params).In base → base.Ns mainGlobals mg → FnG l.prog w (K w.params) mg base CX0 k fa fd [x] (spC (K w.params) c))
    (hc : ∀ ns : List Int, ns.length ≤ n → c [.ref 0] [.ro (ns.map .int)] fun y _ => y = .bl true) :
    PySem.W.WalkO q loose XP YP l.row.toRowW d [] (fun f vs => PySem.call f vs) := by
  refine Att.attach_call hn hdf fun w s₀ s₁ mg mb fa o pm cd doc a vs ns G Y ho hd hcd hmg hobj hints hlen hg => ?_
  obtain ⟨fd, hb, hF⟩ := F w mg fa _ (hY w _ Y) G.T.g hmg
  exact law_end (sm_of (G.T.seer hi)) (hY w _ Y) G.T.g G.T.b G.T.builtins G.T.nolimit hg hobj hints (Nat.le_trans hlen hn2) hr hF hb (hc ns hlen)
end Lt
set_option Elab.async false
set_option linter.all false
set_option maxRecDepth 100000
/-! Lt8: what the generated texts lean on; loops by invariants; promises with ghosts. -/
namespace Lt
open PySem PySem.Spec PyProof.Rows L2

theorem bt_len : bootBuiltins "len" = some (.builtin "len") := by decide +kernel
theorem bt_abs : bootBuiltins "abs" = some (.builtin "abs") := by decide +kernel
theorem bt_min : bootBuiltins "min" = some (.builtin "min") := by decide +kernel
theorem bt_max : bootBuiltins "max" = some (.builtin "max") := by decide +kernel
theorem bt_repr : bootBuiltins "repr" = some (.builtin "repr") := by decide +kernel
theorem bt_isinstance : bootBuiltins "isinstance" = some (.builtin "isinstance") := by decide +kernel
theorem bt_int : bootBuiltins "int" = some (.type "int") := by decide +kernel
theorem bt_str : bootBuiltins "str" = some (.type "str") := by decide +kernel
theorem bt_bool : bootBuiltins "bool" = some (.type "bool") := by decide +kernel
theorem bt_list : bootBuiltins "list" = some (.type "list") := by decide +kernel
theorem bt_tuple : bootBuiltins "tuple" = some (.type "tuple") := by decide +kernel

/-- x is None -/
def isNon : PV → Bool
  | .non => true
  | _ => false
def fIs : F2 := fun x y S => match y with
  | .non => some (.bl (isNon x), S)
  | _ => none
def fIsNot : F2 := fun x y S => match y with
  | .non => some (.bl (!isNon x), S)
  | _ => none
theorem non_dec {K : PySem.W.Frag} {ι : List Addr} {H : Hp} {x : PV} {v : V} (r : RV K ι H x v) : decide (v = .non) = isNon x := by cases r <;> rfl
theorem op_fIs {X : Cx} : OpR X (compareOp .Is) (rOp X.K fIs) := by
  intro pins s σ H u v uu vv Q I ru rv ⟨ι, S, x, y, P, rs, rx, ry, hf, hP⟩
  unfold fIs at hf
  split at hf
  · cases non_of ry
    exact op_isN pins s σ H _ _ _ _ Q I ru rv ⟨rfl, hP _ _ hf ι H _ .refl rs (by rw [non_dec rx]; exact .bl _)⟩
  · exact hf.elim
theorem op_fIsNot {X : Cx} : OpR X (compareOp .IsNot) (rOp X.K fIsNot) := by
  intro pins s σ H u v uu vv Q I ru rv ⟨ι, S, x, y, P, rs, rx, ry, hf, hP⟩
  unfold fIsNot at hf
  split at hf
  · cases non_of ry
    refine op_notN pins s σ H _ _ _ _ Q I ru rv ⟨rfl, hP _ _ hf ι H _ .refl rs ?_⟩
    rw [non_dec rx]
    exact .bl _
  · exact hf.elim

/-- the function that a def's text makes -/
def IsFn (x : Str) (st : Stmt) (fd : FuncData) : Prop := ∃ (kV doc pm : Value) (an : Option Addr) (cdv ct : Value), fd = PySem.W.fnOf x x (defArgs st) (defBody st) (defScope st) .none kV doc pm an cdv ct
/-- a def of the text with its promise, for callers -/
structure Callee (P : Program) (w : World) (K : PySem.W.Frag) (mg : Str → Option Value) (base : Heap) (x : Str) (ps : List Str) (st : Stmt) (k : Nat) (c : Con) : Prop where
  ex : ∃ f fd, FnG P w K mg base CX0 k f fd ps (spC K c) ∧ mg x = some (.ref f) ∧ PySem.W.keepIn K (.ref f) = true ∧ Binds K fd ps [] ∧ IsFn x st fd
/-- a def of the text as it stands -/
structure Def (K : PySem.W.Frag) (mg : Str → Option Value) (x : Str) (ps : List Str) (st : Stmt) : Prop where
  ex : ∃ f fd, Fun K x x st f fd ∧ mg x = some (.ref f) ∧ (∀ (s : Shared) (us : List Value), us.length = ps.length → BindsTo s fd ⟨us, []⟩ (ps.zip us)) ∧ IsFn x st fd
section
variable {P : Program} {w : World} {K : PySem.W.Frag} {mg : Str → Option Value} {base : Heap} {x : Str} {ps N : List Str} {k : Nat} {c : Con} {st : Stmt} {wb : WS}
theorem Callee.mono {j : Nat} (C : Callee P w K mg base x ps st j c) (h : j ≤ k) : Callee P w K mg base x ps st k c := by
  obtain ⟨f, fd, F, r⟩ := C.ex
  exact ⟨f, fd, F.mono h, r⟩
theorem callee_of (D : Def K mg x ps st) (S : FnScope N ps (defScope st)) (hlen : ∀ xs S0 P, c xs S0 P → xs.length = ps.length)
    (hbody : ∀ (f : Addr) (cdv : Value) (A : Around) (outer : List Env) (s : Shared) (H : Hp) (E : XK), Room k (A.deeper (envOfC x (defScope st) s.heap.objs.size f cdv)) → A.guards = some [] →
      JB (cxOf CX0 P w K mg base N x (defScope st) f cdv A outer s H E).nox (defBody st) wb)
    (hpl : ∀ xs S0 P, c xs S0 P → wb (xs.map some ++ List.replicate (N.length - xs.length) none) S0 ⟨fun _ S' => P .non S', P, fun _ _ => False, fun _ _ => False⟩) : Callee P w K mg base x ps st (k + 1) c := by
  obtain ⟨f, fd, F, hm, hb, hi⟩ := D.ex
  exact ⟨f, fd, def_ok F S hlen (hbody f) hpl, hm, F.kp, fun s us _ hl => by rw [List.append_nil] at hl ⊢; exact hb s us hl, hi⟩
end
theorem re_callee {X : Cx} {x : Str} {ps : List Str} {st : Stmt} {k : Nat} {c : Con} {p pos : Pos} {e : Expr} {es : List Expr} {w : WA} (C : Callee X.prog X.w X.K X.mg X.base x ps st k c) (hr : Room k X.A) (hgd : X.A.guards = some []) (ha : RA X (e :: es) w)
    (hx : Passes CX0 X E0) (hg : Gl X x := by rfl) (hdb : (x == ("__debug__" : Str)) = false := by decide) (he : starEach (e :: es) X.env = (false, eval e X.env) :: starEach es X.env := by rfl) (hpl : (backTo pos (starEach es X.env)).any (·.1) = false := by rfl) :
    RE X (.Call (.Name x p) (e :: es) [] pos) (wF c w) := by
  obtain ⟨f, fd, F, hm, hk, hb, _⟩ := C.ex
  exact re_call F hr hgd hg hm hk hb hx ha hdb he hpl

/-! ### keywords -/
structure RK (X : Cx) (kws : List Keyword) (w : WA) : Prop where
  pk : PK X kws (tWA X.K w)
theorem PK.weak {X : Cx} {kws : List Keyword} {t t' : TA} (h : PK X kws t) (i : ∀ σ H Q, t' σ H Q → t σ H Q) : PK X kws t' := ⟨fun pos pins s σ H Q I q => h.run pos pins s σ H Q I (i σ H Q q)⟩
theorem rk_nil {X : Cx} : RK X [] wNil := ⟨PK.weak pk_nil fun σ H Q ⟨ι, env, S, P, re, rs, hw, hP⟩ => hP [] S hw ι H [] .refl rs .nil⟩
theorem rk_cons {X : Cx} {nm : Option Str} {e : Expr} {kpos : Pos} {kws : List Keyword} {w : W} {r : WA} (h : RE X e w) (hr : RK X kws r) : RK X (⟨nm, e, kpos⟩ :: kws) (wCons w r) := by
  refine ⟨PK.weak (pk_cons h.pe hr.pk) fun σ H Q ⟨ι, env, S, P, re, rs, hw, hP⟩ => ?_⟩
  refine ⟨ι, env, S, _, re, rs, hw, fun x S1 hk ι1 H1 v e1 rs1 rx => ⟨ι1, env, S1, _, re.mono e1, rs1, hk, fun xs S2 hx ι2 H2 vs e2 rs2 rxs => ?_⟩⟩
  exact hP _ _ hx ι2 H2 _ (e1.trans e2) rs2 (.cons (rx.mono e2) rxs)
/-- values in another order -/
def perm {α : Type} (d : α) (is : List Nat) (xs : List α) : List α := is.map fun i => xs.getD i d
theorem perm_rvs {K : PySem.W.Frag} {ι : List Addr} {H : Hp} {xs : List PV} {vs : List V} (r : RVs K ι H xs vs) : ∀ is : List Nat, RVs K ι H (perm .non is xs) (perm .non is vs)
  | [] => .nil
  | i :: is => by
    refine .cons ?_ (perm_rvs r is)
    show RV K ι H (xs.getD i .non) (vs.getD i .non)
    rw [List.getD_eq_getElem?_getD, List.getD_eq_getElem?_getD]
    cases h : xs[i]? with
    | none =>
      have : vs[i]? = none := by rw [List.getElem?_eq_none_iff, ← r.length]; exact List.getElem?_eq_none_iff.mp h
      rw [this]
      exact .non
    | some x =>
      obtain ⟨v, h1, h2⟩ := r.get h
      rw [h1]
      exact h2
theorem perm_vals {vs : List V} {us : List Value} (r : Vals vs us) : ∀ is : List Nat, Vals (perm .non is vs) (perm .none is us)
  | [] => .nil
  | i :: is => by
    refine .cons ?_ (perm_vals r is)
    show RelV (vs.getD i .non) (us.getD i .none)
    rw [List.getD_eq_getElem?_getD, List.getD_eq_getElem?_getD]
    have key : ∀ {vs : List V} {us : List Value}, Vals vs us → ∀ i : Nat, RelV (vs[i]?.getD .non) (us[i]?.getD .none) := by
      intro vs us r
      induction r with
      | nil => intro i; exact rfl
      | cons h _ ih =>
        intro i
        cases i with
        | zero => exact h
        | succ i => exact ih i
    exact key r i
/-- how the text's def takes these keywords -/
def KwB (x : Str) (ps : List Str) (st : Stmt) (ks : List Str) (is : List Nat) : Prop := ∀ (kV doc pm : Value) (an : Option Addr) (cdv ct : Value) (ws : List Value), ws.length = ks.length →
  bindArgs (PySem.W.fnOf x x (defArgs st) (defBody st) (defScope st) .none kV doc pm an cdv ct) ⟨[], ks.zip ws⟩ = pure (ps.zip (perm .none is ws))
def wFK (c : Con) (n : Nat) (is : List Nat) (w : WA) : W := fun env S P => w env S fun xs S1 => xs.length = n ∧ c (perm .non is xs) S1 P
theorem re_calleeK {X : Cx} {x : Str} {ps ks : List Str} {is : List Nat} {st : Stmt} {k : Nat} {c : Con} {p pos : Pos} {kws : List Keyword} {w : WA} (C : Callee X.prog X.w X.K X.mg X.base x ps st k c) (hr : Room k X.A) (hgd : X.A.guards = some []) (hkw : RK X kws w) (kb : KwB x ps st ks is)
    (hx : Passes CX0 X E0) (hg : Gl X x := by rfl) (hdb : (x == ("__debug__" : Str)) = false := by decide)
    (hall : (backToKw pos (keywordEach kws X.env)).all (·.1.isSome) = true := by rfl) (hks : (backToKw pos (keywordEach kws X.env)).filterMap (·.1) = ks := by rfl)
    (hpl : ((backTo pos (starEach [] X.env)).any (·.1) || (backToKw pos (keywordEach kws X.env)).any (·.1.isNone)) = false := by rfl) :
    RE X (.Call (.Name x p) [] kws pos) (wFK c ks.length is w) := by
  obtain ⟨f, fd, F, hm, hk, _, kV, doc, pm, an, cdv, ct, rfl⟩ := C.ex
  refine ⟨⟨fun pins s σ H Q I ⟨ι, env, S, P, re, rs, hw, hP⟩ => ?_⟩⟩
  refine wpAny_Call_Name_kw (ld_glob I hg hm ?_ hdb)
  refine PySem.W.callWith_KW0 (h₀ := X.base) I.ok.mod.kin hk hall (thn (hkw.pk.run pos pins s σ H (fun vs H1 => vs.length = ks.length ∧ spC X.K c (perm .non is vs) H1 Q E0) I ⟨ι, env, S, _, re, rs, hw, fun xs S1 hx ι1 H1 vs e1 rs1 rx => ⟨by rw [← rx.length]; exact hx.1, spC_of e1 rs1 (perm_rvs rx is) hP hx.2⟩⟩) fun ws s1 ⟨vs, H1, I1, r, q1, q⟩ => ⟨I1.kIn, ?_⟩) hpl
  rw [hks]
  exact run_con (args := ⟨[], ks.zip ws⟩) F hr hgd hx I1 (.of_eq (kb kV doc pm an cdv ct ws (by rw [← r.length]; exact q1))) (perm_vals r is) q

theorem def_mk {K : PySem.W.Frag} {mg : Str → Option Value} {h : Heap} {x : Str} {ps : List Str} {st : Stmt} {f : Addr} {oc : Value} {od an : Option Addr} {osl : Array (Option Value)} {kV doc pm cdv ct : Value} (X : K.In h) (G : h.Ns mainGlobals mg)
    (a : PySem.W.nsIn K mainGlobals x = some (some (.ref f))) (l : K.lookup f = some ⟨oc, od, .func (PySem.W.fnOf x x (defArgs st) (defBody st) (defScope st) .none kV doc pm an cdv ct), osl⟩)
    (c : PySem.W.codeIn K cdv x = true) (k : PySem.W.keepIn K (.ref f) = true)
    (hb : ∀ (kV doc pm : Value) (an : Option Addr) (cdv ct : Value) (us : List Value), us.length = ps.length → bindArgs (PySem.W.fnOf x x (defArgs st) (defBody st) (defScope st) .none kV doc pm an cdv ct) ⟨us, []⟩ = pure (ps.zip us)) : Def K mg x ps st :=
  ⟨f, _, fun_mk l c k, PySem.W.mg_of X G a, fun _ us hl => .of_eq (hb _ _ _ _ _ _ us hl), _, _, _, _, _, _, rfl⟩
/-- the law's own def, ready for the end -/
theorem law_of {P : Program} {w : World} {K : PySem.W.Frag} {mg : Str → Option Value} {x : Str} {ps N : List Str} {k : Nat} {c : Con} {st : Stmt} {wb : WS} {fa : Addr} {y : Str} (D : Def K mg x ps st) (hp : ps = [y]) (hfa : mg x = some (.ref fa)) (S : FnScope N ps (defScope st)) (hlen : ∀ xs S0 P, c xs S0 P → xs.length = ps.length)
    (hbody : ∀ base : Heap, SM base → K.In base → base.Ns mainGlobals mg → ∀ (f : Addr) (cdv : Value) (A : Around) (outer : List Env) (s : Shared) (H : Hp) (E : XK), Room k (A.deeper (envOfC x (defScope st) s.heap.objs.size f cdv)) → A.guards = some [] →
      JB (cxOf CX0 P w K mg base N x (defScope st) f cdv A outer s H E).nox (defBody st) wb)
    (hpl : ∀ xs S0 P, c xs S0 P → wb (xs.map some ++ List.replicate (N.length - xs.length) none) S0 ⟨fun _ S' => P .non S', P, fun _ _ => False, fun _ _ => False⟩) :
    ∃ fd : FuncData, (∀ (s : Shared) (u : Value), BindsTo s fd ⟨[u], []⟩ [(y, u)]) ∧ ∀ base : Heap, SM base → K.In base → base.Ns mainGlobals mg → FnG P w K mg base CX0 (k + 1) fa fd [y] (spC K c) := by
  subst hp
  obtain ⟨f, fd, F, hm, hb, _⟩ := D.ex
  rw [hfa] at hm
  cases hm
  exact ⟨fd, fun s u => hb s [u] rfl, fun base h0 h1 h2 => def_ok F S hlen (hbody base h0 h1 h2 fa) hpl⟩

/-! ### promises with ghosts -/
def conG {G : Type} (pre : G → List PV → Store → Prop) (post : G → List PV → Store → PV → Store → Prop) : Con := fun xs S P => ∃ g, pre g xs S ∧ ∀ x S', post g xs S x S' → P x S'
theorem con_g {G : Type} {pre : G → List PV → Store → Prop} {post : G → List PV → Store → PV → Store → Prop} {xs : List PV} {S : Store} {P : PQ} (g : G) (h : pre g xs S) (k : ∀ x S', post g xs S x S' → P x S') : conG pre post xs S P := ⟨g, h, k⟩

/-! ### loops by an invariant -/
theorem loop_inv {g : PIt} {tg : WG} {body : WS} {D : PEnds} {n : Nat} (I : Nat → PEnv → Store → Prop)
    (turn : ∀ i env S, i < n → I i env S → ∃ x env1, g i S = some (some x) ∧ tg x env = some env1 ∧ ∀ D' : PEnds, (∀ env' S', I (i + 1) env' S' → D'.nx env' S') → (∀ env' S', I (i + 1) env' S' → D'.ct env' S') → D'.rt = D.rt → D'.bk = D.nx → body env1 S D')
    (stop : ∀ env S, I n env S → g n S = some none ∧ D.nx env S) {env : PEnv} {S : Store} (h0 : I 0 env S) : ∃ m, wLoop g tg body D m 0 env S := by
  have key : ∀ k i env S, i + k = n → I i env S → wLoop g tg body D (k + 1) i env S := by
    intro k
    induction k with
    | zero =>
      intro i env S e h
      obtain rfl : i = n := e
      obtain ⟨h1, h2⟩ := stop env S h
      unfold wLoop
      rw [h1]
      exact h2
    | succ k ih =>
      intro i env S e h
      obtain ⟨x, env1, h1, h2, h3⟩ := turn i env S (by omega) h
      unfold wLoop
      rw [h1]
      simp only [h2]
      exact h3 _ (fun env' S' q => ih (i + 1) env' S' (by omega) q) (fun env' S' q => ih (i + 1) env' S' (by omega) q) rfl rfl
  exact ⟨n + 1, key n 0 env S (by omega) h0⟩
theorem lc_inv {g : PIt} {tg : WG} {tt : WT} {te : W} {own : List Nat} {env0 : PEnv} {d n : Nat} {P : PQ} (I : Nat → Store → Prop)
    (turn : ∀ i S, i < n → I i S → ∃ x env1, g i S = some (some x) ∧ tg x (wipeP env0 own) = some env1 ∧ ∀ (Qt : Bool → Store → Prop) (Qe : PQ),
      (∀ y S2 acc, S2[d]? = some (.lst acc) → acc.length < sizeLine → I (i + 1) (S2.set d (.lst (acc ++ [y]))) → Qe y S2) → (∀ S1, I (i + 1) S1 → Qt false S1) → (∀ S1, te env1 S1 Qe → Qt true S1) → tt env1 S Qt)
    (stop : ∀ S, I n S → g n S = some none ∧ P (.ref d) S) {S : Store} (h0 : I 0 S) : ∃ m, wLcL g tg tt te own env0 d P m 0 S := by
  have key : ∀ k i S, i + k = n → I i S → wLcL g tg tt te own env0 d P (k + 1) i S := by
    intro k
    induction k with
    | zero =>
      intro i S e h
      obtain rfl : i = n := e
      obtain ⟨h1, h2⟩ := stop S h
      unfold wLcL
      rw [h1]
      exact h2
    | succ k ih =>
      intro i S e h
      obtain ⟨x, env1, h1, h2, h3⟩ := turn i S (by omega) h
      unfold wLcL
      rw [h1]
      simp only [h2]
      refine h3 _ _ (fun y S2 acc a1 a2 a3 => ?_) (fun S1 q => ih (i + 1) S1 (by omega) q) (fun S1 q => q)
      rw [a1]
      exact ⟨a2, ih (i + 1) _ (by omega) a3⟩
  exact ⟨n + 1, key n 0 S (by omega) h0⟩
end Lt
set_option Elab.async false
set_option linter.all false
set_option maxRecDepth 100000
/-! Lt9: reckoning with plain terms. -/
namespace Lt
open PySem PySem.Spec PyProof.Rows L2

theorem gMul_l {i j : Int} (h1 : -(2 ^ 64) < i) (h2 : i < 2 ^ 64) : gMul i j = some (.int (i * j)) := if_pos (.inl ⟨h1, h2⟩)
theorem gMul_r {i j : Int} (h1 : -(2 ^ 64) < j) (h2 : j < 2 ^ 64) : gMul i j = some (.int (i * j)) := if_pos (.inr ⟨h1, h2⟩)
theorem gDiv_ok {i j : Int} (h1 : 0 < j) (h2 : j < 1073741824) : gDiv i j = some (.int (i / j)) := if_pos ⟨h1, h2⟩
theorem gMod_ok {i j : Int} (h1 : 0 < j) : gMod i j = some (.int (i % j)) := if_pos h1
theorem cut_ok {n : Nat} {r : PV × Store} (h : n ≤ 16777216) : cut n r = some r := if_pos (by rw [sizeLine_eq]; exact h)
theorem sl_le {n : Nat} (h : n ≤ 16777216) : n ≤ sizeLine := by rw [sizeLine_eq]; exact h
theorem sl_lt {n : Nat} (h : n < 16777216) : n < sizeLine := by rw [sizeLine_eq]; exact h
theorem gPow_1018 : gPow 10 18 = some (.int 1000000000000000000) := rfl

theorem fAdd_ii (i j : Int) (S : Store) : fAdd (.int i) (.int j) S = some (.int (i + j), S) := rfl
theorem fAdd_tt {xs ys : List PV} {S : Store} (h : xs.length + ys.length ≤ 16777216) : fAdd (.tup xs) (.tup ys) S = some (.tup (xs ++ ys), S) := cut_ok h
theorem fAdd_ll {n m : Nat} {xs ys : List PV} {S : Store} (h1 : S[n]? = some (.lst xs)) (h2 : S[m]? = some (.lst ys)) (h : xs.length + ys.length ≤ 16777216) : fAdd (.ref n) (.ref m) S = some (.ref S.length, S ++ [.lst (xs ++ ys)]) := by
  show (match S[n]?, S[m]? with
    | some (Cell.lst xs), some (Cell.lst ys) => cut (xs.length + ys.length) (PV.ref S.length, S ++ [Cell.lst (xs ++ ys)])
    | _, _ => none) = _
  rw [h1, h2]
  exact cut_ok h
theorem fI_ii (g : Int → Int → Option PV) (i j : Int) (S : Store) : fI g (.int i) (.int j) S = (g i j).map fun v => (v, S) := rfl
theorem opt_some (r : PV × Store) (Q : PQ) : opt (some r) Q = Q r.1 r.2 := rfl
theorem fGet_ok {n : Nat} {y : PV} {k : Key} {kvs : List (Key × PV)} {v : PV} {S : Store} (hk : keyOf y = some k) (h : S[n]? = some (.dic kvs)) (hv : lookK k kvs = some v) : fGet (.ref n) y S = some (v, S) := by
  unfold fGet
  simp only [hk, h, hv, Option.map_some]
theorem fIx_t {xs : List PV} {j : Nat} {x : PV} {S : Store} (h : xs[j]? = some x) : fIx (.tup xs) (.int j) S = some (x, S) := by
  show (atI xs (j : Int)).map _ = _
  rw [atI_nat h]; rfl
theorem fIx_l {n : Nat} {c : Cell} {xs : List PV} {j : Nat} {x : PV} {S : Store} (hc : S[n]? = some c) (hx : c.items = some xs) (h : xs[j]? = some x) : fIx (.ref n) (.int j) S = some (x, S) := by
  unfold fIx
  simp only [hc, hx]
  rw [atI_nat h]; rfl
theorem seqOf_l {n : Nat} {c : Cell} {xs : List PV} {S : Store} (hc : S[n]? = some c) (hx : c.items = some xs) : seqOf (.ref n) S = some xs := by
  unfold seqOf
  simp only [hc, hx]
theorem bLen_l {n : Nat} {c : Cell} {xs : List PV} {S : Store} (hc : S[n]? = some c) (hx : c.items = some xs) : bLen [.ref n] S = some (.int xs.length, S) := by
  show (seqOf (.ref n) S).map _ = _
  rw [seqOf_l hc hx]; rfl
theorem bLen_t {xs : List PV} {S : Store} : bLen [.tup xs] S = some (.int xs.length, S) := rfl
/-- [..] * k -/
def fRep : F2
  | .ref n, .int k, S => match S[n]? with
    | some (.lst xs) => if (-(2 ^ 63) ≤ k ∧ k < 2 ^ 63) ∧ xs.length * k.toNat ≤ sizeLine then some (.ref S.length, S ++ [.lst (List.replicate k.toNat xs).flatten]) else none
    | _ => none
  | _, _, _ => none
theorem op_fRep {X : Cx} : OpR X (binaryOp .Mult) (rOp X.K fRep) := by
  intro pins s σ H u v uu vv Q I ru rv ⟨ι, S, x, y, P, rs, rx, ry, hf, hP⟩
  unfold fRep at hf
  split at hf
  · obtain ⟨a, rfl, ha⟩ := ref_of rx
    cases int_of ry
    split at hf
    · rename_i hm
      obtain ⟨us, hu, q⟩ := at_lst rs hm ha
      obtain ⟨⟨⟨c1, c2⟩, c3⟩, h⟩ := opt_ite hf
      refine L2.op_rep pins s σ H _ _ _ _ Q I ru rv ⟨a, _, us, rfl, rfl, hu, c1, c2, by rw [← q.length]; exact c3, fun p hp => ?_⟩
      exact new_lst rs (q.rep _) hP h p hp
    · exact hf.elim
  · exact hf.elim
/-! stores -/
/-- all but the cells of M stands as it stood -/
structure Kp (M : List Nat) (S S' : Store) : Prop where
  le : S.length ≤ S'.length
  at_ : ∀ n c, n ∉ M → S[n]? = some c → S'[n]? = some c
theorem Kp.refl {M : List Nat} {S : Store} : Kp M S S := ⟨Nat.le_refl _, fun _ _ _ h => h⟩
theorem Kp.trans {M : List Nat} {S S1 S2 : Store} (a : Kp M S S1) (b : Kp M S1 S2) : Kp M S S2 := ⟨Nat.le_trans a.le b.le, fun n c h e => b.at_ n c h (a.at_ n c h e)⟩
theorem Kp.sub {M M' : List Nat} {S S' : Store} (a : Kp M S S') (h : ∀ n ∈ M, n ∈ M') : Kp M' S S' := ⟨a.le, fun n c hn e => a.at_ n c (fun z => hn (h n z)) e⟩
theorem Kp.push {M : List Nat} {S : Store} {c : Cell} : Kp M S (S ++ [c]) := ⟨by simp, fun n d _ e => by rw [List.getElem?_append_left (List.getElem?_eq_some_iff.mp e).1]; exact e⟩
theorem Kp.set {M : List Nat} {S : Store} {n : Nat} {c : Cell} (h : n ∈ M) : Kp M S (S.set n c) := ⟨by simp, fun m d hm e => by rw [List.getElem?_set_ne (fun (z : n = m) => hm (by subst z; exact h))]; exact e⟩
/-- a cell that was made since may change -/
theorem Kp.set_new {M : List Nat} {S S' : Store} {n : Nat} {c : Cell} (a : Kp M S S') (h : S.length ≤ n) : Kp M S (S'.set n c) :=
  ⟨by simpa using a.le, fun m d hm e => by rw [List.getElem?_set_ne (fun z => by have := (List.getElem?_eq_some_iff.mp e).1; omega)]; exact a.at_ m d hm e⟩
theorem at_new (S : Store) (c : Cell) : (S ++ [c])[S.length]? = some c := by simp
theorem at_old {S : Store} {c d : Cell} {n : Nat} (h : S[n]? = some d) : (S ++ [c])[n]? = some d := by
  rw [List.getElem?_append_left (List.getElem?_eq_some_iff.mp h).1]; exact h
theorem at_set {S : Store} {c d : Cell} {n : Nat} (h : S[n]? = some d) : (S.set n c)[n]? = some c := List.getElem?_set_self (List.getElem?_eq_some_iff.mp h).1
theorem at_set_ne {S : Store} {c d : Cell} {n m : Nat} (hn : m ≠ n) (h : S[n]? = some d) : (S.set m c)[n]? = some d := by rw [List.getElem?_set_ne hn]; exact h
theorem lt_of_at {S : Store} {c : Cell} {n : Nat} (h : S[n]? = some c) : n < S.length := (List.getElem?_eq_some_iff.mp h).1

/-! ### data -/
theorem toD_ints (n : Nat) (S : Store) : ∀ ns : List Int, optAll (toD (n + 1) S) (ns.map PV.int) = some (ns.map PyData.int)
  | [] => rfl
  | i :: r => by
    simp only [List.map_cons]
    unfold optAll
    rw [toD_ints n S r]
    rfl
theorem lay_ints : ∀ ns : List Int, PyData.canLayAll0 (ns.map PyData.int) = true
  | [] => by simp [PyData.canLayAll0]
  | n :: r => by simp [PyData.canLayAll0, PyData.canLay0, lay_ints r]
theorem depth_ints : ∀ ns : List Int, PyData.depthAll (ns.map PyData.int) = 0
  | [] => by simp [PyData.depthAll]
  | n :: r => by simp [PyData.depthAll, PyData.depth, depth_ints r]
theorem shaped_ints (ns : List Int) : SeqAt.shaped (.list (ns.map PyData.int)) = true := by
  show (PyData.canLay0 _ && decide (PyData.depth _ ≤ 64)) = true
  simp [PyData.canLay0, PyData.depth, lay_ints, depth_ints]
theorem eqv_list_nil (ds : List PyData) : PyData.eqv (.list ds) (.list []) = ds.isEmpty := by
  cases ds <;> simp [PyData.eqv, PyData.eqvAll]
/-- a list of ints against [] -/
theorem fNe_ints_nil {n m : Nat} {ns : List Int} {S : Store} (h1 : S[n]? = some (.lst (ns.map .int))) (h2 : S[m]? = some (.lst [])) : fNe (.ref n) (.ref m) S = some (.bl (!ns.isEmpty), S) := by
  have d1 : toD 66 S (.ref n) = some (.list (ns.map .int)) := by
    unfold toD
    simp only [h1]
    rw [toD_ints 64 S ns]; rfl
  have d2 : toD 66 S (.ref m) = some (.list []) := by
    unfold toD
    simp only [h2]
    rfl
  have s2 : SeqAt.shaped (.list []) = true := shaped_ints []
  show (eqP (.ref n) (.ref m) S).map _ = _
  have e : eqP (.ref n) (.ref m) S = some ns.isEmpty := by
    unfold eqP
    simp only [d1, d2]
    rw [if_pos ⟨shaped_ints ns, s2⟩, eqv_list_nil]
    cases ns <;> rfl
  rw [e]; rfl
end Lt
set_option Elab.async false
set_option linter.all false
set_option maxRecDepth 100000
/-! Lt10: data for repr and for ==. -/
namespace Lt
open PySem PySem.Spec PyProof.Rows L2
/-- plain data that may be shown: depth and length -/
structure Okd (k L : Nat) (d : PyData) : Prop where
  nd : d.hasDict = false
  sh : d.showable = true
  dp : d.depth ≤ k
  ln : d.shown.length ≤ L
  cl : d.canLay0 = true
theorem Okd.mono {k L k' L' : Nat} {d : PyData} (h : Okd k L d) (h1 : k ≤ k') (h2 : L ≤ L') : Okd k' L' d := ⟨h.nd, h.sh, Nat.le_trans h.dp h1, Nat.le_trans h.ln h2, h.cl⟩
theorem Okd.int {v : Nat} (h : v < 1000) : Okd 0 (v + 2) (.int v) := by
  refine ⟨by simp [PyData.hasDict], ?_, by simp [PyData.depth], ?_, by simp [PyData.canLay0]⟩
  · show decide ((v : Int).natAbs.log2 < 1920) = true
    rw [decide_eq_true_eq, Int.natAbs_natCast]
    exact Nat.lt_of_le_of_lt (Nat.log2_le_self v) (by omega)
  · have := len_str_of_int (v : Int)
    show (Str.ofString (toString (v : Int))).length ≤ v + 2
    rw [Int.natAbs_natCast] at this
    omega
theorem piled_bd {L : Nat} : ∀ {ts : List Str}, (∀ t ∈ ts, t.length ≤ L) → piled ts ≤ ts.length * (L + 2)
  | [], _ => by simp [piled]
  | t :: ts, h => by
    have h1 := h t (by simp)
    have h2 := piled_bd (ts := ts) fun x hx => h x (List.mem_cons_of_mem _ hx)
    rw [piled_cons, List.length_cons, Nat.succ_mul]
    omega
theorem tupleText_bd {L : Nat} {ts : List Str} (h : ∀ t ∈ ts, t.length ≤ L) : (tupleText ts).length ≤ ts.length * (L + 2) + 3 := by
  have hp := piled_bd h
  have hj : (Str.join ", " ts).length ≤ piled ts := by
    by_cases e : ts = []
    · subst e; exact Nat.zero_le _
    · have := join_length_add ts e; omega
  have e1 : ((("(" : String) : Str)).length = 1 := rfl
  have e3 : (((if ts.length == 1 then ",)" else ")" : String) : Str)).length ≤ 2 := by split <;> decide
  unfold tupleText
  rw [strLen_append, strLen_append, e1]
  omega
theorem listText_bd {L : Nat} {ts : List Str} (h : ∀ t ∈ ts, t.length ≤ L) : (listText ts).length ≤ ts.length * (L + 2) + 3 := by
  have hp := piled_bd h
  unfold listText
  have e1 : ((("]" : String) : Str)).length = 1 := rfl
  rw [strLen_append, e1]
  have ht : (textFrom 0 "[" ts).length ≤ 1 + piled ts := by
    cases ts with
    | nil => exact Nat.le_refl 1
    | cons t r =>
      show (textFrom 1 (("[" : Str) ++ ("" : String) ++ t) r).length ≤ _
      rw [textFrom_length_pos r 1 _ (by decide), strLen_append, strLen_append, piled_cons]
      have : (("[" : Str)).length = 1 := rfl
      have : ((("" : String) : Str)).length = 0 := rfl
      omega
  omega
theorem mem_shownAll {L : Nat} : ∀ {ds : List PyData}, (∀ d ∈ ds, d.shown.length ≤ L) → ∀ t ∈ PyData.shownAll ds, t.length ≤ L
  | [], _ => fun t h => by simp [PyData.shownAll] at h
  | d :: r, h => fun t ht => by
    simp only [PyData.shownAll, List.mem_cons] at ht
    rcases ht with rfl | ht
    · exact h d (by simp)
    · exact mem_shownAll (fun x hx => h x (List.mem_cons_of_mem _ hx)) t ht
theorem shownAll_len : ∀ ds : List PyData, (PyData.shownAll ds).length = ds.length
  | [] => by simp [PyData.shownAll]
  | d :: r => by simp [PyData.shownAll, shownAll_len r]
theorem okd_all {k L : Nat} : ∀ {ds : List PyData}, (∀ d ∈ ds, Okd k L d) → PyData.hasDictAll ds = false ∧ PyData.showableAll ds = true ∧ PyData.depthAll ds ≤ k ∧ PyData.canLayAll0 ds = true
  | [], _ => by simp [PyData.hasDictAll, PyData.showableAll, PyData.depthAll, PyData.canLayAll0]
  | d :: r, h => by
    have h1 := h d (by simp)
    obtain ⟨a, b, c, e⟩ := okd_all (ds := r) fun x hx => h x (List.mem_cons_of_mem _ hx)
    refine ⟨by simp [PyData.hasDictAll, h1.nd, a], by simp [PyData.showableAll, h1.sh, b], ?_, by simp [PyData.canLayAll0, h1.cl, e]⟩
    simp only [PyData.depthAll]
    exact Nat.max_le.mpr ⟨h1.dp, c⟩
theorem Okd.tup {k L : Nat} {ds : List PyData} (h : ∀ d ∈ ds, Okd k L d) : Okd (k + 1) (ds.length * (L + 2) + 3) (.tuple ds) := by
  obtain ⟨a, b, c, e⟩ := okd_all h
  refine ⟨by simp [PyData.hasDict, a], by simp [PyData.showable, b], by simp only [PyData.depth]; omega, ?_, by simp [PyData.canLay0, e]⟩
  have := tupleText_bd (mem_shownAll fun d hd => (h d hd).ln)
  rw [shownAll_len] at this
  simpa only [PyData.shown] using this
theorem Okd.lst {k L : Nat} {ds : List PyData} (h : ∀ d ∈ ds, Okd k L d) : Okd (k + 1) (ds.length * (L + 2) + 3) (.list ds) := by
  obtain ⟨a, b, c, e⟩ := okd_all h
  refine ⟨by simp [PyData.hasDict, a], by simp [PyData.showable, b], by simp only [PyData.depth]; omega, ?_, by simp [PyData.canLay0, e]⟩
  have := listText_bd (mem_shownAll fun d hd => (h d hd).ln)
  rw [shownAll_len] at this
  simpa only [PyData.shown] using this
theorem bRepr_ok {x : PV} {S : Store} {d : PyData} {k L : Nat} (h : toD 66 S x = some d) (hd : isDisplay d = true) (o : Okd k L d) (hk : k ≤ 60) (hL : L ≤ 16777216) : bRepr [x] S = some (.str d.shown, S) := by
  unfold bRepr
  simp only [h]
  exact if_pos ⟨hd, o.nd, o.sh, Nat.le_trans o.dp hk, Nat.le_trans o.ln (sl_le hL)⟩
theorem optAll_map {α β : Type} {f : α → Option β} {g : α → β} : ∀ {xs : List α}, (∀ x ∈ xs, f x = some (g x)) → optAll f xs = some (xs.map g)
  | [], _ => rfl
  | x :: xs, h => by
    unfold optAll
    rw [h x (by simp), optAll_map (xs := xs) fun y hy => h y (List.mem_cons_of_mem _ hy)]
    rfl
theorem fNe_str (x y : Str) (S : Store) : fNe (.str x) (.str y) S = some (.bl (!decide (x = y)), S) := rfl
/-- a list of data against [] -/
theorem fNe_nil {n m k L : Nat} {ds : List PyData} {S : Store} (h1 : toD 66 S (.ref n) = some (.list ds)) (o : ∀ d ∈ ds, Okd k L d) (hk : k ≤ 63) (h2 : S[m]? = some (.lst [])) : fNe (.ref n) (.ref m) S = some (.bl (!ds.isEmpty), S) := by
  have d2 : toD 66 S (.ref m) = some (.list []) := by
    unfold toD
    simp only [h2]
    rfl
  have sh : ∀ {es : List PyData}, (∀ d ∈ es, Okd k L d) → SeqAt.shaped (.list es) = true := fun {es} h => by
    obtain ⟨a, b, c, e⟩ := okd_all h
    show (PyData.canLay0 _ && decide (PyData.depth _ ≤ 64)) = true
    simp [PyData.canLay0, e, PyData.depth]
    omega
  have e : eqP (.ref n) (.ref m) S = some ds.isEmpty := by
    unfold eqP
    simp only [h1, d2]
    rw [if_pos ⟨sh o, sh (es := []) (by simp)⟩, eqv_list_nil]
  show (eqP (.ref n) (.ref m) S).map _ = _
  rw [e]; rfl
theorem toD_lst {n m : Nat} {S : Store} {xs : List PV} {g : PV → PyData} (h : S[m]? = some (.lst xs)) (hx : ∀ x ∈ xs, toD n S x = some (g x)) : toD (n + 1) S (.ref m) = some (.list (xs.map g)) := by
  unfold toD
  simp only [h]
  rw [optAll_map hx]; rfl
theorem toD_tup {n : Nat} {S : Store} {xs : List PV} {g : PV → PyData} (hx : ∀ x ∈ xs, toD n S x = some (g x)) : toD (n + 1) S (.tup xs) = some (.tuple (xs.map g)) := by
  show (optAll (toD n S) xs).map _ = _
  rw [optAll_map hx]; rfl
end Lt
set_option Elab.async false
set_option linter.all false
set_option maxRecDepth 100000
/-! Lt11: enumerate over a tuple. -/
namespace Lt
open PySem PySem.Spec PyProof.Rows L2
open AutoSeq1 (wpAny_loadPart')
set_option maxHeartbeats 1000000 in
theorem enum_made (l : Addr) (items : Array Value) (n : Nat) (dct : Option Addr) (sl : Array (Option Value)) :
    Meets (Builtin.«enumerate.__new__» ⟨[.type "enumerate", .ref l], []⟩) (fun _ R s => s.heap.get? l = some { cls := .type "tuple", dict := dct, data := .seq items n, slots := sl } ∧
      R (.ok (.ret (.ref (s.heap.push { cls := .type "tuple_iterator", data := .fields #[.ref l, .int 0 0] }).objs.size)))
        { s with heap := (s.heap.push { cls := .type "tuple_iterator", data := .fields #[.ref l, .int 0 0] }).push { cls := .type "enumerate", data := .fields #[.none, .bool false, .ref s.heap.objs.size, rawInt 0, .none, .none] } }) :=
  .of_wp fun prog w A R s h => by
    obtain ⟨hp, g, d, tk, os⟩ := s
    obtain ⟨hl, h⟩ := h
    have hsub := sub_enumerate
    have hT : Heap.IsTuple (Shared.heap ⟨hp, g, d, tk, os⟩) l items := ⟨_, hl, rfl, n, rfl⟩
    wp_walk using wpAny_loadPart' hl
    refine wpAny_stack_any fun st => wpAny_pure ?_
    split
    · rename_i c _ _ _ _ _
      cases (c == Value.type "enumerate") <;>
      · wp_walk using wpAny_loadPart' hl, wpAny_pyIter_tuple hT
        exact ⟨_, rfl, h⟩
    · wp_walk using wpAny_loadPart' hl, wpAny_pyIter_tuple hT
      exact ⟨_, rfl, h⟩
section
variable {prog : Program} {w : World} {A : Around} {E : Value → Shared → Prop} {s : Shared}
theorem enum_of_tuple {l : Addr} {items : Array Value} {Q : Value → Shared → Prop} (hT : s.heap.IsTuple l items)
    (h : ∀ h', IsEnum h' (s.heap.objs.size + 1) s.heap.objs.size 0 .none → h'.IsTupleIter s.heap.objs.size l 0 → h'.objs.size = s.heap.objs.size + 2 →
      (∀ b o, s.heap.get? b = some o → h'.get? b = some o) → Q (.ref (s.heap.objs.size + 1)) { s with heap := h' }) :
    wpAny (model prog w) A (call (.type "enumerate") [.ref l]) Q E s := by
  obtain ⟨⟨c, dct, dt, sl⟩, hl, hc, n, hd⟩ := hT
  simp only at hc hd
  subst hc hd
  refine callType_new F.called_enumerate (by decide) (F.typeCall_enumerate_1 _) (F.newCall_enumerate_1 _) (fun obj => F.args_object_init_2 obj _) F.entry_enumerate_new
    (enum_made l items n dct sl) ⟨hl, ?_⟩
  generalize ho1 : ({ cls := .type "tuple_iterator", data := .fields #[.ref l, .int 0 0] } : Obj) = o1
  generalize ho2 : ({ cls := .type "enumerate", data := .fields #[.none, .bool false, .ref s.heap.objs.size, rawInt 0, .none, .none] } : Obj) = o2
  have z1 : (s.heap.push o1).objs.size = s.heap.objs.size + 1 := Heap.size_push ..
  show _ ∧ _
  rw [z1]
  have he : ((s.heap.push o1).push o2).get? (s.heap.objs.size + 1) = some o2 := by
    have := Heap.get?_push_size (s.heap.push o1) (o := o2) (by rw [← ho2]; rfl)
    rwa [z1] at this
  have hi : ((s.heap.push o1).push o2).get? s.heap.objs.size = some o1 := Heap.get?_push_of_some _ (Heap.get?_push_size _ (by rw [← ho1]; rfl))
  refine ⟨⟨o2, he, by rw [← ho2]⟩, h _ ?_ ⟨o1, hi, by rw [← ho1], by rw [← ho1]; rfl⟩ (by rw [Heap.size_push, z1]) fun b o x => Heap.get?_push_of_some _ (Heap.get?_push_of_some _ x)⟩
  rw [← ho2] at he
  rw [← ho2]
  exact he
end
/-- the tuple at a, each item in a new pair -/
def IteT (K : PySem.W.Frag) (a : Addr) : It :=
  ⟨fun i H => ∃ (xs : List V) (x : V), SqT K H a xs ∧ xs[i]? = some x, fun i H v H' => ∃ T x, v = .ref T ∧ H T = none ∧ H' = upd H T (.tup [.int (i : Nat), x]) ∧ ∀ xs, SqT K H a xs → xs[i]? = some x, fun i H => ∃ xs : List V, SqT K H a xs ∧ xs.length = i⟩
theorem turn_enumT {P : Program} {w : World} {K : PySem.W.Frag} {elts : List Expr} {kk : Nat} {tpos : Pos} (a e it : Addr) :
    Turn P w K (.Tuple elts kk tpos) (IteT K a) [e, it] e (fun i h => (∃ old, IsEnum h e it ((i : Nat) : Int) old) ∧ h.IsTupleIter it a i ∧ e ≠ it ∧ a ≠ e ∧ a ≠ it) where
  mem := by simp
  obj := fun i h st b hb => by
    obtain ⟨⟨old, he⟩, ⟨o, ho, hc, hd⟩, _⟩ := st
    rcases List.mem_cons.mp hb with z | z
    · rw [z]; exact ⟨_, he, fun v q => nomatch q⟩
    · rw [List.mem_singleton.mp z]; exact ⟨o, ho, fun v q => by rw [hd] at q; cases q⟩
  keep := fun i h h' st k => by
    obtain ⟨⟨old, he⟩, hi, hne⟩ := st
    exact ⟨⟨old, k e (by simp) _ he⟩, hi.at fun o q => k it (by simp) o q, hne⟩
  item := by
    intro X hP hw hK hc i pins s σ H E I hf st hg
    subst hP hw hK
    obtain ⟨⟨old, he⟩, hit, hne, hae, hai⟩ := st
    obtain ⟨xs, x, hq, hx⟩ := hg
    obtain ⟨its, rv, p, hz⟩ := I.tuple hq
    obtain ⟨u, hu, ru⟩ := rv.get hx
    have hel : e < s.heap.objs.size := Heap.lt_size he
    have hil : it < s.heap.objs.size := by obtain ⟨_, q, _⟩ := hit; exact Heap.lt_size q
    have hal : a < s.heap.objs.size := by obtain ⟨_, q, _⟩ := p; exact Heap.lt_size q
    have hlt : i < its.toArray.size := by have := (List.getElem?_eq_some_iff.mp hu).1; simpa using this
    have D := Draws.tuple (prog := X.prog) (w := X.w) (A := X.A.in1) (I.ok.hd hc) it a hai its.toArray
    refine wpAny_pyNext_enum_itemC D he ⟨hit, p⟩ hlt hne (by simp [hne, Ne.symm hae]) fun y h' tk hP ho hit' hT hsz hk => ?_
    have ey : y = u := by
      have e1 : its.toArray[i]? = some u := by simpa using hu
      rw [e1] at hP
      exact (Option.some.inj hP).symm
    subst ey
    refine ⟨_, rfl, wpAny_letOwnedTupleGo_enum (s := { s with heap := h', toks := tk + 1 }) ho fun h'' he' sb => ?_⟩
    have hT2 : h''.get? s.heap.objs.size = some { cls := .type "tuple", data := .seq #[.int i tk, y] } := (sb.2 _ (Nat.ne_of_gt hel)).trans hT
    have new : ObjOk X.prog X.w (upd H s.heap.objs.size (.tup [.int (i : Nat), x])) h'' s.heap.objs.size (.tup [.int (i : Nat), x]) :=
      ⟨by show 2 ≤ sizeLine; decide, [.int i tk, y], .cons ⟨_, rfl⟩ (.cons ru .nil), ⟨_, hT2, rfl, _, rfl⟩⟩
    have I1 : Inv X pins σ (upd H s.heap.objs.size (.tup [.int (i : Nat), x])) { s with heap := h'', toks := tk + 1 } :=
      I.turnedNew (ch := [e, it]) (fun b ob hb q => (sb.2 b (fun z => hb (by simp [z]))).trans (hk b ob (fun z => hb (by simp [z])) (fun z => hb (by simp [z])) q)) hf (Nat.le_refl _) new
    refine ⟨.ref s.heap.objs.size, _, I1, rfl, ⟨_, x, rfl, I.hok.fresh (Nat.le_refl _), rfl, fun ys hy => ?_⟩, ⟨⟨y, ?_⟩, hit'.1.at fun o q => (sb.2 it (Ne.symm hne)).trans q, hne, hae, hai⟩, fun b hb => ?_⟩
    · rw [I.tuple_inj hy hq]; exact hx
    · have e1 : ((i + 1 : Nat) : Int) = (i : Int) + 1 := by omega
      rw [e1]; exact he'
    · have hb' : b < s.heap.objs.size := by
        rcases List.mem_cons.mp hb with z | z
        · rw [z]; exact hel
        · rw [List.mem_singleton.mp z]; exact hil
      rw [upd_ne (Nat.ne_of_lt hb')]
      exact (hf b hb).1
  done := by
    intro X hP hw hK hc i pins s σ H E I hf st hg
    subst hP hw hK
    obtain ⟨⟨old, he⟩, hit, hne, hae, hai⟩ := st
    obtain ⟨xs, hq, hx⟩ := hg
    obtain ⟨its, rv, p, hz⟩ := I.tuple hq
    have hl := rv.length
    obtain ⟨f0, f1, f2, f3, f4, f5⟩ := hf it (by simp)
    have D := Draws.tuple (prog := X.prog) (w := X.w) (A := X.A.in1) (I.ok.hd hc) it a hai its.toArray
    have en : its.toArray.size = i := by rw [List.size_toArray, ← hl]; exact hx
    subst en
    exact wpAny_pyNext_enum_endD D he ⟨hit, p⟩ fun h' eb => ⟨rfl, I.turned (t' := s.toks) (fun b o hb q => eb b o hb q) f0 f1 f3 f4 f5⟩
  self := fun A i s Q E st h => let ⟨⟨_, he⟩, _⟩ := st; wpAny_pyIter_enum he h
def iEnumA (K : PySem.W.Frag) (ta : TA) : TI := fun σ H R => ta σ H fun vs H1 => ∃ a xs, vs = [.ref a] ∧ ((SqL K H1 a xs ∧ R (Ite K a) H1) ∨ (SqT K H1 a xs ∧ R (IteT K a) H1))
theorem pi_enumA {X : Cx} {e : Expr} {ta : TA} {p pos tpos : Pos} {elts : List Expr} {kk : Nat} (hg : Gl X "enumerate") (hm : X.mg "enumerate" = none) (ha : PA X [e] ta) (hs : starEach [e] X.env = [(false, eval e X.env)] := by rfl) :
    PI X (.Tuple elts kk tpos) (.Call (.Name "enumerate" p) [e] [] pos) (iEnumA X.K ta) := by
  refine ⟨fun pins s σ H R I h => ?_⟩
  refine Call_ (ld_blt I hg hm boot_enumerate (PyProof.Rows.callWith_type1 (thn (ha.run pos pins s σ H _ I h) fun us s1 ⟨vs, H1, I1, r1, q1⟩ => ?_) hs rfl))
  obtain ⟨a, xs, ex, hq⟩ := q1
  subst ex
  cases r1 with
  | cons r rr =>
    cases rr
    cases r
    have fresh : ∀ b ∈ [s1.heap.objs.size + 1, s1.heap.objs.size], FpOk X pins H1 b := fun b hb => by
      have hle : s1.heap.objs.size ≤ b := by
        rcases List.mem_cons.mp hb with z | z
        · rw [z]; exact Nat.le_add_right _ _
        · rw [List.mem_singleton.mp z]; exact Nat.le_refl _
      exact I1.fpOk hle (I1.hok.fresh hle)
    rcases hq with ⟨hq, q⟩ | ⟨hq, q⟩
    · obtain ⟨its, rv, p', hz⟩ := I1.list hq
      refine call_enumerate_list p'.isList fun h' he hit hsz hk => wpAny_pyIter_enum he ?_
      have I2 : Inv X pins σ H1 { s1 with heap := h' } := I1.kept (t' := s1.toks) hk
      exact ⟨s1.heap.objs.size + 1, _, _, _, H1, rfl, I2, turn_enum a (s1.heap.objs.size + 1) s1.heap.objs.size, ⟨⟨.none, he⟩, hit, Nat.succ_ne_self _⟩, fresh, q⟩
    · obtain ⟨its, rv, p', hz⟩ := I1.tuple hq
      have hal : a < s1.heap.objs.size := by obtain ⟨_, q, _⟩ := p'; exact Heap.lt_size q
      refine enum_of_tuple p' fun h' he hit hsz hk => wpAny_pyIter_enum he ?_
      have I2 : Inv X pins σ H1 { s1 with heap := h' } := I1.kept (t' := s1.toks) hk
      exact ⟨s1.heap.objs.size + 1, _, _, _, H1, rfl, I2, turn_enumT a (s1.heap.objs.size + 1) s1.heap.objs.size, ⟨⟨.none, he⟩, hit, Nat.succ_ne_self _, Nat.ne_of_lt (Nat.lt_succ_of_lt hal), Nat.ne_of_lt hal⟩, fresh, q⟩
/-- a tuple's pairs with their places -/
def gET (xs : List PV) : PIt := fun i _ => if i < xs.length then some (xs[i]?.map fun x => .tup [.int (i : Nat), x]) else if i = xs.length then some none else none
theorem it_enumT {K : PySem.W.Frag} {ι : List Addr} {H : Hp} {a : Addr} {xs : List PV} {us : List V} (ht : SqT K H a us) (r : RVs K ι H xs us) : PItOk K (IteT K a) (gET xs) ι H := by
  intro ι1 H1 S i e rs
  have ht1 := e.sqT ht
  have r1 := r.mono e
  refine ⟨fun h => ?_, fun x h => ?_⟩
  · unfold gET at h
    split at h
    · rename_i hi
      rw [List.getElem?_eq_getElem hi] at h
      cases h
    · split at h
      · rename_i hi
        exact ⟨us, ht1, by rw [← r1.length]; exact hi.symm⟩
      · cases h
  · unfold gET at h
    split at h
    · rename_i hi
      rw [List.getElem?_eq_getElem hi] at h
      cases h
      obtain ⟨v, h1, h2⟩ := r1.get (List.getElem?_eq_getElem hi)
      refine ⟨⟨us, v, ht1, h1⟩, fun v' H' q => ?_⟩
      obtain ⟨T, z, rfl, hT, rfl, hz⟩ := q
      have := hz us ht1
      rw [h1] at this; cases this
      have E : Ext ι1 ι1 H1 (upd H1 T (.tup [.int (i : Nat), v])) := ext_tup hT
      exact ⟨E, rs.tup hT, .tup (SqT.of upd_same) (.cons (.int _) (.cons (h2.mono E) .nil))⟩
    · split at h <;> cases h
def wEnumA (w : WA) : WI := fun env S P => w env S fun xs S1 => match xs with
  | [.ref n] => (∃ c ys, S1[n]? = some c ∧ c.items = some ys) ∧ P (gE n) S1
  | [.tup ys] => P (gET ys) S1
  | _ => False
theorem ri_enumA {X : Cx} {e : Expr} {w : WA} {p pos tpos : Pos} {elts : List Expr} {kk : Nat} (hg : Gl X "enumerate") (hm : X.mg "enumerate" = none) (ha : RA X [e] w) (hs : starEach [e] X.env = [(false, eval e X.env)] := by rfl) :
    RI X (.Tuple elts kk tpos) (.Call (.Name "enumerate" p) [e] [] pos) (wEnumA w) := by
  refine ⟨PI.weak (pi_enumA hg hm ha.pa hs) fun σ H R ⟨ι, env, S, P, re, rs, hw, hP⟩ => ⟨ι, env, S, _, re, rs, hw, fun xs S1 hx ι1 H1 vs e1 rs1 rx => ?_⟩⟩
  split at hx
  · obtain ⟨u, rfl, q⟩ := rvs1 rx
    obtain ⟨a, rfl, ha'⟩ := ref_of q
    obtain ⟨⟨c, ys, hc, hi⟩, hp⟩ := hx
    obtain ⟨us, hu, q⟩ := at_seq rs1 hc hi ha'
    exact ⟨a, us, rfl, .inl ⟨hu, hP _ _ hp ι1 H1 _ e1 rs1 (it_enum ha')⟩⟩
  · obtain ⟨u, rfl, q⟩ := rvs1 rx
    obtain ⟨a, us, rfl, hT, qr⟩ := tup_of q
    exact ⟨a, us, rfl, .inr ⟨hT, hP _ _ hx ι1 H1 _ e1 rs1 (it_enumT hT qr)⟩⟩
  · exact hx.elim
end Lt
set_option Elab.async false
set_option linter.all false
set_option maxRecDepth 100000
/-! Lt12: zip of two tuples or of two lists. -/
namespace Lt
open PySem PySem.Spec PyProof.Rows L2
/-- two tuples in pairs -/
def gZT (xs ys : List PV) : PIt := fun i _ => match xs[i]?, ys[i]? with
  | some x, some y => some (some (.tup [x, y]))
  | _, _ => some none
theorem it_zipT {K : PySem.W.Frag} {ι : List Addr} {H : Hp} {a b : Addr} {xs ys : List PV} {us vs : List V} (ha : SqT K H a us) (hb : SqT K H b vs) (ra : RVs K ι H xs us) (rb : RVs K ι H ys vs) : PItOk K (RZ.ItzT K a b) (gZT xs ys) ι H := by
  intro ι1 H1 S i e rs
  have ha1 := e.sqT ha
  have hb1 := e.sqT hb
  have ra1 := ra.mono e
  have rb1 := rb.mono e
  refine ⟨fun h => ?_, fun x h => ?_⟩
  · unfold gZT at h
    split at h
    · cases h
    · rename_i hn
      refine ⟨us, vs, ha1, hb1, ?_⟩
      cases hx : xs[i]? with
      | none => exact .inl (by rw [← ra1.length]; exact List.getElem?_eq_none_iff.mp hx)
      | some x =>
        cases hy : ys[i]? with
        | none => exact .inr (by rw [← rb1.length]; exact List.getElem?_eq_none_iff.mp hy)
        | some y => exact (hn x y hx hy).elim
  · unfold gZT at h
    split at h
    · rename_i x' y' hx hy
      cases h
      obtain ⟨u, h1, h2⟩ := ra1.get hx
      obtain ⟨v, h3, h4⟩ := rb1.get hy
      refine ⟨⟨us, vs, u, v, ha1, hb1, h1, h3⟩, fun v' H' q => ?_⟩
      obtain ⟨T, p, q, rfl, hT, rfl, hp, hq⟩ := q
      have e1 := hp us ha1
      have e2 := hq vs hb1
      rw [h1] at e1; cases e1
      rw [h3] at e2; cases e2
      have E : Ext ι1 ι1 H1 (upd H1 T (.tup [u, v])) := ext_tup hT
      exact ⟨E, rs.tup hT, .tup (SqT.of upd_same) (.cons (h2.mono E) (.cons (h4.mono E) .nil))⟩
    · cases h
def wZip (w : WA) : WI := fun env S P => w env S fun xs S1 => match xs with
  | [.tup ys, .tup zs] => P (gZT ys zs) S1
  | _ => False
theorem ri_zip {X : Cx} {e e2 : Expr} {w : WA} {p pos tpos : Pos} {elts : List Expr} {kk : Nat} (hg : Gl X "zip") (hm : X.mg "zip" = none) (ha : RA X [e, e2] w)
    (hs : starEach [e, e2] X.env = (false, eval e X.env) :: starEach [e2] X.env := by rfl) (hpl : (backTo pos (starEach [e2] X.env)).any (·.1) = false := by rfl) :
    RI X (.Tuple elts kk tpos) (.Call (.Name "zip" p) [e, e2] [] pos) (wZip w) := by
  refine ⟨PI.weak (RZ.pi_zipA hg hm ha.pa hs hpl) fun σ H R ⟨ι, env, S, P, re, rs, hw, hP⟩ => ⟨ι, env, S, _, re, rs, hw, fun xs S1 hx ι1 H1 vs e1 rs1 rx => ?_⟩⟩
  split at hx
  · obtain ⟨u, v, rfl, q1, q2⟩ := rvs2 rx
    obtain ⟨a, us, rfl, hT, qr⟩ := tup_of q1
    obtain ⟨b, ws, rfl, hT2, qr2⟩ := tup_of q2
    exact ⟨a, b, us, ws, rfl, .inr ⟨hT, hT2, hP _ _ hx ι1 H1 _ e1 rs1 (it_zipT hT hT2 qr qr2)⟩⟩
  · exact hx.elim
end Lt
set_option Elab.async false
set_option linter.all false
set_option maxRecDepth 100000
/-! Lt13: zip of a tuple and a list. -/
namespace Lt
open PySem PySem.Spec PyProof.Rows L2
/-- the tuple at a and the list at b in new pairs -/
def ItzM (K : PySem.W.Frag) (a b : Addr) : It :=
  ⟨fun i H => ∃ (xs ys : List V) (x y : V), SqT K H a xs ∧ SqL K H b ys ∧ xs[i]? = some x ∧ ys[i]? = some y,
    fun i H v H' => ∃ T x y, v = .ref T ∧ H T = none ∧ H' = upd H T (.tup [x, y]) ∧ (∀ xs, SqT K H a xs → xs[i]? = some x) ∧ ∀ ys, SqL K H b ys → ys[i]? = some y,
    fun i H => ∃ xs ys : List V, SqT K H a xs ∧ SqL K H b ys ∧ i = min xs.length ys.length⟩
theorem turn_zipM {P : Program} {w : World} {K : PySem.W.Frag} {elts : List Expr} {kk : Nat} {tpos : Pos} {a b z TI TO i1 i2 : Addr} (S : ZipSep2 z TI TO i1 i2 [i1, a] [i2, b]) (ha : a ≠ i1) (hb : b ≠ i2) :
    Turn P w K (.Tuple elts kk tpos) (ItzM K a b) [z, TI, TO, i1, i2] z (fun i h => IsZip h z TI TO .none ∧ IsTupOf2 h TI (.ref i1) (.ref i2) ∧ (∃ x y, IsTupOf2 h TO x y) ∧ h.IsTupleIter i1 a i ∧ h.IsListIter i2 b i) where
  mem := by simp
  obj := fun i h st c hc => by
    obtain ⟨hz, hTI, ⟨x, y, hTO⟩, ⟨o1, e1, _, d1⟩, ⟨o2, e2, _, d2⟩⟩ := st
    simp only [List.mem_cons, List.not_mem_nil, or_false] at hc
    rcases hc with q | q | q | q | q <;> subst q
    · exact ⟨_, hz, fun v q => nomatch q⟩
    · exact ⟨_, hTI, fun v q => nomatch q⟩
    · exact ⟨_, hTO, fun v q => nomatch q⟩
    · exact ⟨o1, e1, fun v q => by rw [d1] at q; cases q⟩
    · exact ⟨o2, e2, fun v q => by rw [d2] at q; cases q⟩
  keep := fun i h h' st k => by
    obtain ⟨hz, hTI, ⟨x, y, hTO⟩, h1, h2⟩ := st
    exact ⟨k z (by simp) _ hz, k TI (by simp) _ hTI, ⟨x, y, k TO (by simp) _ hTO⟩, h1.at fun o q => k i1 (by simp) o q, h2.at fun o q => k i2 (by simp) o q⟩
  item := by
    intro X hP hw hK hc i pins s σ H E I hf st hg
    subst hP hw hK
    obtain ⟨hz, hTI, hTO, h1, h2⟩ := st
    obtain ⟨xs, ys, x, y, hqx, hqy, hx, hy⟩ := hg
    obtain ⟨its, rv, p, _⟩ := I.tuple hqx
    obtain ⟨its2, rv2, p2, _⟩ := I.list hqy
    obtain ⟨u, hu, ru⟩ := rv.get hx
    obtain ⟨u2, hu2, ru2⟩ := rv2.get hy
    have D1 := Draws.tuple (prog := X.prog) (w := X.w) (A := X.A.in1) (I.ok.hd hc) i1 a ha its.toArray
    have D2 := Draws.list (prog := X.prog) (w := X.w) (A := X.A.in1) (I.ok.hd hc) i2 b hb its2.toArray
    have W := WalksT.zipD2 (prog := X.prog) (w := X.w) (A := X.A) S D1 D2
    have hlt : i < min its.toArray.size its2.toArray.size := by
      have := (List.getElem?_eq_some_iff.mp hu).1
      have := (List.getElem?_eq_some_iff.mp hu2).1
      simp only [List.size_toArray]
      omega
    obtain ⟨xa, ya, hTO'⟩ := id hTO
    have below : ∀ c ∈ [z, TI, TO, i1, i2], c < s.heap.objs.size := fun c hcm => by
      simp only [List.mem_cons, List.not_mem_nil, or_false] at hcm
      rcases hcm with q | q | q | q | q <;> subst q
      · exact Heap.lt_size hz
      · exact Heap.lt_size hTI
      · exact Heap.lt_size hTO'
      · obtain ⟨_, e1, _⟩ := h1; exact Heap.lt_size e1
      · obtain ⟨_, e2, _⟩ := h2; exact Heap.lt_size e2
    refine W.item i s _ _ hlt ⟨hz, hTI, hTO, ⟨h1, p⟩, h2, p2.isList⟩ fun T vals h' tk ⟨x1, x2, e1, e2, ev⟩ hsz hT mid hk => ⟨_, rfl, W.go elts kk tpos i T { s with heap := h', toks := tk } _ _ mid fun h'' st' hk' => ?_⟩
    subst ev
    have f1 : x1 = u := by
      have q : its.toArray[i]? = some u := by simpa using hu
      rw [q] at e1; exact (Option.some.inj e1).symm
    have f2 : x2 = u2 := by
      have q : its2.toArray[i]? = some u2 := by simpa using hu2
      rw [q] at e2; exact (Option.some.inj e2).symm
    subst f1 f2
    have hTw := W.apart i T h' mid
    have hT2 : h''.IsTuple T #[x1, x2] := hT.at fun o q => hk' T o hTw q
    have new : ObjOk X.prog X.w (upd H T (.tup [x, y])) h'' T (.tup [x, y]) := ⟨by show 2 ≤ sizeLine; decide, [x1, x2], .cons ru (.cons ru2 .nil), hT2⟩
    have I1 : Inv X pins σ (upd H T (.tup [x, y])) { s with heap := h'', toks := tk } :=
      I.turnedNew (ch := [z, TI, TO, i1, i2]) (fun c o hb q => by
        simp only [List.mem_cons, List.not_mem_nil, or_false, not_or] at hb
        have nw : c ∉ [z, TO, i1, i2] := by
          simp only [List.mem_cons, List.not_mem_nil, or_false, not_or]
          exact ⟨hb.1, hb.2.2.1, hb.2.2.2.1, hb.2.2.2.2⟩
        exact hk' c o nw (hk c o nw q)) hf hsz new
    obtain ⟨s1, s2, s3, s4, s5⟩ := st'
    refine ⟨.ref T, _, I1, rfl, ⟨T, x, y, rfl, I.hok.fresh hsz, rfl, fun l hl => by rw [I.tuple_inj hl hqx]; exact hx, fun l hl => by rw [I.list_inj hl hqy]; exact hy⟩, ⟨s1, s2, s3, s4.1, s5.1⟩, fun c hcm => ?_⟩
    rw [upd_ne (Nat.ne_of_lt (Nat.lt_of_lt_of_le (below c hcm) hsz))]
    exact (hf c hcm).1
  done := by
    intro X hP hw hK hc i pins s σ H E I hf st hg
    subst hP hw hK
    obtain ⟨hz, hTI, hTO, h1, h2⟩ := st
    obtain ⟨xs, ys, hqx, hqy, hend⟩ := hg
    obtain ⟨its, rv, p, _⟩ := I.tuple hqx
    obtain ⟨its2, rv2, p2, _⟩ := I.list hqy
    have l1 := rv.length
    have l2 := rv2.length
    have D1 := Draws.tuple (prog := X.prog) (w := X.w) (A := X.A.in1) (I.ok.hd hc) i1 a ha its.toArray
    have D2 := Draws.list (prog := X.prog) (w := X.w) (A := X.A.in1) (I.ok.hd hc) i2 b hb its2.toArray
    have W := WalksT.zipD2 (prog := X.prog) (w := X.w) (A := X.A) S D1 D2
    have en : i = min its.toArray.size its2.toArray.size := by
      rw [List.size_toArray, List.size_toArray, ← l1, ← l2]; exact hend
    rw [en] at h1 h2
    refine W.done s _ _ ⟨hz, hTI, hTO, ⟨h1, p⟩, h2, p2.isList⟩ fun h' tk hk => ⟨rfl, I.turnedL (t' := tk) (ch := [z, TI, TO, i1, i2]) (fun c o hb q => ?_) hf⟩
    simp only [List.mem_cons, List.not_mem_nil, or_false, not_or] at hb
    refine hk c o ?_ q
    simp only [List.mem_cons, List.not_mem_nil, or_false, not_or]
    exact ⟨hb.1, hb.2.2.1, hb.2.2.2.1, hb.2.2.2.2⟩
  self := fun A i s Q E st h => wpAny_pyIter_zip st.1 h
def iZipM (K : PySem.W.Frag) (ta : TA) : TI := fun σ H R => ta σ H fun vs H1 => ∃ a b xs ys, vs = [.ref a, .ref b] ∧ ((SqT K H1 a xs ∧ SqL K H1 b ys ∧ R (ItzM K a b) H1) ∨ (SqT K H1 a xs ∧ SqT K H1 b ys ∧ R (RZ.ItzT K a b) H1))
theorem pi_zipM {X : Cx} {e e2 : Expr} {ta : TA} {p pos tpos : Pos} {elts : List Expr} {kk : Nat} (hg : Gl X "zip") (hm : X.mg "zip" = none) (ha : PA X [e, e2] ta)
    (hs : starEach [e, e2] X.env = (false, eval e X.env) :: starEach [e2] X.env := by rfl) (hpl : (backTo pos (starEach [e2] X.env)).any (·.1) = false := by rfl) :
    PI X (.Tuple elts kk tpos) (.Call (.Name "zip" p) [e, e2] [] pos) (iZipM X.K ta) := by
  refine ⟨fun pins s σ H R I h => ?_⟩
  refine Call_ (ld_blt I hg hm PyProof.Rows.boot_zip (PyProof.Rows.callWith_type1 (thn (ha.run pos pins s σ H _ I h) fun us s1 ⟨vs, H1, I1, r1, q1⟩ => ?_) hs hpl))
  obtain ⟨a, b, xs, ys, ex, q1⟩ := q1
  subst ex
  cases r1 with
  | cons r rr =>
    cases rr with
    | cons r' rr =>
      cases rr
      cases r
      cases r'
      have fresh5 : ∀ c, c ∈ [s1.heap.objs.size + 4, s1.heap.objs.size + 2, s1.heap.objs.size + 3, s1.heap.objs.size, s1.heap.objs.size + 1] → FpOk X pins H1 c := fun c hcm => by
        have hle : s1.heap.objs.size ≤ c := by
          simp only [List.mem_cons, List.not_mem_nil, or_false] at hcm
          rcases hcm with q | q | q | q | q <;> rw [q]
          · exact Nat.le_add_right _ _
          · exact Nat.le_add_right _ _
          · exact Nat.le_add_right _ _
          · exact Nat.le_refl _
          · exact Nat.le_add_right _ _
        exact I1.fpOk hle (I1.hok.fresh hle)
      rcases q1 with ⟨hqx, hqy, q⟩ | ⟨hqx, hqy, q⟩
      · obtain ⟨its, rv, p1, _⟩ := I1.tuple hqx
        obtain ⟨its2, rv2, p2, _⟩ := I1.list hqy
        obtain ⟨o1, ho1, _⟩ := id p1
        have la : a < s1.heap.objs.size := Heap.lt_size ho1
        have lb : b < s1.heap.objs.size := p2.lt
        refine zip_begins2 (begins_tuple a its.toArray) (begins_list b its2.toArray) p1 p2.isList fun h' hz hTI hTO h1 h2 hsz hk => wpAny_pyIter_zip hz ?_
        have I2 : Inv X pins σ H1 { s1 with heap := h' } := I1.kept (t' := s1.toks) hk
        exact ⟨s1.heap.objs.size + 4, [s1.heap.objs.size + 4, s1.heap.objs.size + 2, s1.heap.objs.size + 3, s1.heap.objs.size, s1.heap.objs.size + 1], _, _, H1, rfl, I2,
          turn_zipM (zip_sep2 (fp1 := [a]) (fp2 := [b]) (fun c hc => by rw [List.mem_singleton.mp hc]; exact la) (fun c hc => by rw [List.mem_singleton.mp hc]; exact lb)) (Nat.ne_of_lt la) (Nat.ne_of_lt (Nat.lt_succ_of_lt lb)), ⟨hz, hTI, ⟨_, _, hTO⟩, ⟨_, h1, rfl, rfl⟩, ⟨_, h2, rfl, rfl⟩⟩, fresh5, q⟩
      · obtain ⟨its, rv, p1, _⟩ := I1.tuple hqx
        obtain ⟨its2, rv2, p2, _⟩ := I1.tuple hqy
        obtain ⟨o1, ho1, _⟩ := id p1
        obtain ⟨o2, ho2, _⟩ := id p2
        refine RZ.call_zipT (show s1.heap.IsTuple a its.toArray from p1) (show s1.heap.IsTuple b its2.toArray from p2) fun h' hz hTI hTO h1 h2 hsz hk => wpAny_pyIter_zip hz ?_
        have I2 : Inv X pins σ H1 { s1 with heap := h' } := I1.kept (t' := s1.toks) hk
        exact ⟨s1.heap.objs.size + 4, _, _, _, H1, rfl, I2, RZ.turn_zipT (PySem.W.ktu_apart s1.heap.objs.size a b (Heap.lt_size ho1) (Heap.lt_size ho2)), ⟨hz, hTI, ⟨_, _, hTO⟩, h1, h2⟩, fresh5, q⟩
/-- a tuple and a list in pairs -/
def gZM (xs : List PV) (n : Nat) : PIt := fun i S => match S[n]? with
  | some c => match c.items with
    | some ys => match xs[i]?, ys[i]? with
      | some x, some y => some (some (.tup [x, y]))
      | _, _ => if i = min xs.length ys.length then some none else none
    | none => none
  | none => none
theorem it_zipM {K : PySem.W.Frag} {ι : List Addr} {H : Hp} {a b : Addr} {n : Nat} {xs : List PV} {us : List V} (ha : SqT K H a us) (hb : ι[n]? = some b) (ra : RVs K ι H xs us) : PItOk K (ItzM K a b) (gZM xs n) ι H := by
  intro ι1 H1 S i e rs
  have ha1 := e.sqT ha
  have ra1 := ra.mono e
  have hb1 := e.pre n b hb
  have key : ∀ {r : Option PV}, gZM xs n i S = some r → ∃ ys vs, SqL K H1 b vs ∧ RVs K ι1 H1 ys vs ∧ ((∃ x y, xs[i]? = some x ∧ ys[i]? = some y ∧ r = some (.tup [x, y])) ∨ (i = min xs.length ys.length ∧ r = none)) := fun {r} h => by
    unfold gZM at h
    split at h
    · rename_i c hc
      split at h
      · rename_i ys hx
        obtain ⟨vs, hv, q⟩ := at_seq rs hc hx hb1
        refine ⟨ys, vs, hv, q, ?_⟩
        split at h
        · rename_i x y h1 h2
          exact .inl ⟨x, y, h1, h2, (Option.some.inj h).symm⟩
        · split at h
          · rename_i hi
            exact .inr ⟨hi, (Option.some.inj h).symm⟩
          · cases h
      · cases h
    · cases h
  refine ⟨fun h => ?_, fun x h => ?_⟩
  · obtain ⟨ys, vs, hv, q, ⟨x, y, _, _, z⟩ | ⟨z, _⟩⟩ := key h
    · cases z
    · exact ⟨us, vs, ha1, hv, by rw [← ra1.length, ← q.length]; exact z⟩
  · obtain ⟨ys, vs, hv, q, ⟨x', y', hx, hy, z⟩ | ⟨_, z⟩⟩ := key h
    · cases z
      obtain ⟨u, h1, h2⟩ := ra1.get hx
      obtain ⟨v, h3, h4⟩ := q.get hy
      refine ⟨⟨us, vs, u, v, ha1, hv, h1, h3⟩, fun v' H' w => ?_⟩
      obtain ⟨T, p, p', rfl, hT, rfl, hp, hq⟩ := w
      have e1 := hp us ha1
      have e2 := hq vs hv
      rw [h1] at e1; cases e1
      rw [h3] at e2; cases e2
      have E : Ext ι1 ι1 H1 (upd H1 T (.tup [u, v])) := ext_tup hT
      exact ⟨E, rs.tup hT, .tup (SqT.of upd_same) (.cons (h2.mono E) (.cons (h4.mono E) .nil))⟩
    · cases z
def wZipM (w : WA) : WI := fun env S P => w env S fun xs S1 => match xs with
  | [.tup ys, .tup zs] => P (gZT ys zs) S1
  | [.tup ys, .ref n] => (∃ c zs, S1[n]? = some c ∧ c.items = some zs) ∧ P (gZM ys n) S1
  | _ => False
theorem ri_zipM {X : Cx} {e e2 : Expr} {w : WA} {p pos tpos : Pos} {elts : List Expr} {kk : Nat} (hg : Gl X "zip") (hm : X.mg "zip" = none) (ha : RA X [e, e2] w)
    (hs : starEach [e, e2] X.env = (false, eval e X.env) :: starEach [e2] X.env := by rfl) (hpl : (backTo pos (starEach [e2] X.env)).any (·.1) = false := by rfl) :
    RI X (.Tuple elts kk tpos) (.Call (.Name "zip" p) [e, e2] [] pos) (wZipM w) := by
  refine ⟨PI.weak (pi_zipM hg hm ha.pa hs hpl) fun σ H R ⟨ι, env, S, P, re, rs, hw, hP⟩ => ⟨ι, env, S, _, re, rs, hw, fun xs S1 hx ι1 H1 vs e1 rs1 rx => ?_⟩⟩
  split at hx
  · obtain ⟨u, v, rfl, q1, q2⟩ := rvs2 rx
    obtain ⟨a, us, rfl, hT, qr⟩ := tup_of q1
    obtain ⟨b, ws, rfl, hT2, qr2⟩ := tup_of q2
    exact ⟨a, b, us, ws, rfl, .inr ⟨hT, hT2, hP _ _ hx ι1 H1 _ e1 rs1 (it_zipT hT hT2 qr qr2)⟩⟩
  · obtain ⟨u, v, rfl, q1, q2⟩ := rvs2 rx
    obtain ⟨a, us, rfl, hT, qr⟩ := tup_of q1
    obtain ⟨b, rfl, hb⟩ := ref_of q2
    obtain ⟨⟨c, ys, hc, hi⟩, hp⟩ := hx
    obtain ⟨ws, hw, _⟩ := at_seq rs1 hc hi hb
    exact ⟨a, b, us, ws, rfl, .inl ⟨hT, hw, hP _ _ hp ι1 H1 _ e1 rs1 (it_zipM hT hb qr)⟩⟩
  · exact hx.elim
end Lt
set_option Elab.async false
set_option linter.all false
set_option maxRecDepth 100000
/-! Lt14: repr of anything plain, texts. -/
namespace Lt
open PySem PySem.Spec PyProof.Rows L2
section
variable {X : Cx} {pins : List (Addr × Obj)} {σ : L2.St} {H : Hp} {s : Shared} {ι : List Addr} {S : Store}
theorem no_sm (I : L2.Inv X pins σ H s) (hS : SM X.base) {a : Addr} {o : Obj} {vs : Array Value} {n : Nat} (ho : s.heap.get? a = some o) (hd : o.data = .seq vs n) : a ≠ sysModules := by
  rintro rfl
  obtain ⟨mm, o', es, ep, e, d, _⟩ := hS
  have := I.bk _ _ e
  rw [ho] at this
  cases this
  rw [hd] at d
  cases d
theorem reads_all (f : PV → Option PyData) (hf : ∀ x v u d, f x = some d → RV X.K ι H x v → RelV v u → ∃ as, Reads s.heap u d as ∧ sysModules ∉ as) :
    ∀ {xs : List PV} {vs : List V} {us : List Value} {ds : List PyData}, optAll f xs = some ds → RVs X.K ι H xs vs → Vals vs us → ∃ as, ReadsAll s.heap us ds as ∧ sysModules ∉ as
  | [], _, _, ds, h, .nil, r => by cases h; cases r; exact ⟨_, .nil, by simp⟩
  | x :: xs, _, _, ds, h, .cons q t, r => by
    obtain ⟨y, ys, h1, h2, rfl⟩ := optAll_cons h
    cases r with
    | cons r1 r2 =>
      obtain ⟨as, p1, p2⟩ := hf x _ _ y h1 q r1
      obtain ⟨bs, q1, q2⟩ := reads_all f hf h2 t r2
      exact ⟨_, .cons p1 q1, by simp [p2, q2]⟩
theorem reads_kvs (f : PV → Option PyData) (hf : ∀ x v u d, f x = some d → RV X.K ι H x v → RelV v u → ∃ as, Reads s.heap u d as ∧ sysModules ∉ as) :
    ∀ {xs : List (Key × PV)} {vs : List (Key × V)} {us : List (Key × Value)} {ds : List (PyData × PyData)}, optAll (fun kv => (f kv.2).map fun d => (keyD kv.1, d)) xs = some ds → RKs X.K ι H xs vs → KV vs us → ∃ as, PyProof.V.PairsRead s.heap keyD us ds as ∧ sysModules ∉ as
  | [], _, _, ds, h, .nil, r => by cases h; cases r; exact ⟨_, .nil, by simp⟩
  | (k, x) :: xs, _, _, ds, h, .cons q t, r => by
    obtain ⟨y, ys, h1, h2, rfl⟩ := optAll_cons h
    obtain ⟨d, hd, rfl⟩ := Option.map_eq_some_iff.mp h1
    cases r with
    | @cons p u l1 l2 r1 r2 =>
      obtain ⟨k', u⟩ := u
      obtain ⟨rfl, ru⟩ := r1
      obtain ⟨as, p1, p2⟩ := hf x _ _ d hd q ru
      obtain ⟨bs, q1, q2⟩ := reads_kvs f hf h2 t r2
      exact ⟨_, .cons p1 q1, by simp [p2, q2]⟩
theorem reads_of (I : L2.Inv X pins σ H s) (hS : SM X.base) (rs : RS X.K ι H S) : ∀ (n : Nat) (x : PV) (v : V) (u : Value) (d : PyData), toD n S x = some d → RV X.K ι H x v → RelV v u → ∃ as, Reads s.heap u d as ∧ sysModules ∉ as
  | 0, _, _, _, _, h, _, _ => by cases h
  | n + 1, x, v, u, d, h, r, ru => by
    have hrec := reads_of I hS rs n
    unfold toD at h
    split at h
    · cases h; cases r; cases ru; exact ⟨_, .none, by simp⟩
    · cases h; cases r; cases ru; exact ⟨_, .bool _, by simp⟩
    · cases h; cases r; obtain ⟨t, rfl⟩ := ru; exact ⟨_, .int _ t, by simp⟩
    · cases h; cases r; obtain ⟨t, rfl⟩ := ru; exact ⟨_, .str _ t, by simp⟩
    · obtain ⟨a, us, rfl, sq, q⟩ := tup_of r
      obtain ⟨ds, h1, rfl⟩ := Option.map_eq_some_iff.mp h
      cases ru
      obtain ⟨its, rv, ⟨o, ho, hc, m, hd⟩, _⟩ := I.tuple sq
      obtain ⟨as, p1, p2⟩ := reads_all (s := s) _ hrec h1 q rv
      exact ⟨_, .tuple ho hc hd p1, p2⟩
    · obtain ⟨a, rfl, ha⟩ := ref_of r
      cases ru
      have lst : ∀ {m : Nat} {c : Cell} {xs : List PV}, ι[m]? = some a → S[m]? = some c → c.items = some xs → (optAll (toD n S) xs).map .list = some d → ∃ as, Reads s.heap (.ref a) d as ∧ sysModules ∉ as := fun {m c xs} ha hm hx h => by
        obtain ⟨us, hu, q⟩ := at_seq rs hm hx ha
        obtain ⟨ds, h1, rfl⟩ := Option.map_eq_some_iff.mp h
        obtain ⟨its, rv, ⟨o, k, ho, hc, _, hd⟩, _⟩ := I.list hu
        obtain ⟨as, p1, p2⟩ := reads_all (s := s) _ hrec h1 q rv
        exact ⟨_, .list ho hc hd p1, by simp [p2, (no_sm I hS ho hd).symm]⟩
      split at h
      · rename_i hm
        exact lst ha hm rfl h
      · rename_i hm
        exact lst ha hm rfl h
      · rename_i hm
        obtain ⟨us, hu, q⟩ := at_dic rs hm ha
        obtain ⟨ds, h1, rfl⟩ := Option.map_eq_some_iff.mp h
        obtain ⟨_, hne, vs, kv, o, es, ep, ho, hx, hd, _, hp, _⟩ := dk_of I.hok hu
        obtain ⟨as, p1, p2⟩ := reads_kvs (s := s) _ hrec h1 q kv
        have hk : ∀ (k : Key) (key : Value), (mixKind X.prog X.w).is k key = true → Reads s.heap key (keyD k) [] := fun k key e => by
          rcases keyIs_shape (show keyIs k key = true from e) with ⟨i, t, rfl, rfl⟩ | ⟨y, t, rfl, rfl⟩
          · exact .int i t
          · exact .str y t
        obtain ⟨q1, q2⟩ := PyProof.V.readsAll_of_pairs hk hp p1
        refine ⟨_, .dict ho hx.1 hd q1 q2, ?_⟩
        have : sysModules ≠ a := fun z => by rw [z] at hne; simp at hne
        simp [p2, this]
      · cases h
    · cases h
end
def bReprA : FB
  | [x], S => match toD 66 S x with
    | some d => if d.showable = true ∧ d.depth ≤ 60 ∧ d.shown.length ≤ sizeLine then some (.str d.shown, S) else none
    | none => none
  | _, _ => none
theorem call_bReprA {X : Cx} (hS : SM X.base) (hg : X.A.guards = some []) (hu : X.A.units + 64 < cLine) : CallR X (.builtin "repr") (rB X.K bReprA) := by
  intro pins s σ H vs us Q I r ⟨ι, S, xs, P, rs, rx, hf, hP⟩
  unfold bReprA at hf
  split at hf
  · rename_i x S0
    obtain ⟨v, rfl, q⟩ := rvs1 rx
    obtain ⟨u, rfl, ru⟩ := vals1 r
    split at hf
    · rename_i d hd
      obtain ⟨⟨c3, c4, c5⟩, h⟩ := opt_ite hf
      have big : (∃ a, u = Value.ref a) → wpAny (model X.prog X.w) X.A (call (.builtin "repr") [u]) (EP X pins σ Q) X.xe s := fun c1 => by
        obtain ⟨as, r1, r2⟩ := reads_of I hS rs _ _ _ _ _ hd q ru
        obtain ⟨a, rfl⟩ := c1
        refine repr_of_reads' r1 c3 (fun _ => r2) hg (by omega) (fun _ _ e => e) (fun h' u tk hk => ?_) c5
        exact ⟨.str d.shown, H, I.kept hk, ⟨u, rfl⟩, hP _ _ h ι H _ .refl rs (.str _)⟩
      have fin : ∀ tk, EP X pins σ Q (.str d.shown tk) { s with toks := s.toks + 1 } := fun tk => ⟨.str d.shown, H, I.tok _, ⟨_, rfl⟩, hP _ _ h ι H _ .refl rs (.str _)⟩
      cases q with
      | non =>
        cases hd
        cases (show u = Value.none from ru)
        exact PySem.P.repr_of_none (fin _)
      | bl b =>
        cases hd
        cases (show u = Value.bool b from ru)
        exact PySem.P.repr_of_bool (fin _)
      | int i =>
        cases hd
        obtain ⟨t, rfl⟩ := ru
        exact PySem.P.repr_of_int (by simpa [PyData.showable] using c3) (fin _)
      | str y =>
        cases hd
        obtain ⟨t, rfl⟩ := ru
        exact PySem.P.repr_of_str (fin _) c5
      | ty n => cases hd
      | tup _ _ => exact big ⟨_, ru⟩
      | ref ha => exact big ⟨_, ru⟩
    · exact hf.elim
  · exact hf.elim
/-! ### texts -/
def allStr : List PV → Option (List Str)
  | [] => some []
  | .str x :: r => (allStr r).map fun ys => x :: ys
  | _ :: _ => none
theorem allStr_of {K : PySem.W.Frag} {ι : List Addr} {H : Hp} : ∀ {xs : List PV} {vs : List V} {ys : List Str}, allStr xs = some ys → RVs K ι H xs vs → vs = ys.map V.str
  | [], _, _, h, .nil => by cases h; rfl
  | x :: xs, _, ys, h, .cons r t => by
    cases x with
    | str y =>
      obtain ⟨zs, h1, rfl⟩ := Option.map_eq_some_iff.mp (show (allStr xs).map _ = some ys from h)
      cases str_of r
      rw [allStr_of h1 t]; rfl
    | _ => cases h
theorem rvs_strs {K : PySem.W.Frag} {ι : List Addr} {H : Hp} : ∀ ys : List Str, RVs K ι H (ys.map PV.str) (ys.map V.str)
  | [] => .nil
  | y :: ys => .cons (.str y) (rvs_strs ys)
section
variable {X : Cx}
def mJoin : FM := fun x args S => match x, args with
  | .str a, [y] => match seqOf y S with
    | some xs => match allStr xs with
      | some ys => if (ys.map (·.length)).sum + ys.length * a.length ≤ 16777216 then some (.str (Txt.join a ys), S) else none
      | none => none
    | none => none
  | _, _ => none
theorem mt_mJoin : MtR X "str.join" (rM X.K mJoin) := by
  intro pins s σ H u us v vs Q I ru rus ⟨ι, S, x, xs, P, rs, rx, rxs, hf, hP⟩
  unfold mJoin at hf
  split at hf
  · rename_i a y
    cases str_of rx
    obtain ⟨w, rfl, q⟩ := rvs1 rxs
    split at hf
    · rename_i zs hz
      obtain ⟨p, ws, rfl, hp, qz⟩ := seqOf_of rs q hz
      split at hf
      · rename_i ys hy
        have e := allStr_of hy qz
        subst e
        obtain ⟨c, h⟩ := opt_ite hf
        refine L2.mt_join pins s σ H _ _ _ _ Q I ru rus ⟨a, p, ys, rfl, rfl, ?_, c, hP _ _ h ι H _ .refl rs (.str _)⟩
        exact hp
      · exact hf.elim
    · exact hf.elim
  · exact hf.elim
def mSplit : FM := fun x args S => match x, args with
  | .str a, [.str b] => if (b.length == 0) = false ∧ a.length + 2 ≤ sizeLine then some (.ref S.length, S ++ [.lst ((Txt.split a b).map .str)]) else none
  | _, _ => none
theorem mt_mSplit : MtR X "str.split" (rM X.K mSplit) := by
  intro pins s σ H u us v vs Q I ru rus ⟨ι, S, x, xs, P, rs, rx, rxs, hf, hP⟩
  unfold mSplit at hf
  split at hf
  · rename_i a b
    cases str_of rx
    obtain ⟨w, rfl, q⟩ := rvs1 rxs
    cases str_of q
    obtain ⟨⟨c1, c2⟩, h⟩ := opt_ite hf
    exact L2.mt_split pins s σ H _ _ _ _ Q I ru rus ⟨a, b, rfl, rfl, c1, c2, fun p hp => new_lst rs (rvs_strs _) hP h p hp⟩
  · exact hf.elim
/-! f-strings -/
def wFmt (w : W) : W := fun env S P => w env S fun x S1 => match x with
  | .str y => y.length ≤ sizeLine ∧ P (.str y) S1
  | .int i => i.natAbs.log2 < 1920 ∧ P (.str (toString i)) S1
  | _ => False
theorem re_fmt {e : Expr} {w : W} {pos : Pos} (h : RE X e w) : RE X (.FormattedValue e (-1) none pos) (wFmt w) := by
  refine ⟨PE.weak (pe_fmt h.pe) fun σ H Q ⟨ι, env, S, P, re, rs, hw, hP⟩ => ⟨ι, env, S, _, re, rs, hw, fun x S1 hx ι1 H1 v e1 rs1 rx => ?_⟩⟩
  split at hx
  · cases str_of rx
    exact .inl ⟨_, rfl, hx.1, hP _ _ hx.2 ι1 H1 _ e1 rs1 (.str _)⟩
  · cases int_of rx
    exact .inr ⟨_, rfl, hx.1, hP _ _ hx.2 ι1 H1 _ e1 rs1 (.str _)⟩
  · exact hx.elim
def wJs : List W → Str → PEnv → Store → (Str → Store → Prop) → Prop
  | [], acc, _, S, P => P acc S
  | w :: ws, acc, env, S, P => w env S fun x S1 => match x with
    | .str y => (acc ++ y).length ≤ sizeLine ∧ wJs ws (acc ++ y) env S1 P
    | _ => False
def wJoined (ws : List W) : W := fun env S P => wJs ws Str.empty env S fun out S1 => P (.str out) S1
inductive RJ (X : Cx) : List Expr → List W → Prop
  | nil : RJ X [] []
  | cons {e : Expr} {w : W} {es : List Expr} {ws : List W} : RE X e w → RJ X es ws → RJ X (e :: es) (w :: ws)
theorem pj_of {es : List Expr} {ws : List W} (h : RJ X es ws) : PJ X es (ws.map (tW X.K)) := by
  induction h with
  | nil => exact .nil
  | cons h _ ih => exact .cons h.pe ih
theorem tJs_of {K : PySem.W.Frag} {σ : LSt} : ∀ (ws : List W) (acc : Str) (ι : List Addr) (env : PEnv) (S : Store) (H : Hp) (P : Str → Store → Prop) (Q : Str → Hp → Prop), REnv K ι H env σ → RS K ι H S → wJs ws acc env S P →
    (∀ out S', P out S' → ∀ ι' H', Ext ι ι' H H' → RS K ι' H' S' → Q out H') → tJs (ws.map (tW K)) acc σ H Q
  | [], acc, ι, env, S, H, P, Q, re, rs, h, hP => hP _ _ h ι H .refl rs
  | w :: ws, acc, ι, env, S, H, P, Q, re, rs, h, hP => by
    refine ⟨ι, env, S, _, re, rs, h, fun x S1 hx ι1 H1 v e1 rs1 rx => ?_⟩
    split at hx
    · cases str_of rx
      exact ⟨_, rfl, hx.1, tJs_of ws _ ι1 env S1 H1 P Q (re.mono e1) rs1 hx.2 fun out S' ho ι' H' e' rs' => hP out S' ho ι' H' (e1.trans e') rs'⟩
    · exact hx.elim
theorem re_joined {v1 v2 : Expr} {rest : List Expr} {ws : List W} {pos : Pos} (h : RJ X (v1 :: v2 :: rest) ws) : RE X (.JoinedStr (v1 :: v2 :: rest) pos) (wJoined ws) :=
  ⟨PE.weak (pe_joined (pj_of h)) fun σ H Q ⟨ι, env, S, P, re, rs, hw, hP⟩ => tJs_of ws _ ι env S H _ _ re rs hw fun out S' ho ι' H' e' rs' => hP _ _ ho ι' H' _ e' rs' (.str _)⟩
theorem re_joined1 {e : Expr} {w : W} {pos : Pos} (h : RE X e w) : RE X (.JoinedStr [e] pos) w := ⟨pe_joined1 h.pe⟩
/-- what is never reached -/
def wNo : WS := fun _ _ _ => False
theorem js_no {st : Stmt} : JS X st wNo := ⟨⟨fun pins s σ H D I ⟨ι, env, S, P, re, rs, hw, hP⟩ => hw.elim⟩⟩
end
end Lt
set_option Elab.async false
set_option linter.all false
set_option maxRecDepth 100000
/-! Lt15: the text's own constants. -/
namespace Lt
open PySem PySem.Spec PyProof.Rows L2
def all2 {α β γ : Type} (f : α → β → Option γ) : List α → List β → Option (List γ)
  | [], [] => some []
  | x :: xs, y :: ys => match f x y, all2 f xs ys with
    | some z, some zs => some (z :: zs)
    | _, _ => none
  | _, _ => none
def rvK (K : PySem.W.Frag) : Nat → PV → Value → Option V
  | 0, _, _ => none
  | n + 1, x, u => match x, u with
    | .int i, .int j _ => if i = j then some (.int i) else none
    | .str y, .str z _ => if y = z then some (.str y) else none
    | .bl b, .bool c => if b = c then some (.bl b) else none
    | .non, .none => some .non
    | .tup xs, .ref a => match K.lookup a with
      | some o => match o.cls, o.data with
        | .type c, .seq its _ => if c = "tuple" ∧ its.size ≤ sizeLine then (all2 (rvK K n) xs its.toList).map fun _ => .ref a else none
        | _, _ => none
      | none => none
    | _, _ => none
theorem all2_of {K : PySem.W.Frag} {f : PV → Value → Option V} (hf : ∀ x u v, f x u = some v → RelV v u ∧ ∀ ι H, RV K ι H x v) : ∀ {xs : List PV} {us : List Value} {vs : List V}, all2 f xs us = some vs → Vals vs us ∧ ∀ ι H, RVs K ι H xs vs
  | [], [], vs, h => by cases h; exact ⟨.nil, fun _ _ => .nil⟩
  | [], _ :: _, vs, h => by cases h
  | _ :: _, [], vs, h => by cases h
  | x :: xs, u :: us, vs, h => by
    unfold all2 at h
    split at h
    · rename_i z zs h1 h2
      cases h
      obtain ⟨a1, a2⟩ := hf x u z h1
      obtain ⟨b1, b2⟩ := all2_of hf h2
      exact ⟨.cons a1 b1, fun ι H => .cons (a2 ι H) (b2 ι H)⟩
    · cases h
theorem rvK_of {K : PySem.W.Frag} : ∀ (n : Nat) (x : PV) (u : Value) (v : V), rvK K n x u = some v → RelV v u ∧ ∀ ι H, RV K ι H x v
  | 0, _, _, _, h => by cases h
  | n + 1, x, u, v, h => by
    unfold rvK at h
    split at h
    · obtain ⟨rfl, e⟩ := ite_some' h; cases e; exact ⟨⟨_, rfl⟩, fun _ _ => .int _⟩
    · obtain ⟨rfl, e⟩ := ite_some' h; cases e; exact ⟨⟨_, rfl⟩, fun _ _ => .str _⟩
    · obtain ⟨rfl, e⟩ := ite_some' h; cases e; exact ⟨rfl, fun _ _ => .bl _⟩
    · cases h; exact ⟨rfl, fun _ _ => .non⟩
    · split at h
      · rename_i o ho
        split at h
        · rename_i c its m hc hd
          obtain ⟨⟨rfl, hz⟩, e⟩ := ite_some2 h
          obtain ⟨us, hu, rfl⟩ := Option.map_eq_some_iff.mp e
          obtain ⟨r1, r2⟩ := all2_of (rvK_of n) hu
          exact ⟨rfl, fun ι H => .tup (.inr ⟨o, its, m, ho, hc, hd, hz, r1⟩) (r2 ι H)⟩
        · cases h
      · cases h
    · cases h
def gcB (K : PySem.W.Frag) (x : Str) (c : PV) : Bool := match PySem.W.nsIn K mainGlobals x with
  | some (some u) => (rvK K 9 c u).isSome
  | _ => false
theorem gc_of {K : PySem.W.Frag} {mg : Str → Option Value} {h : Heap} {x : Str} {c : PV} (X : K.In h) (G : h.Ns mainGlobals mg) (e : gcB K x c = true) : ∀ {Y : Cx}, Y.K = K → Y.mg = mg → GC Y x c := by
  intro Y h1 h2
  unfold gcB at e
  split at e
  · rename_i u hu
    obtain ⟨v, hv⟩ := Option.isSome_iff_exists.mp e
    obtain ⟨r1, r2⟩ := rvK_of _ _ _ _ hv
    exact ⟨u, v, by rw [h2]; exact PySem.W.mg_of X G hu, r1, by rw [h1]; exact r2⟩
  · cases e
end Lt
set_option Elab.async false
set_option linter.all false
set_option maxRecDepth 100000
/-! Lt16: f(). -/
namespace Lt
open PySem PySem.Spec PyProof.Rows L2
theorem re_callee0 {X : Cx} {x : Str} {ps : List Str} {st : Stmt} {k : Nat} {c : Con} {p pos : Pos} (C : Callee X.prog X.w X.K X.mg X.base x ps st k c) (hr : Room k X.A) (hgd : X.A.guards = some [])
    (hx : Passes CX0 X E0) (hg : Gl X x := by rfl) (hdb : (x == ("__debug__" : Str)) = false := by decide) : RE X (.Call (.Name x p) [] [] pos) (wF c wNil) := by
  obtain ⟨f, fd, F, hm, hk, hb, _⟩ := C.ex
  refine ⟨⟨fun pins s σ H Q I ⟨ι, env, S, P, re, rs, hw, hP⟩ => ?_⟩⟩
  refine wpAny_Call_Name_kw (ld_glob I hg hm ?_ hdb)
  have q : spC X.K c [] H Q E0 := spC_of (ι1 := ι) .refl rs .nil hP hw
  have hl : (([] : List Value) ++ []).length = ps.length := F.len _ _ _ _ q
  have hb' := hb s [] I.kIn hl
  exact PySem.W.callWith_K0 I.kIn hk (run_con (args := ⟨[], []⟩) F hr hgd hx I hb' .nil q)
end Lt
set_option Elab.async false
set_option linter.all false
set_option maxRecDepth 100000
/-! Lt17: three names assigned from a display of three. -/
namespace Lt
open PySem PySem.Spec PyProof.Rows L2
theorem rvs3 {K : PySem.W.Frag} {ι : List Addr} {H : Hp} {x y z : PV} {us : List V} (r : RVs K ι H [x, y, z] us) : ∃ u v w, us = [u, v, w] ∧ RV K ι H x u ∧ RV K ι H y v ∧ RV K ι H z w := by
  cases r with
  | cons r t => obtain ⟨v, w, rfl, q, q'⟩ := rvs2 t; exact ⟨_, v, w, rfl, r, q, q'⟩
def wPar3 (i j l : Nat) (w : WA) : WS := fun env S D => w env S fun xs S1 => match xs with
  | [x, y, z] => D.nx (((env.set i (some x)).set j (some y)).set l (some z)) S1
  | _ => False
theorem js_par3 {X : Cx} (i j l : Nat) {x y z : Str} {a b c : Expr} {wa : WA} {px py pz pt pos : Pos} {kt k2 pt2} (hc : X.calm = true) (hN : X.N.Nodup) (ha : RA X [a, b, c] wa)
    (hi : X.N[i]? = some x := by rfl) (hj : X.N[j]? = some y := by rfl) (hl : X.N[l]? = some z := by rfl) (hij : i ≠ j := by decide) (hil : i ≠ l := by decide) (hjl : j ≠ l := by decide)
    (hx : X.env.scope.names.lookup x = some .local := by rfl) (hy : X.env.scope.names.lookup y = some .local := by rfl) (hz : X.env.scope.names.lookup z = some .local := by rfl)
    (hw : swappedStores [.Tuple [.Name x px, .Name y py, .Name z pz] kt pt] (.Tuple [a, b, c] k2 pt2) X.env = pure (some [x, y, z]) := by rfl)
    (hs : swapsWithSole [.Tuple [.Name x px, .Name y py, .Name z pz] kt pt] (.Tuple [a, b, c] k2 pt2) pos.line X.env = pure false := by rfl) :
    JS X (.Assign [.Tuple [.Name x px, .Name y py, .Name z pz] kt pt] (.Tuple [a, b, c] k2 pt2) pos) (wPar3 i j l wa) := by
  refine ⟨PS.weak (ps_par3 hc hN hi hj hl hij hil hjl hx hy hz ha.pa hw hs) fun D σ H ⟨ι, env, S, P, re, rs, hw, hP⟩ => ⟨ι, env, S, _, re, rs, hw, fun xs S1 hx ι1 H1 vs e1 rs1 rx => ?_⟩⟩
  split at hx
  · obtain ⟨u, v, w, rfl, q, q', q''⟩ := rvs3 rx
    exact ⟨u, v, w, rfl, hP.nx _ _ hx ι1 H1 _ e1 rs1 ((((re.mono e1).set q).set q').set q'')⟩
  · exact hx.elim
end Lt
set_option Elab.async false
set_option linter.all false
set_option maxRecDepth 100000
set_option maxHeartbeats 1000000
/-! Lx1: an own exception without arguments, whose __init__ says super().__init__('..'). -/
namespace Lt
open PySem PySem.Spec PySem.W PySem.Calls PyProof.Rows
section
variable {prog : Program} {w : World} {A : Around} {s : Shared} {K : PySem.W.Frag} {R : Result → Shared → Prop}
abbrev bmVE : List Value := [.type "ValueError", .type "Exception", .type "BaseException", .type "object"]
/-- super().__init__(..), called: the args are laid anew -/
theorem call_mw {h : Heap} {g : Array GenState} {d : Drawn} {tk : Nat} {os : OsState} {u e C t : Addr} {rest : List Value} {bmB : List Value} {B i newId : String} {E : Value → Shared → Prop} {Q : Value → Shared → Prop}
    (X : K.In h) (FB : ExcBaseFacts B newId i bmB) (q : excInitIn K C bmB newId = true) (hu : h.get? u = some (kxs_mw i e)) (he : h.get? e = some (excObj C t none .none)) (hz : rest.length ≤ sizeLine)
    (hQ : ∀ h' t', (∀ b o, b ≠ e → h.get? b = some o → h'.get? b = some o) → h'.get? e = some (excObj C t' none .none) → Q .none ⟨h', g, d, tk, os⟩) :
    wpAny (model prog w) A (call (.ref u) rest) Q E ⟨h, g, d, tk, os⟩ := by
  obtain ⟨nm, N', qn, bs, bm, hdct, sn, sub, ab, col, dd, k0, k1, k2, k3, k5, hC, hT⟩ := excInit_of X q
  refine wpAny_call (codeAny_of_tree ?_)
  show wpAny _ A.in1 (callAny (.ref u) ⟨rest, []⟩) _ _ _
  simp only [callAny]
  refine wpAny_bind (wpAny_load hu ?_)
  simp only [kxs_mw, show (Value.type "method-wrapper" == Value.type "method" || Value.type "method-wrapper" == Value.type "builtin_function_or_method" || Value.type "method-wrapper" == Value.type "method-wrapper") = true by decide, if_true]
  refine KFB.if_so (by decide) ?_
  refine wpAny_bind (check_bound_init FB.toExcCallFacts hC he rfl ?_)
  refine wpAny_bind (wpAny_pure (wpAny_pure ?_))
  refine ⟨plainId_quiet FB.init.plain _, codeAny_builtin FB.initEntry ?_⟩
  exact exc_init_tree (cls := .ref C) (t0 := t) (dv := none) (c2 := .none) (c3 := .none) (b4 := .bool false) he hz fun h' k e' _ => hQ h' _ k e'
abbrev fscope (nms : List (Str × NameKind)) : Scope := { kind := .function, names := nms, isGenerator := false, isCoroutine := false, more := [] }
/-- the body of such an __init__ -/
abbrev supBody (msg : Str) (j : Nat) (p0 p1 p2 p3 p4 pa : Pos) : List Stmt := [.Expr (.Call (.Attribute (.Call (.Name "super" p0) [] [] p1) "__init__" pa) [.Constant (.str msg) j p2] [] p3) p4]
theorem init_super {fI C e t0 cc cda : Addr} {name qual msg : Str} {j : Nat} {p0 p1 p2 p3 p4 pa : Pos} {params : Arguments} {nms : List (Str × NameKind)} {dV kV doc pm ct oc ccl cl : Value} {an od cdd cld : Option Addr} {osl ccs csl : Array (Option Value)} {vs : Array Value} {file : Str} {tf : Tok} {cd : ClassData} {mg mb : Str → Option Value} {ar : Arg}
    {pl : Sem Bool} (hev : ∀ env : Env, eval (.Call (.Attribute (.Call (.Name "super" p0) [] [] p1) "__init__" pa) [.Constant (.str msg) j p2] [] p3) env = (do
      let ov ← attributeBase (.Call (.Name "super" p0) [] [] p1) "__init__" env (eval (.Call (.Name "super" p0) [] [] p1) env)
      standAt pa.atName
      let (f, first) ← holding [ov] (getMethod ov "__init__" pl)
      callWith p3 f first (backTo p3 (starEach [.Constant (.str msg) j p2] env)) []))
    (hsw : ∀ env : Env, swapsWith (.Call (.Attribute (.Call (.Name "super" p0) [] [] p1) "__init__" pa) [.Constant (.str msg) j p2] [] p3) none p4.line env = pure false)
    (X : K.In s.heap) (hG : s.heap.Ns mainGlobals mg) (hms : mg "super" = none) (hB : s.heap.Ns builtinsNs mb) (hbs : mb "super" = some (.type "super")) (hl : s.heap.NoLimit)
    (ho : K.lookup fI = some ⟨oc, od, .func (ksFn name qual params (supBody msg j p0 p1 p2 p3 p4 pa) (fscope nms) dV kV doc pm an (.ref cda) ct cc), osl⟩) (hcd : codeIn K (.ref cda) qual = true) (room : A.depth < recursionLimit)
    (hbind : BindsTo s (ksFn name qual params (supBody msg j p0 p1 p2 p3 p4 pa) (fscope nms) dV kV doc pm an (.ref cda) ct cc) ⟨[.ref e], []⟩ [(ar.arg, .ref e)]) (hp : (params.posonlyargs ++ params.args).head? = some ar)
    (hcode : K.lookup cda = some ⟨ccl, cdd, .fields vs, ccs⟩) (hvs : vs[2]? = some (.str file tf)) (hfile : ((prog.main.file : Str) == file) = true)
    (hcell : K.lookup cc = some ⟨cl, cld, .cell (some (.ref C)), csl⟩) (hcl : clsIn K C = some cd) (hsub : mroIn K C (.ref C) = some true)
    (hks : nms.lookup ("super" : Str) = some .globalImplicit) (hkc : nms.lookup ("__class__" : Str) = some .free) (hka : nms.lookup ar.arg = some .local) 
    (hcn : ∀ x ∈ nms, x.2 ≠ .cell) (htop : (prog.main.scope.names.lookup ("super" : Str)).isSome = false)
    (hstat : nsIn K cStatics "thirdparty.any" = some none) (hsup : ks_superIn K C C "__init__" = some (some (.builtin "ValueError.__init__"))) (hVE : subIn K (.ref C) (.type "ValueError") = some true)
    (q : excInitIn K C bmVE "ValueError.__new__" = true) (he : s.heap.get? e = some (excObj C t0 none .none)) (heC : e ≠ C)
    (hR : ∀ h' t1 tk, (∀ b o, b ≠ e → s.heap.get? b = some o → h'.get? b = some o) → h'.get? e = some (excObj C t1 none .none) → R (.ok (.ret .none)) ⟨h', s.gens, s.drawn, tk, s.os⟩) :
    codeAny (model prog w) A (.call (.ref fI) ⟨[.ref e], []⟩) R s := by
  have hin : Looks (model prog w) s.heap (isInstance (.ref e) (.type "ValueError")) true := by
    have I : InstAt s.heap e (excObj C t0 none .none) C none := ⟨he, rfl, rfl, trivial⟩
    exact I.type.andThen (looks_subIn X hVE)
  refine ks_codeAny_call_defAt (fd := ksFn name qual params (supBody msg j p0 p1 p2 p3 p4 pa) (fscope nms) dV kV doc pm an (.ref cda) ct cc) (body := supBody msg j p0 p1 p2 p3 p4 pa) (binds := [(ar.arg, .ref e)]) room (X _ _ ho) rfl hl (codeRec_of X hcd) rfl hbind hcn (fun x hx => ?_) (fun h₁ hns hk₁ => ?_) rfl rfl rfl
  · rw [List.mem_singleton] at hx; rw [hx]; exact hka
  obtain ⟨hh, g, d, tk, os⟩ := s
  dsimp only at *
  have X1 : K.In h₁ := X.keeps hk₁
  have up : ∀ {b : Addr} {o : Obj}, hh.get? b = some o → h₁.get? b = some o := fun {b o} x => hk₁ b o x
  refine ks_wpAt_execs_cons (ks_wpAt_Expr_any (ks_wpAt_MethodCall (pl := pl) ?_ (hev _)) (by rfl) (hsw _))
  obtain ⟨oD, hD1, hD2⟩ : ∃ oD, h₁.get? C = some oD ∧ oD.data = .cls cd := by
    unfold clsIn at hcl
    split at hcl
    · rename_i c d cd' sl ho
      cases hcl
      exact ⟨_, X1 _ _ ho, rfl⟩
    · cases hcl
  refine ks_wpAt_super_base (env := ksEnv qual (fscope nms) hh.objs.size fI (.ref cda) cc) hks hkc (by decide) rfl (X1 _ _ ho) rfl hp rfl (X1 _ _ hcode) rfl hvs hfile htop ?_
  have G1 : h₁.Ns mainGlobals mg := let ⟨o, es, ep, a, r⟩ := hG; ⟨o, es, ep, up a, r⟩
  have B1 : h₁.Ns builtinsNs mb := let ⟨o, es, ep, a, r⟩ := hB; ⟨o, es, ep, up a, r⟩
  refine ks_loadName_global rfl hks (loadGlobal_builtin (env := ksEnv qual (fscope nms) hh.objs.size fI (.ref cda) cc) G1 hms B1 hbs ⟨rfl, ?_⟩)
  refine wpAny_loadName_free rfl hkc rfl ⟨_, X1 _ _ hcell, rfl⟩ ?_
  refine wpAny_loadName_local rfl hka hns (by show ([(ar.arg, Value.ref e)] : List (Str × Value)).lookup ar.arg = some (Value.ref e); exact List.lookup_cons_self) ?_
  refine ks_wpAny_isType_cls hD1 hD2 ⟨rfl, ?_⟩
  refine ks_wpAny_call_super hD1 hD2 (up he) rfl (fun c e => by cases e) (looks_mroIn X1 hsub) (fun h2 e2 k2 => ?_)
  have X2 : K.In h2 := X1.keeps k2
  have lk := hsup
  unfold ks_superIn at lk
  rw [hcl] at lk
  refine kxs_getMethod (K := K) (C := C) kxs_ValueError e2 (looks_opaque X2 hstat) (l₀ := cd.mro) (fun A Q E s k q => wpAny_bind ((looks_clsIn X2 hcl) A _ E s k (wpAny_pure q))) rfl X2 lk (hin.keeps fun b o x => k2 b o (up x)) heC (by decide) ?_
  refine kxs_callWith (i := "ValueError.__init__") (x := e) rfl (evalArgs_plain ?_)
  refine spliced_cons (wpAny_Constant_str (k := j) (pos := p2) (spliced_nil ⟨?_, ?_⟩))
  · exact Heap.get?_push_at rfl rfl
  have up3 : ∀ {b : Addr} {o : Obj}, h₁.get? b = some o → (h2.push (kxs_mw "ValueError.__init__" e)).get? b = some o := fun {b o} x => Heap.get?_push_of_some _ (k2 b o x)
  refine call_mw (X2.keeps fun b o x => Heap.get?_push_of_some _ x) F.excBase_ValueError q (Heap.get?_push_at rfl rfl) (up3 (up he)) (by show 1 ≤ sizeLine; decide) fun h3 t3 k3 e3 => ?_
  refine wpAt_of_wpAny (wpAny_execs_nil (hR h3 t3 _ (fun b o hb x => k3 b o hb (up3 (up x))) e3))
end
end Lt
set_option Elab.async false
set_option linter.all false
set_option maxRecDepth 100000
set_option maxHeartbeats 1000000
/-! Lx2: raise C(), C an own exception of that form. -/
namespace Lt
open PySem PySem.Spec PyProof.Rows L2
abbrev Frag := PySem.W.Frag
/-- what the written part says of the class at C -/
structure OexS (P : Program) (K : Frag) (C : Addr) : Prop where
  q : PySem.W.excInitIn K C bmVE "ValueError.__new__" = true
  kC : PySem.W.keepIn K (.ref C) = true
  exC : PySem.W.subIn K (.ref C) (.type "BaseException") = some true
  tyC : PySem.W.typeIn K (.ref C) = some (.type "type")
  ve : PySem.W.subIn K (.ref C) (.type "ValueError") = some true
  slf : PySem.W.mroIn K C (.ref C) = some true
  stat : PySem.W.nsIn K cStatics "thirdparty.any" = some none
  sup : PySem.W.ks_superIn K C C "__init__" = some (some (.builtin "ValueError.__init__"))
  sg : PySem.W.nsIn K mainGlobals "super" = some none
  top : (P.main.scope.names.lookup ("super" : Str)).isSome = false
  ini : ∃ (fI cc cda : Addr) (name qual msg : Str) (j : Nat) (p0 p1 p2 p3 p4 pa : Pos) (params : Arguments) (nms : List (Str × NameKind)) (dV kV doc pm ct oc ccl cl : Value) (an od cdd cld : Option Addr) (osl ccs csl : Array (Option Value)) (vs : Array Value) (file : Str) (tf : Tok)
    (cd : ClassData) (ar : Arg) (pl : Sem Bool),
    PySem.W.findIn K (.ref C) "__init__" = some (some (.ref fI)) ∧ PySem.W.isFn K (.ref fI) = true ∧ K.lookup fI = some ⟨oc, od, .func (PySem.W.ksFn name qual params (supBody msg j p0 p1 p2 p3 p4 pa) (fscope nms) dV kV doc pm an (.ref cda) ct cc), osl⟩ ∧
    PySem.W.codeIn K (.ref cda) qual = true ∧ (∀ (s : Shared) (e : Addr), BindsTo s (PySem.W.ksFn name qual params (supBody msg j p0 p1 p2 p3 p4 pa) (fscope nms) dV kV doc pm an (.ref cda) ct cc) ⟨[.ref e], []⟩ [(ar.arg, .ref e)]) ∧
    (params.posonlyargs ++ params.args).head? = some ar ∧ K.lookup cda = some ⟨ccl, cdd, .fields vs, ccs⟩ ∧ vs[2]? = some (.str file tf) ∧ ((P.main.file : Str) == file) = true ∧ K.lookup cc = some ⟨cl, cld, .cell (some (.ref C)), csl⟩ ∧ PySem.W.clsIn K C = some cd ∧
    nms.lookup ("super" : Str) = some .globalImplicit ∧ nms.lookup ("__class__" : Str) = some .free ∧ nms.lookup ar.arg = some .local ∧ (∀ x ∈ nms, x.2 ≠ .cell) ∧
    (∀ env : Env, eval (.Call (.Attribute (.Call (.Name "super" p0) [] [] p1) "__init__" pa) [.Constant (.str msg) j p2] [] p3) env = (do
      let ov ← attributeBase (.Call (.Name "super" p0) [] [] p1) "__init__" env (eval (.Call (.Name "super" p0) [] [] p1) env)
      standAt pa.atName
      let (f, first) ← holding [ov] (getMethod ov "__init__" pl)
      callWith p3 f first (backTo p3 (starEach [.Constant (.str msg) j p2] env)) [])) ∧
    (∀ env : Env, swapsWith (.Call (.Attribute (.Call (.Name "super" p0) [] [] p1) "__init__" pa) [.Constant (.str msg) j p2] [] p3) none p4.line env = pure false)
theorem boot_super : bootBuiltins "super" = some (.type "super") := by first | decide +kernel | rfl | kernel_rfl
section
variable {X : Cx} {C : Addr} {k : Nat} {x : Str} {p pos : Pos}
theorem pmk_super (T : OexS X.prog X.K C) (hr : Room (k + 1) X.A) (hg : Gl X x) (hm : X.mg x = some (.ref C)) (hdb : (x == ("__debug__" : Str)) = false := by decide) : L2N.PMk X (.Call (.Name x p) [] [] pos) (fun _ H Q => Q (.ref C) none H) := by
  obtain ⟨q, kC, exC, tyC, ve, slf, stat, sup, sg, top, ini⟩ := T
  obtain ⟨fI, cc, cda, name, qual, msg, j, p0, p1, p2, p3, p4, pa, params, nms, dV, kV, doc, pm, ct, oc, ccl, cl, an, od, cdd, cld, osl, ccs, csl, vs, file, tf, cd, ar, pl, hi, hf, ho, hcd, hbind, hp, hcode, hvs, hfile, hcell, hcl, hks, hkc, hka, hcn, hev, hsw⟩ := ini
  intro pins s σ H Q I h
  refine wpAny_Call_Name_kw (ld_glob I hg hm ?_ hdb)
  refine PySem.W.callWith_K0 I.kIn kC ?_
  have X0 := I.kIn
  obtain ⟨nm, N', qn, bs, bm, hdct, sn, sub, ab, col, dd, k0, k1, k2, k3, k5, hC, hT⟩ := PySem.W.excInit_of X0 q
  obtain ⟨oI, hoI, hcI⟩ : ∃ oI, s.heap.get? fI = some oI ∧ oI.cls = .type "function" := by
    obtain ⟨o, ho, hc⟩ := Option.map_eq_some_iff.mp (show (X.K.lookup fI).map (·.cls) = some (.type "function") from beq_iff_eq.mp hf)
    exact ⟨o, X0 _ _ ho, hc⟩
  have hi' : PySem.W.Looks (model X.prog X.w) s.heap (typeLookup (.ref C) "__init__") (some (.ref fI)) := PySem.W.looks_findIn X0 hi
  have hsz : s.heap.get? (s.heap.objs.size + 1) = none := Heap.get?_none_of_le (Nat.le_succ _)
  have na : H (s.heap.objs.size + 1) = none := I.hok.gone hsz
  have hglob := I.mod.glob.keeps I.bk
  obtain ⟨mb, hbn, hbb⟩ := I.mod.blt
  have hbn' : s.heap.Ns builtinsNs mb := hbn.keeps I.bk
  have hms : X.mg "super" = none := PySem.W.mg_none_of I.ok.mod.kin I.mod.glob sg
  have hbs : mb "super" = some (.type "super") := (hbb _ (by decide)).trans boot_super
  have hnl := I.nolimit
  have rs := raises_own exC tyC
  have hCe : s.heap.objs.size + 1 ≠ C := fun z => by
    rw [z, hC] at hsz; cases hsz
  have bare := I.bare
  obtain ⟨hh, g, d, tk, os⟩ := s
  dsimp only at *
  have kk : ∀ b o, hh.get? b = some o → ((hh.push (PySem.W.excTup [])).push (PySem.W.excObj C hh.objs.size none .none)).get? b = some o := fun b o e => Heap.get?_push_of_some _ (Heap.get?_push_of_some _ e)
  have hget : ((hh.push (PySem.W.excTup [])).push (PySem.W.excObj C hh.objs.size none .none)).get? (hh.objs.size + 1) = some (PySem.W.excObj C hh.objs.size none .none) := by
    rw [← Heap.size_push hh (PySem.W.excTup [])]
    exact Heap.get?_push_at rfl rfl
  refine wpAny_call (PX.call_own F.excBase_ValueError hT hC hi' (fun self => PySem.W.exc_bind hoI hcI self) (Nat.zero_le _) ?_)
  refine init_super (prog := X.prog) (w := X.w) (K := X.K) (pl := pl) hev hsw (X0.keeps kk) (hglob.keeps kk) hms (hbn'.keeps kk) hbs (hnl.keeps kk) ho hcd (hr.make C [] []).depth (hbind _ _) hp hcode hvs hfile hcell hcl slf hks hkc hka hcn top stat sup ve q hget hCe fun h' t1 tk' k3 e3 => ?_
  refine ⟨rfl, ?_⟩
  refine ⟨_, _, _, ⟨hh, g, d, tk, os⟩, H, .ref C, none, rfl, I, fun b o x => k3 b o (fun z => by rw [z, hsz] at x; cases x) (kk b o x), hsz, e3, ⟨rfl, rfl, fun vs e => by cases e; rfl⟩, rfl, rfl, na, rfl, bare, rs, h⟩
end
end Lt
set_option Elab.async false
set_option linter.all false
set_option maxRecDepth 100000
set_option maxHeartbeats 1000000
/-! Lx3: what raises, over plain values: the value «!» says that C() is raised. -/
namespace Lt
open PySem PySem.Spec PyProof.Rows L2
abbrev bang : PV := .ty "!"
/-- what is wished where it is raised -/
def FinZ (K : PySem.W.Frag) (ι : List Addr) (H : Hp) (rt : PQ) (Z : Hp → Prop) : Prop := ∀ S' ι' H', Ext ι ι' H H' → RS K ι' H' S' → rt bang S' → Z H'
theorem FinZ.ext {K : PySem.W.Frag} {ι ι1 : List Addr} {H H1 : Hp} {rt : PQ} {Z : Hp → Prop} (e : Ext ι ι1 H H1) (h : FinZ K ι H rt Z) : FinZ K ι1 H1 rt Z := fun S' ι' H' e' => h S' ι' H' (e.trans e')
def tSX (K : PySem.W.Frag) (Z : Hp → Prop) (w : WS) : TS := fun D σ H => ∃ ι env S P, REnv K ι H env σ ∧ RS K ι H S ∧ w env S P ∧ FinS K ι H P D ∧ FinZ K ι H P.rt Z
def tWX (K : PySem.W.Frag) (Z : LSt → Hp → Prop) (w : W) : TE := fun σ H Q => ∃ ι env S, ∃ P : PQ, REnv K ι H env σ ∧ RS K ι H S ∧ w env S P ∧ (∀ x S', P x S' → Fin K ι H Q x S') ∧ FinZ K ι H P (Z σ)
structure JSX (X : Cx) (Z : Hp → Prop) (st : Stmt) (w : WS) : Prop where
  ps : PS X st (tSX X.K Z w)
structure JBX (X : Cx) (Z : Hp → Prop) (sts : List Stmt) (w : WS) : Prop where
  ps : PSs X sts (tSX X.K Z w)
structure REX (X : Cx) (Z : LSt → Hp → Prop) (e : Expr) (w : W) : Prop where
  pe : PE X e (tWX X.K Z w)
/-- all that may be raised is C(), where Z is wished -/
def WZ (C : Addr) (Z : LSt → Hp → Prop) : WX := fun cls d σ H => cls = .ref C ∧ d = none ∧ Z σ H
section
variable {X : Cx} {Z : Hp → Prop} {st : Stmt} {rest : List Stmt} {w w2 : WS} {e : Expr} {we : W} {pos : Pos}
theorem PS.nox {X : Cx} {st : Stmt} {t : TS} (h : PS X.nox st t) : PS X st t := ⟨fun pins s σ H D I hw =>
  wpAny_mono (h.run pins s σ H D (I.wish _) hw) (fun _ _ q => q.unwish) fun _ _ z => False.elim z⟩
theorem PA.nox {X : Cx} {es : List Expr} {t : TA} (h : PA X.nox es t) : PA X es t := ⟨fun pos pins s σ H Q I hw =>
  wpAny_mono (h.run pos pins s σ H Q (I.wish _) hw) (fun _ _ ⟨v, H', I', r, q⟩ => ⟨v, H', I'.unwish, r, q⟩) fun _ _ z => False.elim z⟩
theorem PK.nox {X : Cx} {kws : List Keyword} {t : TA} (h : PK X.nox kws t) : PK X kws t := ⟨fun pos pins s σ H Q I hw =>
  wpAny_mono (h.run pos pins s σ H Q (I.wish _) hw) (fun _ _ ⟨v, H', I', r, q⟩ => ⟨v, H', I'.unwish, r, q⟩) fun _ _ z => False.elim z⟩
theorem jsx_of (h : JS X.nox st w) : JSX X Z st w := ⟨PS.weak (PS.nox h.ps) fun D σ H ⟨ι, env, S, P, re, rs, hw, hP, _⟩ => ⟨ι, env, S, P, re, rs, hw, hP⟩⟩
theorem jbx_of (h : JB X.nox rest w) : JBX X Z rest w := ⟨PSs.weak (PSs.nox h.ps) fun D σ H ⟨ι, env, S, P, re, rs, hw, hP, _⟩ => ⟨ι, env, S, P, re, rs, hw, hP⟩⟩
theorem rex_of {Y : LSt → Hp → Prop} (h : RE X.nox e we) : REX X Y e we := ⟨PE.weak (PE.nox h.pe) fun σ H Q ⟨ι, env, S, P, re, rs, hw, hP, _⟩ => ⟨ι, env, S, P, re, rs, hw, hP⟩⟩
theorem jbx_cons (h : JSX X Z st w) (h2 : JBX X Z rest w2) : JBX X Z (st :: rest) (wSq w w2) := by
  refine ⟨PSs.weak (pss_cons h.ps h2.ps) fun D σ H ⟨ι, env, S, P, re, rs, hw, hP, hZ⟩ => ⟨ι, env, S, _, re, rs, hw, ⟨?_, hP.rt, hP.bk, hP.ct⟩, hZ⟩⟩
  exact fun env1 S1 hx ι1 H1 σ1 e1 rs1 re1 => ⟨ι1, env1, S1, P, re1, rs1, hx, hP.ext e1, hZ.ext e1⟩
theorem jbx_one (h : JSX X Z st w) : JBX X Z [st] w := ⟨pss_one h.ps⟩
theorem jsx_if {c : Expr} {a b : List Stmt} {t : WT} (hc : RT X.nox c t) (ha : JBX X Z a w) (hb : JBX X Z b w2) : JSX X Z (.If c a b pos) (wIfS t w w2) := by
  refine ⟨PS.weak (ps_if (PT.nox hc.pt) ha.ps hb.ps) fun D σ H ⟨ι, env, S, P, re, rs, hw, hP, hZ⟩ => ⟨ι, env, S, _, re, rs, hw, fun b S1 hb ι1 H1 e1 rs1 => ?_⟩⟩
  cases b with
  | true => exact ⟨ι1, env, S1, P, re.mono e1, rs1, hb, hP.ext e1, hZ.ext e1⟩
  | false => exact ⟨ι1, env, S1, P, re.mono e1, rs1, hb, hP.ext e1, hZ.ext e1⟩
/-- raise C() -/
def wRaise : WS := fun _ S D => D.rt bang S
theorem jsx_raise {C : Addr} {k : Nat} {x : Str} {p pos' : Pos} (T : OexS X.prog X.K C) (hc : X.calm = true) (tk : L2N.Takes X (WZ C fun _ => Z)) (hr : Room (k + 1) X.A) (hg : Gl X x) (hm : X.mg x = some (.ref C)) (hdb : (x == ("__debug__" : Str)) = false := by decide) :
    JSX X Z (.Raise (some (.Call (.Name x p) [] [] pos')) none pos) wRaise :=
  ⟨PS.weak (L2N.ps_raise hc tk (pmk_super T hr hg hm hdb)) fun D σ H ⟨ι, env, S, P, re, rs, hw, hP, hZ⟩ => ⟨rfl, rfl, hZ S ι H .refl rs hw⟩⟩
theorem jsx_ret (h : REX X (fun _ => Z) e we) : JSX X Z (.Return (some e) pos) (wRet we) :=
  ⟨PS.weak (ps_ret h.pe) fun D σ H ⟨ι, env, S, P, re, rs, hw, hP, hZ⟩ => ⟨ι, env, S, P.rt, re, rs, hw, hP.rt, hZ⟩⟩
/-- x = e, e raising -/
def wSetX (i : Nat) (we : W) : WS := fun env S D => we env S fun x S1 => (x = bang → D.rt bang S1) ∧ (x ≠ bang → D.nx (env.set i (some x)) S1)
theorem not_bang {K : PySem.W.Frag} {ι : List Addr} {H : Hp} {x : PV} {v : V} (r : RV K ι H x v) : x ≠ bang := by
  intro e
  subst e
  cases r with
  | ty _ h => exact h rfl
theorem jsx_set (i : Nat) {x : Str} {pos' : Pos} (hN : X.N.Nodup) (h : REX X (fun _ => Z) e we) (hi : X.N[i]? = some x := by rfl) (hx : Loc X.env.scope x := by first | exact Or.inl rfl | exact Or.inr rfl) (hs : swapsWith e (some (.Name x pos')) pos.line X.env = pure false := by rfl)
    (hf : X.fn x = true ∨ X.env.scope.names.lookup x = some .local := by first | exact .inl rfl | exact .inr rfl | assumption) : JSX X Z (.Assign [.Name x pos'] e pos) (wSetX i we) := by
  refine ⟨PS.weak (ps_set hN hi hx h.pe hs hf) fun D σ H ⟨ι, env, S, P, re, rs, hw, hP, hZ⟩ => ?_⟩
  refine ⟨ι, env, S, _, re, rs, hw, fun x S1 hx ι1 H1 v e1 rs1 rx => hP.nx _ _ (hx.2 (not_bang rx)) ι1 H1 _ e1 rs1 ((re.mono e1).set rx), fun S1 ι1 H1 e1 rs1 hx => hZ S1 ι1 H1 e1 rs1 (hx.1 rfl)⟩
end
/-! ### defs that raise -/
def spCX (K : PySem.W.Frag) (C : Addr) (c : Con) : Sp := fun vs H Q E => ∃ ι S xs, ∃ P : PQ, RS K ι H S ∧ RVs K ι H xs vs ∧ c xs S P ∧ (∀ x S', P x S' → Fin K ι H Q x S') ∧ FinZ K ι H P (E (.ref C) none)
structure CalleeX (P : Program) (w : World) (K : PySem.W.Frag) (mg : Str → Option Value) (base : Heap) (C : Addr) (x : Str) (ps : List Str) (st : Stmt) (k : Nat) (c : Con) : Prop where
  ex : ∃ f fd, FnG P w K mg base (L2N.CX P w) k f fd ps (spCX K C c) ∧ mg x = some (.ref f) ∧ PySem.W.keepIn K (.ref f) = true ∧ Binds K fd ps [] ∧ IsFn x st fd
section
variable {X : Cx} {C : Addr} {k : Nat} {ps ks : List Str} {st : Stmt} {c : Con} {x : Str} {p pos : Pos} {e : Expr} {es : List Expr} {kws : List Keyword} {w : WA} {Z : LSt → Hp → Prop}
theorem run_conS {CX : CXT} {f : Addr} {fd : FuncData} {sp : Sp} {pins : List (Addr × Obj)} {σ : LSt} {H : Hp} {s : Shared} {Q : VK} {args : Args} {us : List Value} {vs : List V} {E : XK} (F : FnG X.prog X.w X.K X.mg X.base CX k f fd ps sp) (hr : Room k X.A) (hgd : X.A.guards = some []) (hx : PassesAt CX X σ E)
    (I : Inv X pins σ H s) (hb : BindsTo s fd args (ps.zip us)) (r : Vals vs us) (h : sp vs H Q E) : wpAny (model X.prog X.w) X.A (call (.ref f) args.pos args.kw) (EP X pins σ Q) X.xe s := by
  refine wpAny_call (codeAny_mono (F.run X.A X.stack s H args us vs Q E hr hgd I.env0 hb r h) fun r s' hq => ?_)
  rcases r with e | fl
  · exact hx pins H s e s' I hq
  · cases fl with
    | ret u => exact I.after hq
    | _ => exact False.elim hq
theorem spCX_of {K : PySem.W.Frag} {ι ι1 : List Addr} {H H1 : Hp} {S1 : Store} {xs : List PV} {vs : List V} {P : PQ} {Q : VK} {E : XK} (e1 : Ext ι ι1 H H1) (rs1 : RS K ι1 H1 S1) (rx : RVs K ι1 H1 xs vs) (hP : ∀ x S', P x S' → Fin K ι H Q x S')
    (hZ : FinZ K ι H P (E (.ref C) none)) (h : c xs S1 P) : spCX K C c vs H1 Q E := ⟨ι1, S1, xs, P, rs1, rx, h, fun x S' hx => (hP x S' hx).ext e1, hZ.ext e1⟩
theorem passZ (tk : L2N.Takes X (WZ C Z)) (σ : LSt) : PassesAt (L2N.CX X.prog X.w) X σ (fun cls d H => cls = .ref C ∧ d = none ∧ Z σ H) := L2N.passAt tk σ
theorem rex_call (T : CalleeX X.prog X.w X.K X.mg X.base C x ps st k c) (hr : Room k X.A) (hgd : X.A.guards = some []) (tk : L2N.Takes X (WZ C Z)) (ha : RA X.nox (e :: es) w) (hg : Gl X x := by rfl) (hdb : (x == ("__debug__" : Str)) = false := by decide)
    (he : starEach (e :: es) X.env = (false, eval e X.env) :: starEach es X.env := by rfl) (hpl : (backTo pos (starEach es X.env)).any (·.1) = false := by rfl) : REX X Z (.Call (.Name x p) (e :: es) [] pos) (wF c w) := by
  obtain ⟨f, fd, F, hm, hk, hb, _⟩ := T.ex
  refine ⟨⟨fun pins s σ H Q I ⟨ι, env, S, P, re, rs, hw, hP, hZ⟩ => ?_⟩⟩
  refine wpAny_Call_Name_kw (ld_glob I hg hm ?_ hdb)
  refine PySem.W.callWith_K (h₀ := X.base) I.ok.mod.kin hk (thn ((PA.nox ha.pa).run pos pins s σ H (fun vs H1 => spCX X.K C c vs H1 Q (fun cls d H => cls = .ref C ∧ d = none ∧ Z σ H)) I ⟨ι, env, S, _, re, rs, hw, fun xs S1 hx ι1 H1 vs e1 rs1 rx => spCX_of e1 rs1 rx hP (fun S' ι' H' a b c => ⟨rfl, rfl, hZ S' ι' H' a b c⟩) hx⟩) fun us s1 ⟨vs, H1, I1, r, q⟩ => ⟨I1.kIn, ?_⟩) he hpl
  have hl : (us ++ ([] : List Value)).length = ps.length := by rw [List.append_nil, ← r.length]; exact F.len _ _ _ _ q
  have hb' := hb s1 us I1.kIn hl
  rw [List.append_nil] at hb'
  exact run_conS (args := ⟨us, []⟩) F hr hgd (passZ tk σ) I1 hb' r q
theorem rex_callK {is : List Nat} (T : CalleeX X.prog X.w X.K X.mg X.base C x ps st k c) (hr : Room k X.A) (hgd : X.A.guards = some []) (tk : L2N.Takes X (WZ C Z)) (hkw : RK X.nox kws w) (kb : KwB x ps st ks is) (hg : Gl X x := by rfl) (hdb : (x == ("__debug__" : Str)) = false := by decide)
    (hall : (backToKw pos (keywordEach kws X.env)).all (·.1.isSome) = true := by rfl) (hks : (backToKw pos (keywordEach kws X.env)).filterMap (·.1) = ks := by rfl)
    (hpl : ((backTo pos (starEach [] X.env)).any (·.1) || (backToKw pos (keywordEach kws X.env)).any (·.1.isNone)) = false := by rfl) :
    REX X Z (.Call (.Name x p) [] kws pos) (wFK c ks.length is w) := by
  obtain ⟨f, fd, F, hm, hk, _, kV, doc, pm, an, cdv, ct, rfl⟩ := T.ex
  refine ⟨⟨fun pins s σ H Q I ⟨ι, env, S, P, re, rs, hw, hP, hZ⟩ => ?_⟩⟩
  refine wpAny_Call_Name_kw (ld_glob I hg hm ?_ hdb)
  refine PySem.W.callWith_KW0 (h₀ := X.base) I.ok.mod.kin hk hall (thn ((PK.nox hkw.pk).run pos pins s σ H (fun vs H1 => vs.length = ks.length ∧ spCX X.K C c (perm .non is vs) H1 Q (fun cls d H => cls = .ref C ∧ d = none ∧ Z σ H)) I ⟨ι, env, S, _, re, rs, hw, fun xs S1 hx ι1 H1 vs e1 rs1 rx => ⟨by rw [← rx.length]; exact hx.1, spCX_of e1 rs1 (perm_rvs rx is) hP (fun S' ι' H' a b c => ⟨rfl, rfl, hZ S' ι' H' a b c⟩) hx.2⟩⟩) fun ws s1 ⟨vs, H1, I1, r, q1, q⟩ => ⟨I1.kIn, ?_⟩) hpl
  rw [hks]
  have hl : ws.length = ks.length := by rw [← r.length]; exact q1
  have hb' : BindsTo s1 _ ⟨[], ks.zip ws⟩ (ps.zip (perm .none is ws)) := BindsTo.of_eq (kb kV doc pm an cdv ct ws hl)
  exact run_conS (args := ⟨[], ks.zip ws⟩) F hr hgd (passZ tk σ) I1 hb' (perm_vals r is) q
end
end Lt
set_option Elab.async false
set_option linter.all false
set_option maxRecDepth 100000
set_option maxHeartbeats 1000000
/-! Lx4: defs that raise; try: return .. except C as n: return ['..', isinstance(n, D)]. -/
namespace Lt
open PySem PySem.Spec PyProof.Rows L2
theorem takes_imp {X : Cx} {C : Addr} {W : WX} (tk : L2N.Takes X W) : L2N.Takes X (WZ C fun σ H => W (.ref C) none σ H) := tk.imp fun c d σ H ⟨h1, h2, h3⟩ => by subst h1 h2; exact h3
section
variable {P : Program} {w : World} {K : PySem.W.Frag} {mg : Str → Option Value} {base : Heap}
theorem takesD {C : Addr} {N : List Str} {qual : Str} {scope : Scope} {f : Addr} {cdv : Value} {A : Around} {outer : List Env} {s : Shared} {H : Hp} {E : XK} :
    L2N.Takes (cxOf (L2N.CX P w) P w K mg base N qual scope f cdv A outer s H E) (WZ C fun _ => E (.ref C) none) :=
  takes_imp (W := fun cls d _ H => E cls d H) (L2N.takes_of (X := cxOf (L2N.CX P w) P w K mg base N qual scope f cdv A outer s H E) rfl rfl rfl rfl)
theorem def_okX {C : Addr} {x qual : Str} {st : Stmt} {f : Addr} {fd : FuncData} {N ps : List Str} {k : Nat} {c : Con} {wb : WS} (F : Fun K x qual st f fd) (S : FnScope N ps (defScope st)) (hlen : ∀ xs S0 P, c xs S0 P → xs.length = ps.length)
    (hbody : ∀ (cdv : Value) (A : Around) (outer : List Env) (s : Shared) (H : Hp) (E : XK), Room k (A.deeper (envOfC qual (defScope st) s.heap.objs.size f cdv)) → A.guards = some [] →
      JBX (cxOf (L2N.CX P w) P w K mg base N qual (defScope st) f cdv A outer s H E) (E (.ref C) none) (defBody st) wb)
    (hpl : ∀ xs S0 P, c xs S0 P → wb (xs.map some ++ List.replicate (N.length - xs.length) none) S0 ⟨fun _ S' => P .non S', P, fun _ _ => False, fun _ _ => False⟩) : FnG P w K mg base (L2N.CX P w) (k + 1) f fd ps (spCX K C c) := by
  obtain ⟨oc, od, kV, doc, pm, an, cdv, ct, osl, rfl, lk, hcd⟩ := F.ex
  refine ⟨fun vs H Q E ⟨ι, S0, xs, P, rs, rx, hp, _⟩ => by rw [← rx.length]; exact hlen xs S0 P hp, fun A outer s H args us vs Q E hr hg e0 hb r hsp => ?_⟩
  obtain ⟨ι, S0, xs, PP, rs, rx, hp, hP, hZ⟩ := hsp
  have hl : vs.length = ps.length := by rw [← rx.length]; exact hlen xs S0 PP hp
  have KX : K.In s.heap := e0.mod.kin.keeps fun b o e => (e0.bs b o e).1
  have lim : s.heap.NoLimit := e0.mod.nolimit.keeps fun b o e => (e0.bs b o e).1
  have kinds : ∀ y ∈ ps.zip us, (defScope st).names.lookup y.1 = some .local ∨ ((defScope st).names.lookup y.1 = some .cell ∧ ((cellsFrom (s.heap.objs.size + 1) (defScope st).names []).lookup y.1).isSome = true) := by
    rintro ⟨n, v⟩ hy
    exact (S.par n (List.of_mem_zip hy).1).imp id fun q => ⟨q, PySem.W.cellsFrom_some _ _ _ (.inl q)⟩
  refine codeAny_call_function hr.depth (KX _ _ lk) rfl S.co S.gen rfl (PySem.W.codeRec_of KX hcd) (hb _ _ _ _ ?_)
  refine wpAny_newFunctionEnv_cells S.kind kinds fun env he s1 xc => ?_
  subst he
  refine ⟨lim.keeps xc.toInCall.keep, codeAny_func ?_⟩
  have I : Inv (cxOf (L2N.CX P w) P w K mg base N qual (defScope st) f cdv A outer s H E) [] (L2.start N vs) H s1 := inv_start S hr.hd e0 hl r xc
  have jb := hbody cdv A outer s H E (hr.deeper _) hg
  have re : REnv K ι H (xs.map some ++ List.replicate (N.length - xs.length) none) (L2.start N vs) := by
    refine ⟨by unfold L2.start; simp only [List.length_append, List.length_map, List.length_replicate, rx.length], fun i y hy => ?_⟩
    unfold L2.start
    by_cases hi : i < xs.length
    · rw [List.getElem?_append_left (by rw [List.length_map]; exact hi), List.getElem?_map] at hy
      obtain ⟨z, hz, e⟩ := Option.map_eq_some_iff.mp hy
      cases e
      obtain ⟨v, h1, h2⟩ := rx.get hz
      exact ⟨v, by rw [List.getElem?_append_left (by rw [List.length_map, ← rx.length]; exact hi), List.getElem?_map, h1]; rfl, h2⟩
    · rw [List.getElem?_append_right (by rw [List.length_map]; omega)] at hy
      have := List.mem_of_getElem? hy
      rw [List.mem_replicate] at this
      cases this.2
  have go := jb.ps.run [] s1 (L2.start N vs) H ⟨fun _ H' => Q .non H', Q, fun _ _ => False, fun _ _ => False⟩ I ⟨ι, _, S0, _, re, rs, hpl xs S0 PP hp,
    ⟨fun env' S' h ι' H' σ' e r _ => hP _ _ h ι' H' _ e r .non, fun y S' h => hP y S' h, fun _ _ h => h.elim, fun _ _ h => h.elim⟩, hZ⟩
  refine wpAny_mono go (fun fl s' hs => ?_) fun e s' hs => hs
  have fin : ∀ {σ' : LSt} {H' : Hp} {v : V} {u : Value}, Inv (cxOf (L2N.CX P w) P w K mg base N qual (defScope st) f cdv A outer s H E) [] σ' H' s' → RelV v u → Q v H' → CE outer P w H s Q u s' :=
    fun {σ' H' v u} J rv q => ⟨v, H', J.os, J.bare, J.base, J.hok, rv, q⟩
  cases fl with
  | ret u => obtain ⟨v, σ', H', J, rv, q⟩ := hs; exact fin J rv q
  | next => obtain ⟨σ', H', J, q⟩ := hs; exact fin (v := V.non) (u := Value.none) J rfl q
  | brk => obtain ⟨_, _, _, q⟩ := hs; exact False.elim q
  | cont => obtain ⟨_, _, _, q⟩ := hs; exact False.elim q
theorem calleeX_of {C : Addr} {x : Str} {ps N : List Str} {st : Stmt} {k : Nat} {c : Con} {wb : WS} (D : Def K mg x ps st) (S : FnScope N ps (defScope st)) (hlen : ∀ xs S0 P, c xs S0 P → xs.length = ps.length)
    (hbody : ∀ (f : Addr) (cdv : Value) (A : Around) (outer : List Env) (s : Shared) (H : Hp) (E : XK), Room k (A.deeper (envOfC x (defScope st) s.heap.objs.size f cdv)) → A.guards = some [] →
      JBX (cxOf (L2N.CX P w) P w K mg base N x (defScope st) f cdv A outer s H E) (E (.ref C) none) (defBody st) wb)
    (hpl : ∀ xs S0 P, c xs S0 P → wb (xs.map some ++ List.replicate (N.length - xs.length) none) S0 ⟨fun _ S' => P .non S', P, fun _ _ => False, fun _ _ => False⟩) : CalleeX P w K mg base C x ps st (k + 1) c := by
  obtain ⟨f, fd, F, hm, hb, hi⟩ := D.ex
  exact ⟨f, fd, def_okX F S hlen (hbody f) hpl, hm, F.kp, fun s us _ hl => by rw [List.append_nil] at hl ⊢; exact hb s us hl, hi⟩
end
/-! ### try -/
def wTry (i : Nat) (y : Str) (we : W) : WS := fun env S D => i < env.length ∧ we env S fun x S1 => (x = bang → D.rt (.ref S1.length) (S1 ++ [.lst [.str y, .bl true]])) ∧ (x ≠ bang → D.rt x S1)
section
variable {X : Cx} {C M : Addr} {e : Expr} {we : W} {i j kk : Nat} {x n m y : Str} {pos pos' np rp rp2 lp yp p1 p2 p3 p4 : Pos}
theorem js_try (hc0 : X.xe = fun _ _ => False) (hs : X.stack = X.env :: X.outer) (hf : X.env.frame = some X.env.locals) (hN : X.N.Nodup) (hgx : Gl X x) (hmx : X.mg x = some (.ref C)) (hex : PySem.W.exmOne X.K (.ref C) (.ref C) = some true)
    (hE : ExcC X.K C) (hgi : Gl X "isinstance") (hmi : X.mg "isinstance" = none) (hgm : Gl X m) (hmm : X.mg m = some (.ref M)) (hkt : PySem.W.kitOne X.K (.ref C) (.ref M) = some true)
    (hb : ∀ (Z : LSt → Hp → Prop) (pn : List (Addr × Obj)) (xe : Value → Shared → Prop), L2N.Takes (X.tr pn xe) (WZ C Z) → REX (X.tr pn xe) Z e we)
    (hi : X.N[i]? = some n := by rfl) (hln : X.env.kindOf n = some .local := by rfl) (hdx : (x == ("__debug__" : Str)) = false := by decide) (hdm : (m == ("__debug__" : Str)) = false := by decide)
    (hvis : Vis X.env.scope n := by first | exact Or.inl rfl | exact Or.inr (Or.inl rfl) | exact Or.inr (Or.inr rfl)) (hdn : (n == ("__debug__" : Str)) = false := by decide) (hcn : (n == ("__classdict__" : Str)) = false := by decide) :
    JS X (.Try [.Return (some e) rp] [.ExceptHandler (some (.Name x np)) (some n) [.Return (some (.List [.Constant (.str y) j yp, .Call (.Name "isinstance" p1) [.Name n p2, .Name m p3] [] p4] lp)) rp2] pos'] [] [] pos) (wTry i y we) := by
  have tk0 : L2N.Takes X (fun _ _ _ _ => False) := fun u s' h => by
    obtain ⟨_, _, _, _, _, _, _, _, _, _, _, _, _, _, _, _, z⟩ := h
    exact z.elim
  refine ⟨PS.weak (L2N.ps_try_as (i := i) (c := .ref C) (Wout := fun _ _ _ _ => False) (tb := fun W D σ H => tWX X.K (fun σ H => W (.ref C) none σ H) we σ H D.rt)
    (ts := fun a cls d D σ H => cls = .ref C ∧ d = none ∧ σ[i]? = some (some (.ref a)) ∧ ∀ l, H l = none → D.rt (.ref l) (upd H l (.lst [.str y, .bl true])))
    hs hf hN hi hln ⟨hgx, hdx, .inl hmx⟩ tk0 (fun W pn xe tk _ => pss_one (ps_ret (hb _ pn xe (takes_imp tk)).pe)) (fun a oe cls d pn hz hv => ?_)) fun D σ H ⟨ι, env, S, P, re, rs, hw, hP⟩ => ?_⟩
  · refine ⟨fun pins s σ H D I h => ?_⟩
    obtain ⟨rfl, rfl, hσ, hl⟩ := h
    have hpe := pss_one (ps_ret (X := X.suite a ((a, oe) :: pn)) (pos := rp2) (pe_lst (pos := lp) (pa_cons (pe_str (x := y) (j := j) (pos := yp)) (pa_cons (pe_callB (pos := p4) (p := p1) (call_isE hE hz.zc hv) hgi hmi bt_isinstance (pa_cons (pe_var (i := i) (pos := p2) hi hvis hdn hcn) (pa_cons (pe_glob (v := .ref M) (pos := p3) hgm hmm rfl hdm) pa_nil))) pa_nil))))
    refine hpe.run pins s σ H D I ?_
    refine ⟨_, hσ, ?_⟩
    refine ⟨.ref M, .ref M, true, rfl, fun u hu => hu, hkt, ?_⟩
    exact ⟨by show 2 ≤ sizeLine; decide, fun l hl' => hl l hl'⟩
  · obtain ⟨hlen, hw⟩ := hw
    refine ⟨ι, env, S, _, re, rs, hw, fun z S' hx ι' H' v e' rs' rv => hP.rt z S' (hx.2 (not_bang rv)) ι' H' v e' rs' rv, fun S' ι' H' e' rs' hx => ?_⟩
    refine ⟨true, hex, fun _ a ha => ⟨rfl, rfl, ?_, ?_⟩, fun z => by cases z⟩
    · rw [List.getElem?_set_self (by rw [← re.len]; exact hlen)]
    · exact new_lst rs' (.cons (.str y) (.cons (.bl true) .nil)) (fun z S2 hz => (hP.rt z S2 hz).ext e') (hx.1 rfl)
end
end Lt
set_option Elab.async false
set_option linter.all false
set_option maxRecDepth 100000
set_option maxHeartbeats 1000000
/-! Lx5: the class that is raised, by its name. -/
namespace Lt
open PySem PySem.Spec PyProof.Rows L2
def adr : Option Value → Addr
  | some (.ref a) => a
  | _ => 0
structure XcF (P : Program) (K : PySem.W.Frag) (mg : Str → Option Value) (n m : Str) : Prop where
  g : mg n = some (.ref (adr (mg n)))
  gm : mg m = some (.ref (adr (mg m)))
  ox : OexS P K (adr (mg n))
  ex : PySem.W.exmOne K (.ref (adr (mg n))) (.ref (adr (mg n))) = some true
  ec : ExcC K (adr (mg n))
  kt : PySem.W.kitOne K (.ref (adr (mg n))) (.ref (adr (mg m))) = some true
theorem xcf_mk {P : Program} {K : PySem.W.Frag} {mg : Str → Option Value} {h : Heap} {n m : Str} {C M : Addr} (X : K.In h) (G : h.Ns mainGlobals mg) (a : PySem.W.nsIn K mainGlobals n = some (some (.ref C))) (am : PySem.W.nsIn K mainGlobals m = some (some (.ref M)))
    (ox : OexS P K C) (ex : PySem.W.exmOne K (.ref C) (.ref C) = some true) (ec : ExcC K C) (kt : PySem.W.kitOne K (.ref C) (.ref M) = some true) : XcF P K mg n m := by
  have h1 := PySem.W.mg_of X G a
  have h2 := PySem.W.mg_of X G am
  have e1 : adr (mg n) = C := by rw [h1]; rfl
  have e2 : adr (mg m) = M := by rw [h2]; rfl
  refine ⟨by rw [e1]; exact h1, by rw [e2]; exact h2, by rw [e1]; exact ox, by rw [e1]; exact ex, by rw [e1]; exact ec, by rw [e1, e2]; exact kt⟩
/-- e is None, e raising -/
def wIsX (we : W) : W := fun env S P => we env S fun x S1 => (x = bang → P bang S1) ∧ (x ≠ bang → P (.bl (isNon x)) S1)
section
variable {X : Cx} {Z : LSt → Hp → Prop} {c a b : Expr} {t : WT} {wa wb we : W} {pos : Pos}
theorem rex_if (hc : RT X.nox c t) (ha : REX X Z a wa) (hb : REX X Z b wb) : REX X Z (.IfExp c a b pos) (wIf t wa wb) := by
  refine ⟨PE.weak (pe_ifExp (PT.nox hc.pt) ha.pe hb.pe) fun σ H Q ⟨ι, env, S, P, re, rs, hw, hP, hZ⟩ => ?_⟩
  refine ⟨ι, env, S, _, re, rs, hw, fun b S1 h1 ι1 H1 e1 rs1 => ?_⟩
  cases b with
  | true => exact ⟨ι1, env, S1, P, re.mono e1, rs1, h1, fun x S' hx => (hP x S' hx).ext e1, hZ.ext e1⟩
  | false => exact ⟨ι1, env, S1, P, re.mono e1, rs1, h1, fun x S' hx => (hP x S' hx).ext e1, hZ.ext e1⟩
theorem rex_is {k : Nat} {cp : Pos} (h : REX X Z e we) : REX X Z (.Compare e [.Is] [.Constant .none k cp] pos) (wIsX we) := by
  refine ⟨PE.weak (pe_cmpR op_fIs h.pe pe_non rfl) fun σ H Q ⟨ι, env, S, P, re, rs, hw, hP, hZ⟩ => ?_⟩
  refine ⟨ι, env, S, _, re, rs, hw, fun x S' hx ι' H' v e' rs' rx => ?_, fun S' ι' H' e' rs' hx => hZ S' ι' H' e' rs' (hx.1 rfl)⟩
  exact ⟨ι', S', x, .non, P, rs', rx, .non, hx.2 (not_bang rx), fun z S'' hz => (hP z S'' hz).ext e'⟩
/-- ['..', e], e raising -/
def wLstX (y : Str) (we : W) : W := fun env S P => we env S fun x S1 => (x = bang → P bang S1) ∧ (x ≠ bang → P (.ref S1.length) (S1 ++ [.lst [.str y, x]]))
theorem rex_lst {k : Nat} {y : Str} {cp : Pos} (h : REX X Z e we) (hs : starEach [e] X.env = (false, eval e X.env) :: starEach [] X.env := by rfl) : REX X Z (.List [.Constant (.str y) k cp, e] pos) (wLstX y we) := by
  refine ⟨PE.weak (pe_lst (pa_cons pe_str (pa_cons h.pe pa_nil hs))) fun σ H Q ⟨ι, env, S, P, re, rs, hw, hP, hZ⟩ => ?_⟩
  refine ⟨ι, env, S, _, re, rs, hw, fun x S' hx ι' H' v e' rs' rx => ?_, fun S' ι' H' e' rs' hx => hZ S' ι' H' e' rs' (hx.1 rfl)⟩
  exact ⟨by show 2 ≤ sizeLine; decide, new_lst rs' (.cons (.str y) (.cons rx .nil)) (fun z S'' hz => (hP z S'' hz).ext e') (hx.2 (not_bang rx))⟩
end
section
variable {P : Program} {K : PySem.W.Frag} {C : Addr} {fI cc cda : Addr} {name qual msg : Str} {j : Nat} {p0 p1 p2 p3 p4 pa : Pos} {params : Arguments} {nms : List (Str × NameKind)} {dV kV doc pm ct oc ccl cl : Value} {an od cdd cld : Option Addr} {osl ccs csl : Array (Option Value)} {vs : Array Value} {file : Str} {tf : Tok}
  {cd : ClassData} {ar : Arg} {pl : Sem Bool}
theorem oexS_mk (q : PySem.W.excInitIn K C bmVE "ValueError.__new__" = true) (kC : PySem.W.keepIn K (.ref C) = true) (exC : PySem.W.subIn K (.ref C) (.type "BaseException") = some true) (tyC : PySem.W.typeIn K (.ref C) = some (.type "type"))
    (ve : PySem.W.subIn K (.ref C) (.type "ValueError") = some true) (slf : PySem.W.mroIn K C (.ref C) = some true) (stat : PySem.W.nsIn K cStatics "thirdparty.any" = some none)
    (sup : PySem.W.ks_superIn K C C "__init__" = some (some (.builtin "ValueError.__init__"))) (sg : PySem.W.nsIn K mainGlobals "super" = some none) (top : (P.main.scope.names.lookup ("super" : Str)).isSome = false)
    (i1 : PySem.W.findIn K (.ref C) "__init__" = some (some (.ref fI))) (i2 : PySem.W.isFn K (.ref fI) = true) (i3 : K.lookup fI = some ⟨oc, od, .func (PySem.W.ksFn name qual params (supBody msg j p0 p1 p2 p3 p4 pa) (fscope nms) dV kV doc pm an (.ref cda) ct cc), osl⟩)
    (i4 : PySem.W.codeIn K (.ref cda) qual = true) (i5 : ∀ (s : Shared) (e : Addr), BindsTo s (PySem.W.ksFn name qual params (supBody msg j p0 p1 p2 p3 p4 pa) (fscope nms) dV kV doc pm an (.ref cda) ct cc) ⟨[.ref e], []⟩ [(ar.arg, .ref e)])
    (i6 : (params.posonlyargs ++ params.args).head? = some ar) (i7 : K.lookup cda = some ⟨ccl, cdd, .fields vs, ccs⟩) (i8 : vs[2]? = some (.str file tf)) (i9 : ((P.main.file : Str) == file) = true) (i10 : K.lookup cc = some ⟨cl, cld, .cell (some (.ref C)), csl⟩) (i11 : PySem.W.clsIn K C = some cd)
    (i12 : nms.lookup ("super" : Str) = some .globalImplicit) (i13 : nms.lookup ("__class__" : Str) = some .free) (i14 : nms.lookup ar.arg = some .local) (i15 : ∀ x ∈ nms, x.2 ≠ .cell)
    (i16 : ∀ env : Env, eval (.Call (.Attribute (.Call (.Name "super" p0) [] [] p1) "__init__" pa) [.Constant (.str msg) j p2] [] p3) env = (do
      let ov ← attributeBase (.Call (.Name "super" p0) [] [] p1) "__init__" env (eval (.Call (.Name "super" p0) [] [] p1) env)
      standAt pa.atName
      let (f, first) ← holding [ov] (getMethod ov "__init__" pl)
      callWith p3 f first (backTo p3 (starEach [.Constant (.str msg) j p2] env)) []))
    (i17 : ∀ env : Env, swapsWith (.Call (.Attribute (.Call (.Name "super" p0) [] [] p1) "__init__" pa) [.Constant (.str msg) j p2] [] p3) none p4.line env = pure false) : OexS P K C :=
  ⟨q, kC, exC, tyC, ve, slf, stat, sup, sg, top, fI, cc, cda, name, qual, msg, j, p0, p1, p2, p3, p4, pa, params, nms, dV, kV, doc, pm, ct, oc, ccl, cl, an, od, cdd, cld, osl, ccs, csl, vs, file, tf, cd, ar, pl, i1, i2, i3, i4, i5, i6, i7, i8, i9, i10, i11, i12, i13, i14, i15, i16, i17⟩
end
end Lt
set_option Elab.async false
set_option linter.all false
set_option maxRecDepth 100000
set_option maxHeartbeats 1000000
/-! Lx6: D[x], D a dict of the text that never changes, its keys texts; a callee that does not raise here. -/
namespace Lt
open PySem PySem.Spec PyProof.Rows L2
structure GDk (w : World) (K : PySem.W.Frag) (mg : Str → Option Value) (x : Str) (kvs : List (Str × PV)) : Prop where
  ex : ∃ p, mg x = some (.ref p) ∧ ∀ z c, kvs.lookup z = some c → ∃ v, KDct K w p z v ∧ ∀ ι H, RV K ι H c v
def wKd (kvs : List (Str × PV)) (wi : W) : W := fun env S P => wi env S fun x S1 => match x with
  | .str z => match kvs.lookup z with
    | some c => P c S1
    | none => False
  | _ => False
theorem re_kd {X : Cx} {x : Str} {kvs : List (Str × PV)} {i : Expr} {wi : W} {p pos : Pos} (g : GDk X.w X.K X.mg x kvs) (hg : Gl X x) (hi : RE X i wi) (hd : (x == ("__debug__" : Str)) = false := by decide) (hs : PlainIx i := by intro _ _; rfl) : RE X (.Subscript (.Name x p) i pos) (wKd kvs wi) := by
  obtain ⟨a, hm, hk⟩ := g.ex
  refine ⟨PE.weak (pe_ix ix_kdict (pe_glob hg hm (v := .ref a) rfl hd) hi.pe hs) fun σ H Q ⟨ι, env, S, P, re, rs, hw, hP⟩ => ?_⟩
  refine ⟨ι, env, S, _, re, rs, hw, fun x S' hx ι' H' v e' rs' rx => ?_⟩
  split at hx
  · rename_i z
    split at hx
    · rename_i c hc
      obtain ⟨v0, h1, h2⟩ := hk z c hc
      cases str_of rx
      exact ⟨a, z, v0, rfl, rfl, h1, hP _ _ hx ι' H' v0 e' rs' (h2 ι' H')⟩
    · exact hx.elim
  · exact hx.elim
def kdB (K : PySem.W.Frag) (p : Addr) : List (Str × PV) → Bool
  | [] => true
  | (z, c) :: r => (match PySem.W.nsIn K p z with
    | some (some u) => (rvK K 9 c u).isSome
    | _ => false) && kdB K p r
theorem kdB_of {K : PySem.W.Frag} {p : Addr} : ∀ {kvs : List (Str × PV)} {z : Str} {c : PV}, kdB K p kvs = true → kvs.lookup z = some c → ∃ u v, PySem.W.nsIn K p z = some (some u) ∧ RelV v u ∧ ∀ ι H, RV K ι H c v
  | [], _, _, _, h => by cases h
  | (y, d) :: r, z, c, hb, h => by
    obtain ⟨h1, h2⟩ := Bool.and_eq_true_iff.mp (show (_ && kdB K p r) = true from hb)
    rw [List.lookup_cons] at h
    split at h
    · rename_i e
      have e := eq_of_beq e
      subst e
      cases h
      split at h1
      · rename_i u hu
        obtain ⟨v, hv⟩ := Option.isSome_iff_exists.mp h1
        obtain ⟨r1, r2⟩ := rvK_of _ _ _ _ hv
        exact ⟨u, v, hu, r1, r2⟩
      · cases h1
    · exact kdB_of h2 h
theorem gdk_mk {w : World} {K : PySem.W.Frag} {mg : Str → Option Value} {h : Heap} {x : Str} {kvs : List (Str × PV)} {p : Addr} {es : Array DictEntry} {n : Nat} (X : K.In h) (G : h.Ns mainGlobals mg) (a : PySem.W.nsIn K mainGlobals x = some (some (.ref p)))
    (l : K.lookup p = some ⟨.type "dict", none, .dict es n, #[]⟩) (k : PySem.W.KeysLit w.params es.toList) (b : kdB K p kvs = true) : GDk w K mg x kvs :=
  ⟨p, PySem.W.mg_of X G a, fun z c hz => by
    obtain ⟨u, v, h1, h2, h3⟩ := kdB_of b hz
    exact ⟨v, ⟨es, n, u, l, k, h1, h2⟩, h3⟩⟩
/-- where nothing is raised -/
theorem callee_nobang {P : Program} {w : World} {K : PySem.W.Frag} {mg : Str → Option Value} {base : Heap} {C : Addr} {x : Str} {ps : List Str} {st : Stmt} {k : Nat} {c c0 : Con} (T : CalleeX P w K mg base C x ps st k c)
    (h : ∀ xs S Q, c0 xs S Q → c xs S fun y S' => y ≠ bang ∧ Q y S') : Callee P w K mg base x ps st k c0 := by
  obtain ⟨f, fd, F, hm, hk, hb, hi⟩ := T.ex
  have go : ∀ {vs : List V} {H : Hp} {Q : VK} {E : XK}, spC K c0 vs H Q E → spCX K C c vs H Q (fun _ _ _ => False) := fun {vs H Q E} hsp => by
    obtain ⟨ι, S, xs, PP, rs, rx, hc, hP⟩ := hsp
    exact ⟨ι, S, xs, _, rs, rx, h _ _ _ hc, fun y S' hy => hP y S' hy.2, fun S' ι' H' _ _ hy => hy.1 rfl⟩
  refine ⟨f, fd, ⟨fun vs H Q E hsp => F.len vs H Q _ (go hsp), fun A outer s H args us vs Q E hr hg e0 hbd r hsp => ?_⟩, hm, hk, hb, hi⟩
  refine codeAny_mono (F.run A outer s H args us vs Q _ hr hg e0 hbd r (go hsp)) fun z s' hz => ?_
  cases z with
  | error e =>
    obtain ⟨_, _, _, _, _, _, _, _, _, _, _, _, q⟩ := hz
    exact q.elim
  | ok fl => cases fl <;> exact hz
end Lt
set_option Elab.async false
set_option linter.all false
set_option maxRecDepth 100000
/-! Vt1: values as data: what a plain value stands for, whose cells may change, results. -/
namespace Vl
open PySem PySem.Spec PyProof.Rows L2 Lt

/-! ### data -/
mutual
/-- the data d is the plain value x, by no cell of E -/
inductive Rp (E : List Nat) (S : Store) : PyData → PV → Prop
  | non : Rp E S .none .non
  | bl (b : Bool) : Rp E S (.bool b) (.bl b)
  | int (i : Int) : Rp E S (.int i) (.int i)
  | str (x : Str) : Rp E S (.str x) (.str x)
  | tup {ds : List PyData} {xs : List PV} : Rps E S ds xs → Rp E S (.tuple ds) (.tup xs)
  | lst {ds : List PyData} {xs : List PV} {n : Nat} : n ∉ E → S[n]? = some (.lst xs) → Rps E S ds xs → Rp E S (.list ds) (.ref n)
  | dic {ds : List (PyData × PyData)} {xs : List (Key × PV)} {n : Nat} : n ∉ E → S[n]? = some (.dic xs) → Rpk E S ds xs → Rp E S (.dict ds) (.ref n)
inductive Rps (E : List Nat) (S : Store) : List PyData → List PV → Prop
  | nil : Rps E S [] []
  | cons {d : PyData} {x : PV} {ds : List PyData} {xs : List PV} : Rp E S d x → Rps E S ds xs → Rps E S (d :: ds) (x :: xs)
inductive Rpk (E : List Nat) (S : Store) : List (PyData × PyData) → List (Key × PV) → Prop
  | nil : Rpk E S [] []
  | cons {k : Key} {d : PyData} {x : PV} {ds : List (PyData × PyData)} {xs : List (Key × PV)} : Rp E S d x → Rpk E S ds xs → Rpk E S ((keyD k, d) :: ds) ((k, x) :: xs)
end
section
variable {E E' : List Nat} {S S' : Store}
mutual
theorem Rp.go (he : ∀ n c, n ∉ E → S[n]? = some c → n ∉ E' ∧ S'[n]? = some c) : ∀ {d : PyData} {x : PV}, Rp E S d x → Rp E' S' d x
  | _, _, .non => .non
  | _, _, .bl b => .bl b
  | _, _, .int b => .int b
  | _, _, .str b => .str b
  | _, _, .tup h => .tup (Rps.go he h)
  | _, _, .lst hn hs h => .lst (he _ _ hn hs).1 (he _ _ hn hs).2 (Rps.go he h)
  | _, _, .dic hn hs h => .dic (he _ _ hn hs).1 (he _ _ hn hs).2 (Rpk.go he h)
theorem Rps.go (he : ∀ n c, n ∉ E → S[n]? = some c → n ∉ E' ∧ S'[n]? = some c) : ∀ {ds : List PyData} {xs : List PV}, Rps E S ds xs → Rps E' S' ds xs
  | _, _, .nil => .nil
  | _, _, .cons h t => .cons (Rp.go he h) (Rps.go he t)
theorem Rpk.go (he : ∀ n c, n ∉ E → S[n]? = some c → n ∉ E' ∧ S'[n]? = some c) : ∀ {ds : List (PyData × PyData)} {xs : List (Key × PV)}, Rpk E S ds xs → Rpk E' S' ds xs
  | _, _, .nil => .nil
  | _, _, .cons h t => .cons (Rp.go he h) (Rpk.go he t)
end
theorem Rp.mono {d : PyData} {x : PV} (h : Rp E S d x) (k : Kp E S S') : Rp E S' d x := h.go fun n c hn hc => ⟨hn, k.at_ n c hn hc⟩
theorem Rps.mono {d : List PyData} {x : List PV} (h : Rps E S d x) (k : Kp E S S') : Rps E S' d x := h.go fun n c hn hc => ⟨hn, k.at_ n c hn hc⟩
theorem Rp.sub {d : PyData} {x : PV} (h : Rp E S d x) (k : ∀ n ∈ E', n ∈ E) : Rp E' S d x := h.go fun n c hn hc => ⟨fun z => hn (k n z), hc⟩
theorem Rps.sub {d : List PyData} {x : List PV} (h : Rps E S d x) (k : ∀ n ∈ E', n ∈ E) : Rps E' S d x := h.go fun n c hn hc => ⟨fun z => hn (k n z), hc⟩
/-- a cell that is not there yet -/
theorem Rp.new {d : PyData} {x : PV} {n : Nat} (h : Rp E S d x) (k : S.length ≤ n) : Rp (n :: E) S d x := h.go fun m c hm hc => ⟨fun z => by
  rcases List.mem_cons.mp z with rfl | z
  · have := lt_of_at hc; omega
  · exact hm z, hc⟩
theorem Rps.new {d : List PyData} {x : List PV} {n : Nat} (h : Rps E S d x) (k : S.length ≤ n) : Rps (n :: E) S d x := h.go fun m c hm hc => ⟨fun z => by
  rcases List.mem_cons.mp z with rfl | z
  · have := lt_of_at hc; omega
  · exact hm z, hc⟩
theorem Rps.length : ∀ {ds : List PyData} {xs : List PV}, Rps E S ds xs → ds.length = xs.length
  | _, _, .nil => rfl
  | _, _, .cons _ t => congrArg (· + 1) (Rps.length t)
theorem Rps.get : ∀ {ds : List PyData} {xs : List PV} {i : Nat} {d : PyData}, Rps E S ds xs → ds[i]? = some d → ∃ x, xs[i]? = some x ∧ Rp E S d x
  | _, _, _, _, .nil, e => by simp at e
  | _, _, 0, _, .cons r _, e => by simp at e; subst e; exact ⟨_, rfl, r⟩
  | _, _, i + 1, d, .cons _ t, e => by
    obtain ⟨v, h1, h2⟩ := Rps.get (i := i) (d := d) t (by simpa using e)
    exact ⟨v, by simpa using h1, h2⟩
theorem Rps.append : ∀ {ds es : List PyData} {xs ys : List PV}, Rps E S ds xs → Rps E S es ys → Rps E S (ds ++ es) (xs ++ ys)
  | _, _, _, _, .nil, s => s
  | _, _, _, _, .cons r t, s => .cons r (Rps.append t s)
theorem Rps.snoc {ds : List PyData} {xs : List PV} {d : PyData} {x : PV} (h : Rps E S ds xs) (r : Rp E S d x) : Rps E S (ds ++ [d]) (xs ++ [x]) := h.append (.cons r .nil)
theorem Rps.take : ∀ {ds : List PyData} {xs : List PV} (n : Nat), Rps E S ds xs → Rps E S (ds.take n) (xs.take n)
  | _, _, 0, _ => .nil
  | _, _, _ + 1, .nil => .nil
  | _, _, n + 1, .cons r t => .cons r (Rps.take n t)
theorem Rps.drop : ∀ {ds : List PyData} {xs : List PV} (n : Nat), Rps E S ds xs → Rps E S (ds.drop n) (xs.drop n)
  | _, _, 0, r => r
  | _, _, _ + 1, .nil => .nil
  | _, _, n + 1, .cons _ t => Rps.drop n t
theorem Rps.set {d : PyData} {x : PV} (r : Rp E S d x) : ∀ {ds : List PyData} {xs : List PV} (i : Nat), Rps E S ds xs → Rps E S (ds.set i d) (xs.set i x)
  | _, _, _, .nil => .nil
  | _, _, 0, .cons _ t => .cons r t
  | _, _, i + 1, .cons q t => .cons q (Rps.set r i t)
theorem Rps.eraseIdx : ∀ {ds : List PyData} {xs : List PV} (i : Nat), Rps E S ds xs → Rps E S (ds.eraseIdx i) (xs.eraseIdx i)
  | _, _, _, .nil => .nil
  | _, _, 0, .cons _ t => t
  | _, _, i + 1, .cons q t => .cons q (Rps.eraseIdx i t)
theorem Rps.dropLast {ds : List PyData} {xs : List PV} (h : Rps E S ds xs) : Rps E S ds.dropLast xs.dropLast := by
  rw [List.dropLast_eq_take, List.dropLast_eq_take, h.length]
  exact h.take _
theorem Rps.reverse : ∀ {ds : List PyData} {xs : List PV}, Rps E S ds xs → Rps E S ds.reverse xs.reverse
  | _, _, .nil => .nil
  | _, _, .cons r t => by rw [List.reverse_cons, List.reverse_cons]; exact (Rps.reverse t).snoc r
theorem Rps.rep {ds : List PyData} {xs : List PV} (h : Rps E S ds xs) : ∀ k : Nat, Rps E S (List.replicate k ds).flatten (List.replicate k xs).flatten
  | 0 => .nil
  | k + 1 => by
    rw [List.replicate_succ, List.replicate_succ, List.flatten_cons, List.flatten_cons]
    exact h.append (Rps.rep h k)
/-! the data itself, for repr and == -/
mutual
theorem Rp.toD : ∀ {d : PyData} {x : PV} (n : Nat), Rp E S d x → d.depth < n → Lt.toD n S x = some d
  | _, _, 0, _, h => absurd h (Nat.not_lt_zero _)
  | _, _, n + 1, .non, _ => rfl
  | _, _, n + 1, .bl _, _ => rfl
  | _, _, n + 1, .int _, _ => rfl
  | _, _, n + 1, .str _, _ => rfl
  | _, _, n + 1, .tup (ds := ds) h, hd => by
    show (Lt.optAll (Lt.toD n S) _).map _ = _
    rw [Rps.toD n h (by simp only [PyData.depth] at hd; omega)]; rfl
  | _, _, n + 1, .lst hn hs h, hd => by
    unfold Lt.toD
    simp only [hs]
    rw [Rps.toD n h (by simp only [PyData.depth] at hd; omega)]; rfl
  | _, _, n + 1, .dic hn hs h, hd => by
    unfold Lt.toD
    simp only [hs]
    rw [Rpk.toD n h (by simp only [PyData.depth] at hd; omega)]; rfl
theorem Rps.toD : ∀ {ds : List PyData} {xs : List PV} (n : Nat), Rps E S ds xs → PyData.depthAll ds < n → Lt.optAll (Lt.toD n S) xs = some ds
  | _, _, n, .nil, _ => rfl
  | _, _, n, .cons r t, h => by
    simp only [PyData.depthAll] at h
    unfold Lt.optAll
    rw [Rp.toD n r (by omega), Rps.toD n t (by omega)]
theorem Rpk.toD : ∀ {ds : List (PyData × PyData)} {xs : List (Key × PV)} (n : Nat), Rpk E S ds xs → PyData.depthKv ds < n → Lt.optAll (fun kv => (Lt.toD n S kv.2).map fun d => (keyD kv.1, d)) xs = some ds
  | _, _, n, .nil, _ => rfl
  | _, _, n, .cons r t, h => by
    simp only [PyData.depthKv] at h
    unfold Lt.optAll
    rw [Rp.toD n r (by omega), Rpk.toD n t (by omega)]; rfl
end
end
/-- what may stand apart, but for the cell itself -/
def Rq (E : List Nat) (S : Store) (d : PyData) (x : PV) : Prop := Rp E S d x ∨ ∃ ds n xs, d = .list ds ∧ x = .ref n ∧ S[n]? = some (.lst xs) ∧ Rps E S ds xs
section
variable {E E' : List Nat} {S S' : Store}
theorem Rq.rp0 {d : PyData} {x : PV} (h : Rq E S d x) : Rp [] S d x := by
  rcases h with h | ⟨ds, n, xs, rfl, rfl, hs, h⟩
  · exact h.sub (by simp)
  · exact .lst (by simp) hs (h.sub (by simp))
theorem Rq.list {ds : List PyData} {x : PV} (h : Rq E S (.list ds) x) : ∃ n xs, x = .ref n ∧ S[n]? = some (.lst xs) ∧ Rps E S ds xs := by
  rcases h with h | ⟨es, n, xs, e, rfl, hs, h⟩
  · cases h with
    | lst hn hs h => exact ⟨_, _, rfl, hs, h⟩
  · cases e; exact ⟨_, _, rfl, hs, h⟩
theorem Rq.nl {d : PyData} {x : PV} (h : Rq E S d x) (hd : ∀ ds, d ≠ .list ds) : Rp E S d x := by
  rcases h with h | ⟨es, n, xs, e, rfl, hs, h⟩
  · exact h
  · exact (hd _ e).elim
theorem Rq.tuple {ds : List PyData} {x : PV} (h : Rq E S (.tuple ds) x) : ∃ xs, x = .tup xs ∧ Rps E S ds xs := by
  match x, h.nl (by intro _ z; cases z) with
  | _, .tup q => exact ⟨_, rfl, q⟩
theorem Rq.int {i : Int} {x : PV} (h : Rq E S (.int i) x) : x = .int i := by
  cases h.nl (by intro _ z; cases z); rfl
theorem Rq.str {i : Str} {x : PV} (h : Rq E S (.str i) x) : x = .str i := by
  cases h.nl (by intro _ z; cases z); rfl
theorem Rq.bool {i : Bool} {x : PV} (h : Rq E S (.bool i) x) : x = .bl i := by
  cases h.nl (by intro _ z; cases z); rfl
theorem Rq.none {x : PV} (h : Rq E S .none x) : x = .non := by
  cases h.nl (by intro _ z; cases z); rfl
theorem Rq.dict {ds : List (PyData × PyData)} {x : PV} (h : Rq E S (.dict ds) x) : ∃ n xs, x = .ref n ∧ S[n]? = some (.dic xs) ∧ Rpk E S ds xs := by
  match x, h.nl (by intro _ z; cases z) with
  | _, .dic hn hs q => exact ⟨_, _, rfl, hs, q⟩
/-- a list or a tuple -/
def seqD : PyData → Option (List PyData)
  | .list ds => some ds
  | .tuple ds => some ds
  | _ => none
theorem Rq.seq {d : PyData} {x : PV} {ds : List PyData} (h : Rq E S d x) (hd : seqD d = some ds) : ∃ xs, seqOf x S = some xs ∧ Rps E S ds xs := by
  unfold seqD at hd
  split at hd
  · cases hd
    obtain ⟨n, xs, rfl, hs, q⟩ := h.list
    exact ⟨xs, by unfold seqOf; simp only [hs]; rfl, q⟩
  · cases hd
    obtain ⟨xs, rfl, q⟩ := h.tuple
    exact ⟨xs, rfl, q⟩
  · cases hd
inductive Rqs (E : List Nat) (S : Store) : List PyData → List PV → Prop
  | nil : Rqs E S [] []
  | cons {d : PyData} {x : PV} {ds : List PyData} {xs : List PV} : Rq E S d x → Rqs E S ds xs → Rqs E S (d :: ds) (x :: xs)
end
/-! ### the world around a def -/
abbrev Tok := Nat → Nat → List Nat → Store → Prop
/-- what stands guarded: cells of objects that the laws hand around, and lists of callers -/
structure Gd (T : Tok) where
  cells : List Nat
  inv : Nat → Store → Prop
  dom : ∀ k S, inv k S → ∀ n ∈ cells, n < S.length
  fr : ∀ k S S', inv k S → S.length ≤ S'.length → (∀ n ∈ cells, S'[n]? = S[n]?) → inv k S'
  tk : Nat → Option (List Nat)
  iface : ∀ k fs, tk k = some fs → (∀ m S, inv m S → T k m fs S) ∧ (∀ m m' S S', inv m S → Kp fs S S' → T k m' fs S' → inv m' S') ∧ ∀ n ∈ fs, n ∈ cells
/-- further cells, that stay as they are -/
def Gd.add {T : Tok} (G : Gd T) (L : List Nat) (S1 : Store) (hL : ∀ n ∈ L, n ∉ G.cells) : Gd T where
  cells := L ++ G.cells
  inv k S := G.inv k S ∧ ∀ n ∈ L, n < S.length ∧ S[n]? = S1[n]?
  dom k S h n hn := by
    rcases List.mem_append.mp hn with hn | hn
    · exact (h.2 n hn).1
    · exact G.dom k S h.1 n hn
  fr k S S' h hl hc := ⟨G.fr k S S' h.1 hl fun n hn => hc n (List.mem_append_right _ hn), fun n hn => ⟨Nat.lt_of_lt_of_le (h.2 n hn).1 hl, by rw [hc n (List.mem_append_left _ hn)]; exact (h.2 n hn).2⟩⟩
  tk := G.tk
  iface k fs h := by
    obtain ⟨a, b, c⟩ := G.iface k fs h
    refine ⟨fun m S q => a m S q.1, fun m m' S S' q hk ht => ⟨b m m' S S' q.1 hk ht, fun n hn => ?_⟩, fun n hn => List.mem_append_right _ (c n hn)⟩
    have hf : n ∉ fs := fun z => hL n hn (c n z)
    have hl := (q.2 n hn).1
    refine ⟨Nat.lt_of_lt_of_le hl hk.le, ?_⟩
    rw [← (q.2 n hn).2, List.getElem?_eq_getElem hl]
    exact hk.at_ n _ hf (List.getElem?_eq_getElem hl)
theorem Gd.kp {T : Tok} {G : Gd T} {k : Nat} {S S' : Store} (h : G.inv k S) (q : Kp [] S S') : G.inv k S' := G.fr k S S' h q.le fun n hn => by
  have hl := G.dom k S h n hn
  rw [List.getElem?_eq_getElem hl]
  exact q.at_ n _ (by simp) (List.getElem?_eq_getElem hl)

/-! ### slots -/
/-- what a slot has: data, a type, an object, a list of its own -/
inductive VX where
  | d (p : PyData) | ty (n : String) | tok (k : Nat) | ow (ds : List PyData)
/-- what an expression comes to: data, a type, an object, the list of a slot, a new list -/
inductive VV where
  | d (p : PyData) | ty (n : String) | tok (k : Nat) | ow (i : Nat) | fr (ds : List PyData)
/-- the slots, and how often something was drawn -/
structure VEnv where
  s : List (Option VX)
  n : Nat
abbrev VEnv.put (e : VEnv) (i : Nat) (x : Option VX) : VEnv := ⟨e.s.set i x, e.n⟩
section
variable {T : Tok}
def RX (G : Gd T) (O : List Nat) (S : Store) : VX → PV → Prop
  | .d p, x => Rp (O ++ G.cells) S p x
  | .ty n, x => x = .ty n
  | .tok k, x => ∃ n fs, G.tk k = some (n :: fs) ∧ x = .ref n
  | .ow ds, x => ∃ n xs, x = .ref n ∧ n ∈ O ∧ S[n]? = some (.lst xs) ∧ Rps (O ++ G.cells) S ds xs
/-- a slot's own cell -/
def OwnAt (venv : VEnv) (env : PEnv) (i n : Nat) : Prop := (∃ ds, venv.s[i]? = some (some (.ow ds))) ∧ env[i]? = some (some (.ref n))
structure Core (G : Gd T) (S0 : Store) (O : List Nat) (venv : VEnv) (env : PEnv) (S : Store) : Prop where
  inv : G.inv venv.n S
  kp : Kp G.cells S0 S
  len : venv.s.length = env.length
  new : ∀ n ∈ O, S0.length ≤ n ∧ n < S.length ∧ n ∉ G.cells
  slot : ∀ (i : Nat) (v : VX), venv.s[i]? = some (some v) → ∃ x : PV, env[i]? = some (some x) ∧ RX G O S v x
  inj : ∀ i j n, OwnAt venv env i n → OwnAt venv env j n → i = j
/-- a value that waits -/
def RV2 (G : Gd T) (O : List Nat) (venv : VEnv) (env : PEnv) (S : Store) : VV → PV → Prop
  | .d p, x => Rp (O ++ G.cells) S p x
  | .ty n, x => x = .ty n
  | .tok k, x => ∃ n fs, G.tk k = some (n :: fs) ∧ x = .ref n
  | .ow i, x => ∃ n, x = .ref n ∧ OwnAt venv env i n
  | .fr ds, x => Rp (O ++ G.cells) S (.list ds) x
abbrev Vals := List (VV × PV)
def RVs2 (G : Gd T) (O : List Nat) (venv : VEnv) (env : PEnv) (S : Store) (vals : Vals) : Prop := ∀ v ∈ vals, RV2 G O venv env S v.1 v.2
/-- the value that has just come -/
def Hd (G : Gd T) (O : List Nat) (venv : VEnv) (env : PEnv) (S : Store) : VV → PV → Prop
  | .fr ds, x => ∃ n xs, x = .ref n ∧ n ∈ O ∧ (∀ j, ¬ OwnAt venv env j n) ∧ S[n]? = some (.lst xs) ∧ Rps (O ++ G.cells) S ds xs
  | v, x => RV2 G O venv env S v x
/-- an end of an expression -/
def Res (G : Gd T) (S0 : Store) (vals : Vals) (venv : VEnv) (env : PEnv) (S : Store) (v : VV) (x : PV) : Prop := ∃ O, Core G S0 O venv env S ∧ RVs2 G O venv env S vals ∧ Hd G O venv env S v x
def St (G : Gd T) (S0 : Store) (vals : Vals) (venv : VEnv) (env : PEnv) (S : Store) : Prop := ∃ O, Core G S0 O venv env S ∧ RVs2 G O venv env S vals
end
end Vl
set_option Elab.async false
set_option linter.all false
set_option maxRecDepth 100000
/-! Vt2: how the world goes on; expressions. -/
namespace Vl
open PySem PySem.Spec PyProof.Rows L2 Lt
section
variable {T : Tok} {G : Gd T} {S0 S S' : Store} {O : List Nat} {venv : VEnv} {env : PEnv} {vals : Vals}
theorem kp_of_nil {M : List Nat} (k : Kp [] S S') : Kp M S S' := k.sub (by simp)
theorem RX.keep {v : VX} {x : PV} (k : Kp [] S S') (h : RX G O S v x) : RX G O S' v x := by
  cases v with
  | d p => exact Rp.mono h (kp_of_nil k)
  | ty n => exact h
  | tok j => exact h
  | ow ds => obtain ⟨n, xs, h1, h2, h3, h4⟩ := h; exact ⟨n, xs, h1, h2, k.at_ _ _ (by simp) h3, h4.mono (kp_of_nil k)⟩
theorem RV2.keep {v : VV} {x : PV} (k : Kp [] S S') (h : RV2 G O venv env S v x) : RV2 G O venv env S' v x := by
  cases v with
  | d p => exact Rp.mono h (kp_of_nil k)
  | ty n => exact h
  | tok j => exact h
  | ow i => exact h
  | fr ds => exact Rp.mono h (kp_of_nil k)
theorem RVs2.keep (k : Kp [] S S') (h : RVs2 G O venv env S vals) : RVs2 G O venv env S' vals := fun v hv => (h v hv).keep k
theorem Core.keep (h : Core G S0 O venv env S) (k : Kp [] S S') : Core G S0 O venv env S' :=
  ⟨G.kp h.inv k, h.kp.trans (kp_of_nil k), h.len, fun n hn => ⟨(h.new n hn).1, Nat.lt_of_lt_of_le (h.new n hn).2.1 k.le, (h.new n hn).2.2⟩, fun i v hv => let ⟨x, h1, h2⟩ := h.slot i v hv; ⟨x, h1, h2.keep k⟩, h.inj⟩
/-- fewer cells apart -/
theorem Core.drop {O' : List Nat} (h : Core G S0 O venv env S) (hs : ∀ n ∈ O', n ∈ O) (ho : ∀ i n, OwnAt venv env i n → n ∈ O') : Core G S0 O' venv env S := by
  have sb : ∀ n ∈ O' ++ G.cells, n ∈ O ++ G.cells := fun n hn => by
    rcases List.mem_append.mp hn with hn | hn
    · exact List.mem_append_left _ (hs n hn)
    · exact List.mem_append_right _ hn
  refine ⟨h.inv, h.kp, h.len, fun n hn => h.new n (hs n hn), fun i v hv => ?_, h.inj⟩
  obtain ⟨x, h1, h2⟩ := h.slot i v hv
  refine ⟨x, h1, ?_⟩
  cases v with
  | d p => exact Rp.sub h2 sb
  | ty n => exact h2
  | tok j => exact h2
  | ow ds => obtain ⟨n, xs, rfl, q2, q3, q4⟩ := h2; exact ⟨n, xs, rfl, ho i n ⟨⟨ds, hv⟩, h1⟩, q3, q4.sub sb⟩
theorem RVs2.drop {O' : List Nat} (h : RVs2 G O venv env S vals) (hs : ∀ n ∈ O', n ∈ O) : RVs2 G O' venv env S vals := fun v hv => by
  have sb : ∀ n ∈ O' ++ G.cells, n ∈ O ++ G.cells := fun n hn => by
    rcases List.mem_append.mp hn with hn | hn
    · exact List.mem_append_left _ (hs n hn)
    · exact List.mem_append_right _ hn
  have := h v hv
  revert this
  cases v.1 with
  | d p => exact fun h => Rp.sub h sb
  | ty n => exact id
  | tok j => exact id
  | ow i => exact id
  | fr ds => exact fun h => Rp.sub h sb
/-- one more cell apart, that nobody has -/
theorem Core.mark {n : Nat} (h : Core G S0 O venv env S) (hn : S.length ≤ n) {xs : List PV} (hs : S' = S ++ [.lst xs]) (e : n = S.length) : Core G S0 (n :: O) venv env S' := by
  subst e
  have k : Kp [] S S' := by rw [hs]; exact .push
  have hd : S.length ∉ G.cells := fun z => by have := G.dom _ S h.inv _ z; omega
  have hl := h.kp.le
  refine ⟨G.kp h.inv k, h.kp.trans (kp_of_nil k), h.len, fun n hn => ?_, fun i v hv => ?_, h.inj⟩
  · rcases List.mem_cons.mp hn with rfl | hn
    · exact ⟨hl, by rw [hs]; simp, hd⟩
    · exact ⟨(h.new n hn).1, Nat.lt_of_lt_of_le (h.new n hn).2.1 k.le, (h.new n hn).2.2⟩
  · obtain ⟨x, h1, h2⟩ := h.slot i v hv
    refine ⟨x, h1, ?_⟩
    cases v with
    | d p => exact (Rp.new h2 (Nat.le_refl _)).mono (kp_of_nil k)
    | ty n => exact h2
    | tok j => exact h2
    | ow ds => obtain ⟨n, xs, rfl, q2, q3, q4⟩ := h2; exact ⟨n, xs, rfl, List.mem_cons_of_mem _ q2, k.at_ _ _ (by simp) q3, (q4.new (Nat.le_refl _)).mono (kp_of_nil k)⟩
theorem RVs2.mark (h : RVs2 G O venv env S vals) (k : Kp [] S S') : RVs2 G (S.length :: O) venv env S' vals := fun v hv => by
  have := h v hv
  revert this
  cases v.1 with
  | d p => exact fun h => (Rp.new h (Nat.le_refl _)).mono (kp_of_nil k)
  | ty n => exact id
  | tok j => exact id
  | ow i => exact id
  | fr ds => exact fun h => (Rp.new h (Nat.le_refl _)).mono (kp_of_nil k)
/-- what a reckoning leaves -/
def OpRes (E : List Nat) (S : Store) (r : VV) (z : PV) (S' : Store) : Prop :=
  (∃ p, r = .d p ∧ Kp [] S S' ∧ Rp E S' p z) ∨ ∃ ds xs, r = .fr ds ∧ z = .ref S.length ∧ S' = S ++ [.lst xs] ∧ Rps E S ds xs
theorem ow_lt (h : Core G S0 O venv env S) {i n : Nat} (o : OwnAt venv env i n) : n ∈ O := by
  obtain ⟨⟨ds, hv⟩, he⟩ := o
  obtain ⟨x, h1, m, xs, rfl, h2, _⟩ := h.slot i _ hv
  rw [he] at h1; cases h1
  exact h2
theorem op_res {r : VV} {z : PV} (h : Core G S0 O venv env S) (hv : RVs2 G O venv env S vals) (o : OpRes (O ++ G.cells) S r z S') : Res G S0 vals venv env S' r z := by
  rcases o with ⟨p, rfl, k, q⟩ | ⟨ds, xs, rfl, rfl, rfl, q⟩
  · exact ⟨O, h.keep k, hv.keep k, q⟩
  · refine ⟨S.length :: O, h.mark (Nat.le_refl _) rfl rfl, hv.mark .push, S.length, xs, rfl, by simp, fun j o => ?_, at_new _ _, ?_⟩
    · have := (h.new _ (ow_lt h o)).2.1; omega
    · exact (q.new (Nat.le_refl _)).mono .push
/-- what has come waits -/
def pl : VV → VV
  | .fr ds => .d (.list ds)
  | v => v
theorem Res.pend {v : VV} {x : PV} (h : Res G S0 vals venv env S v x) : St G S0 ((pl v, x) :: vals) venv env S := by
  obtain ⟨O, hc, hv, hd⟩ := h
  cases v with
  | fr ds =>
    obtain ⟨n, xs, rfl, h1, h2, h3, h4⟩ := hd
    have hs : ∀ m ∈ O.filter (· ≠ n), m ∈ O := fun m hm => (List.mem_filter.mp hm).1
    refine ⟨O.filter (· ≠ n), hc.drop hs fun i m o => List.mem_filter.mpr ⟨ow_lt hc o, by simp; rintro rfl; exact h2 i o⟩, fun v hv' => ?_⟩
    rcases List.mem_cons.mp hv' with rfl | hv'
    · refine .lst (fun z => ?_) h3 (h4.sub fun m hm => ?_)
      · rcases List.mem_append.mp z with z | z
        · simp at z
        · exact (hc.new n h1).2.2 z
      · rcases List.mem_append.mp hm with hm | hm
        · exact List.mem_append_left _ (hs m hm)
        · exact List.mem_append_right _ hm
    · exact hv.drop hs v hv'
  | d p => exact ⟨O, hc, fun v hv' => (List.mem_cons.mp hv').elim (fun z => by subst z; exact hd) (hv v)⟩
  | ty p => exact ⟨O, hc, fun v hv' => (List.mem_cons.mp hv').elim (fun z => by subst z; exact hd) (hv v)⟩
  | tok p => exact ⟨O, hc, fun v hv' => (List.mem_cons.mp hv').elim (fun z => by subst z; exact hd) (hv v)⟩
  | ow p => exact ⟨O, hc, fun v hv' => (List.mem_cons.mp hv').elim (fun z => by subst z; exact hd) (hv v)⟩
theorem St.mem {vals' : Vals} (h : St G S0 vals venv env S) (hm : ∀ v ∈ vals', v ∈ vals) : St G S0 vals' venv env S := by
  obtain ⟨O, a, b⟩ := h
  exact ⟨O, a, fun v hv => b v (hm v hv)⟩
theorem St.tail {v : VV × PV} (h : St G S0 (v :: vals) venv env S) : St G S0 vals venv env S := h.mem fun _ => List.mem_cons_of_mem _
/-- the data of a value -/
def dat (venv : VEnv) : VV → Option PyData
  | .d p => some p
  | .fr ds => some (.list ds)
  | .ow i => match venv.s[i]? with
    | some (some (.ow ds)) => some (.list ds)
    | _ => none
  | _ => none
theorem dat_pl {v : VV} : dat venv (pl v) = dat venv v := by cases v <;> rfl
theorem dat_rq {v : VV} {x : PV} {p : PyData} (hc : Core G S0 O venv env S) (h : RV2 G O venv env S v x) (e : dat venv v = some p) : Rq (O ++ G.cells) S p x := by
  cases v with
  | d q => cases e; exact .inl h
  | fr ds => cases e; exact .inl h
  | ow i =>
    obtain ⟨n, rfl, o⟩ := h
    unfold dat at e
    simp only at e
    split at e
    · rename_i ds hs
      cases e
      obtain ⟨y, h1, m, xs, rfl, h2, h3, h4⟩ := hc.slot i _ hs
      rw [o.2] at h1; cases h1
      exact .inr ⟨_, _, _, rfl, rfl, h3, h4⟩
    · cases e
  | ty n => cases e
  | tok n => cases e
/-- data that may be kept -/
def stab : VV → Option PyData
  | .d p => some p
  | .fr ds => some (.list ds)
  | _ => none
theorem stab_rp {v : VV} {x : PV} {p : PyData} (h : RV2 G O venv env S v x) (e : stab v = some p) : Rp (O ++ G.cells) S p x := by
  cases v with
  | d q => cases e; exact h
  | fr q => cases e; exact h
  | _ => cases e
end

/-! ### expressions -/
abbrev VQ := VEnv → VV → Prop
abbrev V := VEnv → VQ → Prop
abbrev VA := VEnv → (VEnv → List VV → Prop) → Prop
/-- w does as v says -/
structure Sim (T : Tok) (w : W) (v : V) : Prop where
  run : ∀ (G : Gd T) (S0 : Store) (vals : Vals) (venv : VEnv) (env : PEnv) (S : Store) (P : PQ) (Q : VQ), St G S0 vals venv env S → v venv Q → (∀ venv' r x S', Q venv' r → Res G S0 vals venv' env S' r x → P x S') → w env S P
structure SimA (T : Tok) (w : WA) (v : VA) : Prop where
  run : ∀ (G : Gd T) (S0 : Store) (vals : Vals) (venv : VEnv) (env : PEnv) (S : Store) (P : List PV → Store → Prop) (Q : VEnv → List VV → Prop), St G S0 vals venv env S → v venv Q →
    (∀ venv' vs xs S', Q venv' vs → vs.length = xs.length → St G S0 (vs.zip xs ++ vals) venv' env S' → P xs S') → w env S P
section
variable {T : Tok} {G : Gd T} {S0 S S' : Store} {O : List Nat} {venv : VEnv} {env : PEnv} {vals : Vals} {w wa wb : W} {v va vb : V} {ws : WA} {vs : VA}
theorem St.one {r : VV} {x : PV} (h : St G S0 ((r, x) :: vals) venv env S) : ∃ O, Core G S0 O venv env S ∧ RVs2 G O venv env S vals ∧ RV2 G O venv env S r x := by
  obtain ⟨O, a, b⟩ := h
  exact ⟨O, a, fun v hv => b v (List.mem_cons_of_mem _ hv), b _ (List.mem_cons_self ..)⟩
theorem hd_of {r : VV} {x : PV} (hr : ∀ ds, r ≠ .fr ds) (h : RV2 G O venv env S r x) : Hd G O venv env S r x := by
  cases r with
  | fr ds => exact (hr ds rfl).elim
  | _ => exact h
def vN : VA := fun e Q => Q e []
def vCons (a : V) (r : VA) : VA := fun e Q => a e fun e1 v => r e1 fun e2 vs => Q e2 (pl v :: vs)
theorem simA_nil : SimA T wNil vN := ⟨fun G S0 vals venv env S P Q st h hP => hP venv [] [] S h rfl (st.mem fun v hv => by simpa using hv)⟩
theorem simA_cons (h : Sim T w v) (hr : SimA T ws vs) : SimA T (wCons w ws) (vCons v vs) := by
  refine ⟨fun G S0 vals venv env S P Q st hv hP => ?_⟩
  refine h.run G S0 vals venv env S _ _ st hv fun e1 r x S1 h1 r1 => ?_
  refine hr.run G S0 _ e1 env S1 _ _ r1.pend h1 fun e2 rs xs S2 h2 hl st2 => ?_
  refine hP e2 _ _ S2 h2 (by simp [hl]) (st2.mem fun v hv => ?_)
  simp only [List.zip_cons_cons, List.cons_append, List.mem_cons, List.mem_append] at hv ⊢
  rcases hv with hv | hv | hv
  · exact .inr (.inl hv)
  · exact .inl hv
  · exact .inr (.inr hv)
def vVar (i : Nat) : V := fun e Q => match e.s[i]? with
  | some (some (.d p)) => Q e (.d p)
  | some (some (.ty n)) => Q e (.ty n)
  | some (some (.tok k)) => Q e (.tok k)
  | some (some (.ow _)) => Q e (.ow i)
  | _ => False
theorem sim_var (i : Nat) : Sim T (wVar i) (vVar i) := by
  refine ⟨fun G S0 vals venv env S P Q st hv hP => ?_⟩
  obtain ⟨O, hc, hvs⟩ := st
  unfold vVar at hv
  unfold wVar
  split at hv
  · rename_i p hs
    obtain ⟨x, h1, h2⟩ := hc.slot i _ hs
    rw [h1]
    exact hP _ _ _ _ hv ⟨O, hc, hvs, h2⟩
  · rename_i p hs
    obtain ⟨x, h1, h2⟩ := hc.slot i _ hs
    rw [h1]
    exact hP _ _ _ _ hv ⟨O, hc, hvs, h2⟩
  · rename_i p hs
    obtain ⟨x, h1, h2⟩ := hc.slot i _ hs
    rw [h1]
    exact hP _ _ _ _ hv ⟨O, hc, hvs, h2⟩
  · rename_i p hs
    obtain ⟨x, h1, n, xs, rfl, h2⟩ := hc.slot i _ hs
    rw [h1]
    exact hP _ _ _ _ hv ⟨O, hc, hvs, n, rfl, ⟨_, hs⟩, h1⟩
  · exact hv.elim
/-- a constant -/
def vC (p : PyData) : V := fun e Q => Q e (.d p)
theorem sim_c {p : PyData} {x : PV} (h : ∀ E S, Rp E S p x) : Sim T (wC x) (vC p) :=
  ⟨fun G S0 vals venv env S P Q ⟨O, hc, hvs⟩ hv hP => hP _ _ _ _ hv ⟨O, hc, hvs, h _ _⟩⟩
theorem sim_int {i : Int} : Sim T (wC (.int i)) (vC (.int i)) := sim_c fun _ _ => .int i
theorem sim_str {i : Str} : Sim T (wC (.str i)) (vC (.str i)) := sim_c fun _ _ => .str i
theorem sim_bl {i : Bool} : Sim T (wC (.bl i)) (vC (.bool i)) := sim_c fun _ _ => .bl i
theorem sim_non : Sim T (wC .non) (vC .none) := sim_c fun _ _ => .non
def vTy (n : String) : V := fun e Q => Q e (.ty n)
theorem sim_ty {n : String} : Sim T (wC (.ty n)) (vTy n) :=
  ⟨fun G S0 vals venv env S P Q ⟨O, hc, hvs⟩ hv hP => hP _ _ _ _ hv ⟨O, hc, hvs, rfl⟩⟩
/-! the text's constants -/
mutual
def pvD : PV → Option PyData
  | .non => some .none
  | .bl b => some (.bool b)
  | .int i => some (.int i)
  | .str x => some (.str x)
  | .tup xs => (pvDs xs).map .tuple
  | .ref _ => none
  | .ty _ => none
def pvDs : List PV → Option (List PyData)
  | [] => some []
  | x :: xs => match pvD x, pvDs xs with
    | some d, some ds => some (d :: ds)
    | _, _ => none
end
mutual
theorem pvD_rp {E : List Nat} {S : Store} : ∀ {x : PV} {d : PyData}, pvD x = some d → Rp E S d x
  | .non, d, h => by simp [pvD] at h; subst h; exact .non
  | .bl b, d, h => by simp [pvD] at h; subst h; exact .bl b
  | .int b, d, h => by simp [pvD] at h; subst h; exact .int b
  | .str b, d, h => by simp [pvD] at h; subst h; exact .str b
  | .tup xs, d, h => by
    unfold pvD at h
    obtain ⟨ds, h1, rfl⟩ := Option.map_eq_some_iff.mp h
    exact .tup (pvDs_rp h1)
  | .ref _, d, h => by simp [pvD] at h
  | .ty _, d, h => by simp [pvD] at h
theorem pvDs_rp {E : List Nat} {S : Store} : ∀ {xs : List PV} {ds : List PyData}, pvDs xs = some ds → Rps E S ds xs
  | [], ds, h => by simp [pvDs] at h; subst h; exact .nil
  | x :: xs, ds, h => by
    unfold pvDs at h
    split at h
    · rename_i d es h1 h2
      cases h
      exact .cons (pvD_rp h1) (pvDs_rp h2)
    · cases h
end
theorem sim_k {x : PV} {p : PyData} (h : pvD x = some p) : Sim T (wC x) (vC p) := sim_c fun _ _ => pvD_rp h

/-! operations -/
abbrev G2 := PyData → PyData → Option VV
def SimOp (f : F2) (g : G2) : Prop := ∀ (E : List Nat) (S : Store) (x y : PV) (p q : PyData) (r : VV), Rq E S p x → Rq E S q y → g p q = some r → ∃ z S', f x y S = some (z, S') ∧ OpRes E S r z S'
def optV (o : Option VV) (Q : VV → Prop) : Prop := match o with
  | some r => Q r
  | none => False
def dat2 (e : VEnv) (a b : VV) (g : G2) : Option VV := match dat e a, dat e b with
  | some p, some q => g p q
  | _, _ => none
def vOp (g : G2) (va vb : V) : V := fun e Q => va e fun e1 a => vb e1 fun e2 b => optV (dat2 e2 a b g) (Q e2)
theorem optV_some {o : Option VV} {Q : VV → Prop} (h : optV o Q) : ∃ r, o = some r ∧ Q r := by
  cases o with
  | none => exact h.elim
  | some r => exact ⟨r, rfl, h⟩
theorem sim_op {f : F2} {g : G2} (ho : SimOp f g) (ha : Sim T wa va) (hb : Sim T wb vb) : Sim T (wOp f wa wb) (vOp g va vb) := by
  refine ⟨fun G S0 vals venv env S P Q st hv hP => ?_⟩
  refine ha.run G S0 vals venv env S _ _ st hv fun e1 r x S1 h1 r1 => ?_
  refine hb.run G S0 _ e1 env S1 _ _ r1.pend h1 fun e2 r' y S2 h2 r2 => ?_
  obtain ⟨O, hc, hvs⟩ := r2.pend
  obtain ⟨s, hs, hq⟩ := optV_some h2
  unfold dat2 at hs
  split at hs
  · rename_i p q hp hq'
    have rx := dat_rq hc (hvs (pl r, x) (by simp)) (by rw [dat_pl]; exact hp)
    have ry := dat_rq hc (hvs (pl r', y) (by simp)) (by rw [dat_pl]; exact hq')
    obtain ⟨z, S', hf, o⟩ := ho _ _ _ _ _ _ _ rx ry hs
    show opt (f x y S2) P
    rw [hf]
    exact hP _ _ _ _ hq (op_res hc (fun v hv => hvs v (by simp [hv])) o)
  · cases hs
end
end Vl
set_option Elab.async false
set_option linter.all false
set_option maxRecDepth 100000
/-! Vt3: operations, displays, built-ins, tests, slices, texts. -/
namespace Vl
open PySem PySem.Spec PyProof.Rows L2 Lt
section
variable {E : List Nat} {S : Store}
theorem OpRes.data {p : PyData} {z : PV} (h : Rp E S p z) : OpRes E S (.d p) z S := .inl ⟨p, rfl, .refl, h⟩
theorem OpRes.new {ds : List PyData} {xs : List PV} (h : Rps E S ds xs) : OpRes E S (.fr ds) (.ref S.length) (S ++ [.lst xs]) := .inr ⟨ds, xs, rfl, rfl, rfl, h⟩
end
/-! ### operations -/
def vAdd : G2
  | .int i, .int j => some (.d (.int (i + j)))
  | .str x, .str y => if x.length + y.length ≤ 16777216 then some (.d (.str (x ++ y))) else none
  | .tuple a, .tuple b => if a.length + b.length ≤ 16777216 then some (.d (.tuple (a ++ b))) else none
  | .list a, .list b => if a.length + b.length ≤ 16777216 then some (.fr (a ++ b)) else none
  | _, _ => none
theorem fAdd_ssV {x y : Str} {S : Store} (h : x.length + y.length ≤ 16777216) : fAdd (.str x) (.str y) S = some (.str (x ++ y), S) := cut_ok h
theorem sim_add : SimOp fAdd vAdd := by
  intro E S x y p q r hx hy h
  unfold vAdd at h
  split at h
  · cases h; cases hx.int; cases hy.int
    exact ⟨_, _, rfl, .data (.int _)⟩
  · cases hx.str; cases hy.str
    obtain ⟨c, rfl⟩ := ite_some' h
    exact ⟨_, _, fAdd_ssV c, .data (.str _)⟩
  · obtain ⟨xs, rfl, q1⟩ := hx.tuple
    obtain ⟨ys, rfl, q2⟩ := hy.tuple
    obtain ⟨c, rfl⟩ := ite_some' h
    exact ⟨_, _, fAdd_tt (by rw [← q1.length, ← q2.length]; exact c), .data (.tup (q1.append q2))⟩
  · obtain ⟨n, xs, rfl, h1, q1⟩ := hx.list
    obtain ⟨m, ys, rfl, h2, q2⟩ := hy.list
    obtain ⟨c, rfl⟩ := ite_some' h
    exact ⟨_, _, fAdd_ll h1 h2 (by rw [← q1.length, ← q2.length]; exact c), .new (q1.append q2)⟩
  · cases h
def pvS : PV → Option PyData
  | .non => some .none
  | .bl b => some (.bool b)
  | .int i => some (.int i)
  | .str x => some (.str x)
  | _ => none
theorem pvS_rp {E : List Nat} {S : Store} {z : PV} {d : PyData} (h : pvS z = some d) : Rp E S d z := by
  unfold pvS at h
  split at h <;> cases h
  · exact .non
  · exact .bl _
  · exact .int _
  · exact .str _
def vI (g : Int → Int → Option PV) : G2
  | .int i, .int j => match g i j with
    | some z => (pvS z).map .d
    | none => none
  | _, _ => none
theorem sim_I (g : Int → Int → Option PV) : SimOp (fI g) (vI g) := by
  intro E S x y p q r hx hy h
  unfold vI at h
  split at h
  · cases hx.int; cases hy.int
    split at h
    · rename_i z hz
      obtain ⟨d, hd, rfl⟩ := Option.map_eq_some_iff.mp h
      exact ⟨z, S, by rw [fI_ii, hz]; rfl, .data (pvS_rp hd)⟩
    · cases h
  · cases h
def eqD (p q : PyData) : Option Bool := match p, q with
  | .int i, .int j => some (decide (i = j))
  | .str i, .str j => some (decide (i = j))
  | .bool i, .bool j => some (decide (i = j))
  | .none, .none => some true
  | p, q => if SeqAt.shaped p = true ∧ SeqAt.shaped q = true then some (PyData.eqv p q) else none
theorem shaped_depth {d : PyData} (h : SeqAt.shaped d = true) : d.depth < 66 := by
  have h' : (d.canLay0 && decide (d.depth ≤ 64)) = true := h
  rw [Bool.and_eq_true, decide_eq_true_eq] at h'
  omega
theorem eqP_eqD {E : List Nat} {S : Store} {x y : PV} {p q : PyData} {b : Bool} (hx : Rq E S p x) (hy : Rq E S q y) (h : eqD p q = some b) : eqP x y S = some b := by
  have hx0 := hx.rp0
  have hy0 := hy.rp0
  unfold eqD at h
  split at h
  · cases hx0; cases hy0; exact h
  · cases hx0; cases hy0; exact h
  · cases hx0; cases hy0; exact h
  · cases hx0; cases hy0; exact h
  · rename_i n1 n2 n3 n4
    obtain ⟨⟨c1, c2⟩, rfl⟩ := ite_some' h
    have d1 := hx0.toD 66 (shaped_depth c1)
    have d2 := hy0.toD 66 (shaped_depth c2)
    unfold eqP
    split
    · cases hx0; cases hy0; exact (n1 _ _ rfl rfl).elim
    · cases hx0; cases hy0; exact (n2 _ _ rfl rfl).elim
    · cases hx0; cases hy0; exact (n3 _ _ rfl rfl).elim
    · cases hx0; cases hy0; exact (n4 rfl rfl).elim
    · simp only [d1, d2]
      rw [if_pos ⟨c1, c2⟩]
def vEq : G2 := fun p q => (eqD p q).map fun b => .d (.bool b)
def vNe : G2 := fun p q => (eqD p q).map fun b => .d (.bool (!b))
theorem sim_eq : SimOp fEq vEq := by
  intro E S x y p q r hx hy h
  obtain ⟨b, hb, rfl⟩ := Option.map_eq_some_iff.mp h
  exact ⟨.bl b, S, by show (eqP x y S).map _ = _; rw [eqP_eqD hx hy hb]; rfl, .data (.bl _)⟩
theorem sim_ne : SimOp fNe vNe := by
  intro E S x y p q r hx hy h
  obtain ⟨b, hb, rfl⟩ := Option.map_eq_some_iff.mp h
  exact ⟨.bl (!b), S, by show (eqP x y S).map _ = _; rw [eqP_eqD hx hy hb]; rfl, .data (.bl _)⟩
def isNoneD : PyData → Bool
  | .none => true
  | _ => false
theorem isNon_of {E : List Nat} {S : Store} {p : PyData} {x : PV} (h : Rp E S p x) : isNon x = isNoneD p := by cases h <;> rfl
def vIs : G2 := fun p q => match q with
  | .none => some (.d (.bool (isNoneD p)))
  | _ => none
def vIsNot : G2 := fun p q => match q with
  | .none => some (.d (.bool (!isNoneD p)))
  | _ => none
theorem sim_is : SimOp fIs vIs := by
  intro E S x y p q r hx hy h
  unfold vIs at h
  split at h
  · cases h; cases hy.none
    exact ⟨_, _, rfl, .data (by rw [isNon_of hx.rp0]; exact .bl _)⟩
  · cases h
theorem sim_isNot : SimOp fIsNot vIsNot := by
  intro E S x y p q r hx hy h
  unfold vIsNot at h
  split at h
  · cases h; cases hy.none
    exact ⟨_, _, rfl, .data (by rw [isNon_of hx.rp0]; exact .bl _)⟩
  · cases h
def vIx : G2
  | .tuple ds, .int i => (atI ds i).map .d
  | .list ds, .int i => (atI ds i).map .d
  | .str z, .int i => if z.length ≤ sizeLine then (atI z.cps.toList i).map fun c => .d (.str ⟨#[c]⟩) else none
  | _, _ => none
theorem atI_rps {E : List Nat} {S : Store} {ds : List PyData} {xs : List PV} {i : Int} {d : PyData} (r : Rps E S ds xs) (h : atI ds i = some d) : ∃ x, atI xs i = some x ∧ Rp E S d x := by
  unfold atI at h ⊢
  rw [← r.length]
  cases e : ixN ds.length i with
  | none => rw [e] at h; cases h
  | some j =>
    rw [e] at h
    obtain ⟨v, h1, h2⟩ := r.get (show ds[j]? = some d from h)
    exact ⟨v, h1, h2⟩
theorem sim_ix : SimOp fIx vIx := by
  intro E S x y p q r hx hy h
  unfold vIx at h
  split at h
  · obtain ⟨xs, rfl, q1⟩ := hx.tuple
    cases hy.int
    obtain ⟨d, hd, rfl⟩ := Option.map_eq_some_iff.mp h
    obtain ⟨z, hz, qz⟩ := atI_rps q1 hd
    exact ⟨z, S, by show (atI xs _).map _ = _; rw [hz]; rfl, .data qz⟩
  · obtain ⟨n, xs, rfl, h1, q1⟩ := hx.list
    cases hy.int
    obtain ⟨d, hd, rfl⟩ := Option.map_eq_some_iff.mp h
    obtain ⟨z, hz, qz⟩ := atI_rps q1 hd
    exact ⟨z, S, by unfold fIx; simp only [h1, Cell.items, hz]; rfl, .data qz⟩
  · cases hx.str
    cases hy.int
    obtain ⟨c, h⟩ := ite_some2 h
    obtain ⟨d, hd, rfl⟩ := Option.map_eq_some_iff.mp h
    exact ⟨_, S, by unfold fIx; simp only [if_pos c, hd]; rfl, .data (.str _)⟩
  · cases h
def keyOfD : PyData → Option Key
  | .int i => some (.inl i)
  | .str x => some (.inr x)
  | _ => none
theorem keyOfD_k (k : Key) : keyOfD (keyD k) = some k := by cases k <;> rfl
theorem keyOfD_of {p : PyData} {k : Key} (h : keyOfD p = some k) : p = keyD k := by
  unfold keyOfD at h
  split at h <;> cases h <;> rfl
def lookD (k : Key) : List (PyData × PyData) → Option PyData
  | [] => none
  | (j, x) :: r => if keyOfD j = some k then some x else lookD k r
theorem Rpk.look {E : List Nat} {S : Store} {k : Key} : ∀ {kvs : List (PyData × PyData)} {us : List (Key × PV)} {d : PyData}, Rpk E S kvs us → lookD k kvs = some d → ∃ x, lookK k us = some x ∧ Rp E S d x
  | _, _, _, .nil, h => by cases h
  | _, _, _, .cons (k := j) r t, h => by
    unfold lookD at h
    rw [keyOfD_k] at h
    by_cases e : j = k
    · subst e
      rw [if_pos rfl] at h
      cases h
      exact ⟨_, by unfold lookK; rw [if_pos rfl], r⟩
    · rw [if_neg (fun z => e (Option.some.inj z))] at h
      obtain ⟨x, h1, h2⟩ := t.look h
      exact ⟨x, by unfold lookK; rw [if_neg e]; exact h1, h2⟩
def vGet : G2 := fun p q => match p, keyOfD q with
  | .dict kvs, some k => (lookD k kvs).map .d
  | _, _ => none
theorem keyOf_rp {E : List Nat} {S : Store} {q : PyData} {y : PV} {k : Key} (h : Rp E S q y) (e : keyOfD q = some k) : keyOf y = some k := by
  cases h <;> cases e <;> rfl
theorem sim_get : SimOp fGet vGet := by
  intro E S x y p q r hx hy h
  unfold vGet at h
  split at h
  · rename_i kvs k hk
    obtain ⟨n, us, rfl, h1, q1⟩ := hx.dict
    obtain ⟨d, hd, rfl⟩ := Option.map_eq_some_iff.mp h
    obtain ⟨z, hz, qz⟩ := q1.look hd
    exact ⟨z, S, by unfold fGet; simp only [keyOf_rp hy.rp0 hk, h1, hz]; rfl, .data qz⟩
  · cases h
def vRep : G2
  | .list ds, .int k => if (-(2 ^ 63) ≤ k ∧ k < 2 ^ 63) ∧ ds.length * k.toNat ≤ sizeLine then some (.fr (List.replicate k.toNat ds).flatten) else none
  | _, _ => none
theorem sim_rep : SimOp fRep vRep := by
  intro E S x y p q r hx hy h
  unfold vRep at h
  split at h
  · obtain ⟨n, xs, rfl, h1, q1⟩ := hx.list
    cases hy.int
    obtain ⟨c, rfl⟩ := ite_some' h
    refine ⟨_, _, ?_, .new (q1.rep _)⟩
    unfold fRep
    simp only [h1]
    rw [if_pos ⟨c.1, by rw [← q1.length]; exact c.2⟩]
  · cases h

/-! ### several values -/
def allS : List VV → Option (List PyData)
  | [] => some []
  | v :: vs => match stab v, allS vs with
    | some p, some ps => some (p :: ps)
    | _, _ => none
def allD (e : VEnv) : List VV → Option (List PyData)
  | [] => some []
  | v :: vs => match dat e v, allD e vs with
    | some p, some ps => some (p :: ps)
    | _, _ => none
section
variable {T : Tok} {G : Gd T} {S0 S S' : Store} {O : List Nat} {venv : VEnv} {env : PEnv} {vals : Vals} {w wa wb wc : W} {v va vb vc : V} {ws : WA} {vs : VA}
theorem allS_rps : ∀ {vs : List VV} {xs : List PV} {ps : List PyData}, RVs2 G O venv env S (vs.zip xs ++ vals) → vs.length = xs.length → allS vs = some ps → Rps (O ++ G.cells) S ps xs
  | [], [], _, _, _, h => by cases h; exact .nil
  | v :: vs, x :: xs, ps, hv, hl, h => by
    unfold allS at h
    split at h
    · rename_i p qs h1 h2
      cases h
      exact .cons (stab_rp (hv (v, x) (by simp)) h1) (allS_rps (fun u hu => hv u (by simp only [List.zip_cons_cons, List.cons_append]; exact List.mem_cons_of_mem _ hu)) (by simpa using hl) h2)
    · cases h
  | [], _ :: _, _, _, hl, _ => by simp at hl
  | _ :: _, [], _, _, hl, _ => by simp at hl
theorem allD_rqs : ∀ {vs : List VV} {xs : List PV} {ps : List PyData}, Core G S0 O venv env S → RVs2 G O venv env S (vs.zip xs ++ vals) → vs.length = xs.length → allD venv vs = some ps → Rqs (O ++ G.cells) S ps xs
  | [], [], _, _, _, _, h => by cases h; exact .nil
  | v :: vs, x :: xs, ps, hc, hv, hl, h => by
    unfold allD at h
    split at h
    · rename_i p qs h1 h2
      cases h
      exact .cons (dat_rq hc (hv (v, x) (by simp)) h1) (allD_rqs hc (fun u hu => hv u (by simp only [List.zip_cons_cons, List.cons_append]; exact List.mem_cons_of_mem _ hu)) (by simpa using hl) h2)
    · cases h
  | [], _ :: _, _, _, _, hl, _ => by simp at hl
  | _ :: _, [], _, _, _, hl, _ => by simp at hl
theorem vals_tail {vs : List VV} {xs : List PV} (h : RVs2 G O venv env S (vs.zip xs ++ vals)) : RVs2 G O venv env S vals := fun v hv => h v (List.mem_append_right _ hv)
def someD (o : Option (List PyData)) (Q : List PyData → Prop) : Prop := match o with
  | some ds => Q ds
  | none => False
theorem someD_of {o : Option (List PyData)} {Q : List PyData → Prop} (h : someD o Q) : ∃ ds, o = some ds ∧ Q ds := by
  cases o with
  | none => exact h.elim
  | some r => exact ⟨r, rfl, h⟩
def vTup (vs : VA) : V := fun e Q => vs e fun e1 us => someD (allS us) fun ds => ds.length ≤ sizeLine ∧ Q e1 (.d (.tuple ds))
def vLst (vs : VA) : V := fun e Q => vs e fun e1 us => someD (allS us) fun ds => ds.length ≤ sizeLine ∧ Q e1 (.fr ds)
theorem sim_tup (h : SimA T ws vs) : Sim T (wTup ws) (vTup vs) := by
  refine ⟨fun G S0 vals venv env S P Q st hv hP => ?_⟩
  refine h.run G S0 vals venv env S _ _ st hv fun e1 us xs S1 h1 hl st1 => ?_
  obtain ⟨ds, hd, hle, hq⟩ := someD_of h1
  obtain ⟨O, hc, hvs⟩ := st1
  have r := allS_rps hvs hl hd
  exact ⟨by rw [← r.length]; exact hle, hP _ _ _ _ hq (op_res hc (vals_tail hvs) (.data (.tup r)))⟩
theorem sim_lst (h : SimA T ws vs) : Sim T (wLst ws) (vLst vs) := by
  refine ⟨fun G S0 vals venv env S P Q st hv hP => ?_⟩
  refine h.run G S0 vals venv env S _ _ st hv fun e1 us xs S1 h1 hl st1 => ?_
  obtain ⟨ds, hd, hle, hq⟩ := someD_of h1
  obtain ⟨O, hc, hvs⟩ := st1
  have r := allS_rps hvs hl hd
  exact ⟨by rw [← r.length]; exact hle, hP _ _ _ _ hq (op_res hc (vals_tail hvs) (.new r))⟩

/-! ### built-ins -/
abbrev GB := List PyData → Option VV
def SimB (f : FB) (g : GB) : Prop := ∀ (E : List Nat) (S : Store) (xs : List PV) (ps : List PyData) (r : VV), Rqs E S ps xs → g ps = some r → ∃ z S', f xs S = some (z, S') ∧ OpRes E S r z S'
def vCall (g : GB) (vs : VA) : V := fun e Q => vs e fun e1 us => someD (allD e1 us) fun ds => optV (g ds) (Q e1)
theorem sim_call {f : FB} {g : GB} (ho : SimB f g) (h : SimA T ws vs) : Sim T (wCall f ws) (vCall g vs) := by
  refine ⟨fun G S0 vals venv env S P Q st hv hP => ?_⟩
  refine h.run G S0 vals venv env S _ _ st hv fun e1 us xs S1 h1 hl st1 => ?_
  obtain ⟨ds, hd, h2⟩ := someD_of h1
  obtain ⟨r, hr, hq⟩ := optV_some h2
  obtain ⟨O, hc, hvs⟩ := st1
  obtain ⟨z, S', hf, o⟩ := ho _ _ _ _ _ (allD_rqs hc hvs hl hd) hr
  show opt (f xs S1) P
  rw [hf]
  exact hP _ _ _ _ hq (op_res hc (vals_tail hvs) o)
theorem rqs1 {E : List Nat} {p : PyData} {xs : List PV} (h : Rqs E S [p] xs) : ∃ x, xs = [x] ∧ Rq E S p x := by
  cases h with
  | cons h t => cases t; exact ⟨_, rfl, h⟩
theorem rqs2 {E : List Nat} {p q : PyData} {xs : List PV} (h : Rqs E S [p, q] xs) : ∃ x y, xs = [x, y] ∧ Rq E S p x ∧ Rq E S q y := by
  cases h with
  | cons h t => obtain ⟨y, rfl, h2⟩ := rqs1 t; exact ⟨_, y, rfl, h, h2⟩
def vLen : GB
  | [.str x] => if x.length ≤ sizeLine then some (.d (.int x.length)) else none
  | [.tuple ds] => some (.d (.int ds.length))
  | [.list ds] => some (.d (.int ds.length))
  | _ => none
theorem sim_len : SimB bLen vLen := by
  intro E S xs ps r hx h
  unfold vLen at h
  split at h
  · obtain ⟨x, rfl, q⟩ := rqs1 hx
    cases q.str
    obtain ⟨c, rfl⟩ := ite_some' h
    exact ⟨_, _, if_pos c, .data (.int _)⟩
  · obtain ⟨x, rfl, q⟩ := rqs1 hx
    obtain ⟨ys, rfl, q1⟩ := q.tuple
    cases h
    exact ⟨_, _, rfl, .data (by rw [← q1.length]; exact .int _)⟩
  · obtain ⟨x, rfl, q⟩ := rqs1 hx
    obtain ⟨n, ys, rfl, h1, q1⟩ := q.list
    cases h
    exact ⟨_, _, bLen_l h1 rfl, .data (by rw [← q1.length]; exact .int _)⟩
  · cases h
def vInt : GB
  | [.int i] => some (.d (.int i))
  | [.bool b] => some (.d (.int (if b then 1 else 0)))
  | _ => none
theorem sim_bint : SimB bInt vInt := by
  intro E S xs ps r hx h
  unfold vInt at h
  split at h
  · obtain ⟨x, rfl, q⟩ := rqs1 hx
    cases q.int; cases h
    exact ⟨_, _, rfl, .data (.int _)⟩
  · obtain ⟨x, rfl, q⟩ := rqs1 hx
    cases q.bool; cases h
    exact ⟨_, _, rfl, .data (.int _)⟩
  · cases h
def vAbs : GB
  | [.int i] => some (.d (.int (if i < 0 then -i else i)))
  | _ => none
theorem sim_abs : SimB bAbs vAbs := by
  intro E S xs ps r hx h
  unfold vAbs at h
  split at h
  · obtain ⟨x, rfl, q⟩ := rqs1 hx
    cases q.int; cases h
    exact ⟨_, _, rfl, .data (.int _)⟩
  · cases h
def vMin : GB
  | [.int i, .int j] => some (.d (.int (if j < i then j else i)))
  | _ => none
theorem sim_min : SimB bMin vMin := by
  intro E S xs ps r hx h
  unfold vMin at h
  split at h
  · obtain ⟨x, y, rfl, q, q'⟩ := rqs2 hx
    cases q.int; cases q'.int; cases h
    exact ⟨_, _, rfl, .data (.int _)⟩
  · cases h
def vMax : GB
  | [.int i, .int j] => some (.d (.int (if j > i then j else i)))
  | _ => none
theorem sim_max : SimB bMax vMax := by
  intro E S xs ps r hx h
  unfold vMax at h
  split at h
  · obtain ⟨x, y, rfl, q, q'⟩ := rqs2 hx
    cases q.int; cases q'.int; cases h
    exact ⟨_, _, rfl, .data (.int _)⟩
  · cases h
def vRepr : GB
  | [d] => if d.showable = true ∧ d.depth ≤ 60 ∧ d.shown.length ≤ sizeLine then some (.d (.str d.shown)) else none
  | _ => none
theorem sim_repr : SimB bReprA vRepr := by
  intro E S xs ps r hx h
  unfold vRepr at h
  split at h
  · obtain ⟨x, rfl, q⟩ := rqs1 hx
    obtain ⟨c, rfl⟩ := ite_some' h
    refine ⟨_, _, ?_, .data (.str _)⟩
    unfold bReprA
    simp only [q.rp0.toD 66 (by omega)]
    exact if_pos c
  · cases h
def vListB : GB
  | [.list ds] => some (.fr ds)
  | [.tuple ds] => some (.fr ds)
  | _ => none
theorem sim_listB : SimB bList vListB := by
  intro E S xs ps r hx h
  unfold vListB at h
  split at h
  · obtain ⟨x, rfl, q⟩ := rqs1 hx
    cases h
    obtain ⟨ys, h1, q1⟩ := q.seq (ds := _) rfl
    exact ⟨_, _, by show (seqOf x S).map _ = _; rw [h1]; rfl, .new q1⟩
  · obtain ⟨x, rfl, q⟩ := rqs1 hx
    cases h
    obtain ⟨ys, h1, q1⟩ := q.seq (ds := _) rfl
    exact ⟨_, _, by show (seqOf x S).map _ = _; rw [h1]; rfl, .new q1⟩
  · cases h
def vTupleB : GB
  | [.list ds] => some (.d (.tuple ds))
  | [.tuple ds] => some (.d (.tuple ds))
  | _ => none
theorem sim_tupleB : SimB bTuple vTupleB := by
  intro E S xs ps r hx h
  unfold vTupleB at h
  split at h
  · obtain ⟨x, rfl, q⟩ := rqs1 hx
    cases h
    obtain ⟨ys, h1, q1⟩ := q.seq (ds := _) rfl
    exact ⟨_, _, by show (seqOf x S).map _ = _; rw [h1]; rfl, .data (.tup q1)⟩
  · obtain ⟨x, rfl, q⟩ := rqs1 hx
    cases h
    obtain ⟨ys, h1, q1⟩ := q.seq (ds := _) rfl
    exact ⟨_, _, by show (seqOf x S).map _ = _; rw [h1]; rfl, .data (.tup q1)⟩
  · cases h
def tyD : PyData → String
  | .none => "NoneType"
  | .bool _ => "bool"
  | .int _ => "int"
  | .str _ => "str"
  | .tuple _ => "tuple"
  | .list _ => "list"
  | .dict _ => "dict"
theorem tyN_D {E : List Nat} {p : PyData} {x : PV} (h : Rp E S p x) : tyN x S = some (tyD p) := by
  cases h with
  | lst hn hs h => unfold tyN; simp only [hs]; rfl
  | dic hn hs h => unfold tyN; simp only [hs]; rfl
  | _ => rfl
def optB (o : Option Bool) (Q : Bool → Prop) : Prop := match o with
  | some b => Q b
  | none => False
theorem optB_some {o : Option Bool} {Q : Bool → Prop} (h : optB o Q) : ∃ r, o = some r ∧ Q r := by
  cases o with
  | none => exact h.elim
  | some r => exact ⟨r, rfl, h⟩
def someP (o : Option PyData) (Q : PyData → Prop) : Prop := match o with
  | some ds => Q ds
  | none => False
theorem someP_of {o : Option PyData} {Q : PyData → Prop} (h : someP o Q) : ∃ ds, o = some ds ∧ Q ds := by
  cases o with
  | none => exact h.elim
  | some r => exact ⟨r, rfl, h⟩
/-- isinstance(a, T) -/
def vIsi (t : String) (va : V) : V := fun e Q => va e fun e1 a => someP (dat e1 a) fun p => optB (kitB (tyD p) t) fun b => Q e1 (.d (.bool b))
theorem sim_isi {t : String} (ha : Sim T wa va) : Sim T (wCall bIsi (wCons wa (wCons (wC (.ty t)) wNil))) (vIsi t va) := by
  refine ⟨fun G S0 vals venv env S P Q st hv hP => ?_⟩
  refine ha.run G S0 vals venv env S _ _ st hv fun e1 r x S1 h1 r1 => ?_
  obtain ⟨O, hc, hvs⟩ := r1.pend
  obtain ⟨p, hp, h2⟩ := someP_of h1
  obtain ⟨b, hb, hq⟩ := optB_some h2
  have rx := dat_rq hc (hvs (pl r, x) (by simp)) (by rw [dat_pl]; exact hp)
  show opt (bIsi [x, .ty t] S1) P
  unfold bIsi
  simp only [tyN_D rx.rp0, hb]
  exact hP _ _ _ _ hq (op_res hc (fun v hv => hvs v (by simp [hv])) (.data (.bl b)))

/-! ### tests -/
abbrev VT := VEnv → (VEnv → Bool → Prop) → Prop
structure SimT (T : Tok) (w : WT) (v : VT) : Prop where
  run : ∀ (G : Gd T) (S0 : Store) (vals : Vals) (venv : VEnv) (env : PEnv) (S : Store) (P : Bool → Store → Prop) (Q : VEnv → Bool → Prop), St G S0 vals venv env S → v venv Q → (∀ venv' b S', Q venv' b → St G S0 vals venv' env S' → P b S') → w env S P
variable {wt wu : WT} {vt vu : VT}
def asB (r : VV) (Q : Bool → Prop) : Prop := match r with
  | .d (.bool b) => Q b
  | _ => False
theorem asB_of {r : VV} {Q : Bool → Prop} (h : asB r Q) : ∃ b, r = .d (.bool b) ∧ Q b := by
  unfold asB at h
  split at h
  · exact ⟨_, rfl, h⟩
  · exact h.elim
def vB (va : V) : VT := fun e Q => va e fun e1 r => asB r (Q e1)
theorem sim_B (ha : Sim T wa va) : SimT T (wB wa) (vB va) := by
  refine ⟨fun G S0 vals venv env S P Q st hv hP => ?_⟩
  refine ha.run G S0 vals venv env S _ _ st hv fun e1 r x S1 h1 r1 => ?_
  obtain ⟨b, rfl, hq⟩ := asB_of h1
  obtain ⟨O, hc, hvs, hd⟩ := r1
  cases (show x = .bl b from by cases (show Rp _ _ _ _ from hd); rfl)
  exact hP _ _ _ hq ⟨O, hc, hvs⟩
def truD : PyData → Option Bool
  | .none => some false
  | .bool b => some b
  | .int i => some (i != 0)
  | .str y => if y.length ≤ sizeLine then some ((y.length : Int) != 0) else none
  | .tuple ds => some (!ds.isEmpty)
  | .list ds => some (!ds.isEmpty)
  | .dict ds => some (!ds.isEmpty)
theorem Rps.isEmpty {E : List Nat} {ds : List PyData} {xs : List PV} (h : Rps E S ds xs) : xs.isEmpty = ds.isEmpty := by cases h <;> rfl
theorem Rpk.isEmpty {E : List Nat} {ds : List (PyData × PyData)} {xs : List (Key × PV)} (h : Rpk E S ds xs) : xs.isEmpty = ds.isEmpty := by cases h <;> rfl
theorem tru_D {E : List Nat} {p : PyData} {x : PV} {b : Bool} (h : Rp E S p x) (e : truD p = some b) : tru x S = some b := by
  cases h with
  | lst hn hs h => unfold tru; simp only [hs, h.isEmpty]; exact e
  | dic hn hs h => unfold tru; simp only [hs, h.isEmpty]; exact e
  | tup h => unfold tru; simp only [h.isEmpty]; exact e
  | _ => exact e
def vTru (va : V) : VT := fun e Q => va e fun e1 a => someP (dat e1 a) fun p => optB (truD p) (Q e1)
theorem sim_tru (ha : Sim T wa va) : SimT T (wTru wa) (vTru va) := by
  refine ⟨fun G S0 vals venv env S P Q st hv hP => ?_⟩
  refine ha.run G S0 vals venv env S _ _ st hv fun e1 r x S1 h1 r1 => ?_
  obtain ⟨O, hc, hvs⟩ := r1.pend
  obtain ⟨p, hp, h2⟩ := someP_of h1
  obtain ⟨b, hb, hq⟩ := optB_some h2
  have rx := dat_rq hc (hvs (pl r, x) (by simp)) (by rw [dat_pl]; exact hp)
  simp only [tru_D rx.rp0 hb]
  exact hP _ _ _ hq ⟨O, hc, fun v hv => hvs v (by simp [hv])⟩
def vNot (t : VT) : VT := fun e Q => t e fun e1 b => Q e1 (!b)
theorem sim_not (h : SimT T wt vt) : SimT T (wNot wt) (vNot vt) :=
  ⟨fun G S0 vals venv env S P Q st hv hP => h.run G S0 vals venv env S _ _ st hv fun e1 b S1 h1 st1 => hP _ _ _ h1 st1⟩
def vAndT (t u : VT) : VT := fun e Q => t e fun e1 b => match b with
  | true => u e1 Q
  | false => Q e1 false
def vOrT (t u : VT) : VT := fun e Q => t e fun e1 b => match b with
  | true => Q e1 true
  | false => u e1 Q
theorem sim_andT (h : SimT T wt vt) (h2 : SimT T wu vu) : SimT T (wAndT wt wu) (vAndT vt vu) := by
  refine ⟨fun G S0 vals venv env S P Q st hv hP => h.run G S0 vals venv env S _ _ st hv fun e1 b S1 h1 st1 => ?_⟩
  cases b with
  | true => exact h2.run G S0 vals e1 env S1 _ _ st1 h1 hP
  | false => exact hP _ _ _ h1 st1
theorem sim_orT (h : SimT T wt vt) (h2 : SimT T wu vu) : SimT T (wOrT wt wu) (vOrT vt vu) := by
  refine ⟨fun G S0 vals venv env S P Q st hv hP => h.run G S0 vals venv env S _ _ st hv fun e1 b S1 h1 st1 => ?_⟩
  cases b with
  | false => exact h2.run G S0 vals e1 env S1 _ _ st1 h1 hP
  | true => exact hP _ _ _ h1 st1
theorem Res.st {r : VV} {x : PV} (h : Res G S0 vals venv env S r x) : St G S0 vals venv env S := by
  obtain ⟨O, a, b, c⟩ := h
  exact ⟨O, a, b⟩
theorem Res.bool {b : Bool} {x : PV} (h : Res G S0 vals venv env S (.d (.bool b)) x) : x = .bl b := by
  obtain ⟨O, a, b, c⟩ := h
  cases (show Rp _ _ _ _ from c); rfl
def vAnd (a b : V) : V := fun e Q => a e fun e1 r => asB r fun c => match c with
  | true => b e1 Q
  | false => Q e1 (.d (.bool false))
def vOr (a b : V) : V := fun e Q => a e fun e1 r => asB r fun c => match c with
  | true => Q e1 (.d (.bool true))
  | false => b e1 Q
def vNotV (a : V) : V := fun e Q => a e fun e1 r => asB r fun c => Q e1 (.d (.bool (!c)))
theorem sim_and (ha : Sim T wa va) (hb : Sim T wb vb) : Sim T (wAnd wa wb) (vAnd va vb) := by
  refine ⟨fun G S0 vals venv env S P Q st hv hP => ha.run G S0 vals venv env S _ _ st hv fun e1 r x S1 h1 r1 => ?_⟩
  obtain ⟨b, rfl, hq⟩ := asB_of h1
  cases r1.bool
  cases b with
  | true => exact hb.run G S0 vals e1 env S1 _ _ r1.st hq hP
  | false => exact hP _ _ _ _ hq r1
theorem sim_or (ha : Sim T wa va) (hb : Sim T wb vb) : Sim T (wOr wa wb) (vOr va vb) := by
  refine ⟨fun G S0 vals venv env S P Q st hv hP => ha.run G S0 vals venv env S _ _ st hv fun e1 r x S1 h1 r1 => ?_⟩
  obtain ⟨b, rfl, hq⟩ := asB_of h1
  cases r1.bool
  cases b with
  | false => exact hb.run G S0 vals e1 env S1 _ _ r1.st hq hP
  | true => exact hP _ _ _ _ hq r1
theorem Res.data {p : PyData} {x : PV} (st : St G S0 vals venv env S) (h : ∀ E, Rp E S p x) : Res G S0 vals venv env S (.d p) x := by
  obtain ⟨O, a, b⟩ := st
  exact ⟨O, a, b, h _⟩
theorem sim_notV (ha : Sim T wa va) : Sim T (wNotV wa) (vNotV va) := by
  refine ⟨fun G S0 vals venv env S P Q st hv hP => ha.run G S0 vals venv env S _ _ st hv fun e1 r x S1 h1 r1 => ?_⟩
  obtain ⟨b, rfl, hq⟩ := asB_of h1
  cases r1.bool
  exact hP _ _ _ _ hq (.data r1.st fun _ => .bl _)
def vNeg (a : V) : V := fun e Q => a e fun e1 r => match r with
  | .d (.int i) => Q e1 (.d (.int (-i)))
  | _ => False
theorem sim_neg (ha : Sim T wa va) : Sim T (wNeg wa) (vNeg va) := by
  refine ⟨fun G S0 vals venv env S P Q st hv hP => ha.run G S0 vals venv env S _ _ st hv fun e1 r x S1 h1 r1 => ?_⟩
  split at h1
  · rename_i i
    obtain ⟨O, a, b, c⟩ := id r1
    cases (show x = .int i from by cases (show Rp _ _ _ _ from c); rfl)
    exact hP _ _ _ _ h1 (.data r1.st fun _ => .int _)
  · exact h1.elim
def vIf (t : VT) (a b : V) : V := fun e Q => t e fun e1 c => match c with
  | true => a e1 Q
  | false => b e1 Q
theorem sim_if (h : SimT T wt vt) (ha : Sim T wa va) (hb : Sim T wb vb) : Sim T (wIf wt wa wb) (vIf vt va vb) := by
  refine ⟨fun G S0 vals venv env S P Q st hv hP => h.run G S0 vals venv env S _ _ st hv fun e1 b S1 h1 st1 => ?_⟩
  cases b with
  | true => exact ha.run G S0 vals e1 env S1 _ _ st1 h1 hP
  | false => exact hb.run G S0 vals e1 env S1 _ _ st1 h1 hP
/-- a op b op' c -/
def vCh (f g : G2) (va vb vc : V) : V := fun e Q => va e fun e1 a => vb e1 fun e2 b => optV (dat2 e2 a b f) fun r => asB r fun c => match c with
  | true => vc e2 fun e3 u => optV (dat2 e3 b u g) (Q e3)
  | false => Q e2 (.d (.bool false))
theorem sim_ch {f f' : F2} {g g' : G2} (ho : SimOp f g) (ho' : SimOp f' g') (ha : Sim T wa va) (hb : Sim T wb vb) (hcc : Sim T wc vc) : Sim T (wCh f f' wa wb wc) (vCh g g' va vb vc) := by
  refine ⟨fun G S0 vals venv env S P Q st hv hP => ?_⟩
  refine ha.run G S0 vals venv env S _ _ st hv fun e1 r x S1 h1 r1 => ?_
  refine hb.run G S0 _ e1 env S1 _ _ r1.pend h1 fun e2 r' y S2 h2 r2 => ?_
  obtain ⟨O, hc, hvs⟩ := r2.pend
  obtain ⟨s, hs, hq⟩ := optV_some h2
  unfold dat2 at hs
  split at hs
  · rename_i p q hp hq'
    have rx := dat_rq hc (hvs (pl r, x) (by simp)) (by rw [dat_pl]; exact hp)
    have ry := dat_rq hc (hvs (pl r', y) (by simp)) (by rw [dat_pl]; exact hq')
    obtain ⟨z, S', hf, o⟩ := ho _ _ _ _ _ _ _ rx ry hs
    show opt (f x y S2) _
    rw [hf]
    obtain ⟨b, rfl, hq⟩ := asB_of hq
    have rr : Res G S0 ((pl r', y) :: vals) e2 env S' (.d (.bool b)) z := op_res hc (fun v hv => hvs v (by simp only [List.mem_cons] at hv ⊢; rcases hv with hv | hv; exact .inl hv; exact .inr (.inr hv))) o
    cases rr.bool
    cases b with
    | false =>
      obtain ⟨O', a', b', c'⟩ := rr
      exact hP _ _ _ _ hq ⟨O', a', fun v hv => b' v (List.mem_cons_of_mem _ hv), c'⟩
    | true =>
      refine hcc.run G S0 _ e2 env S' _ _ rr.st hq fun e3 u t S3 h3 r3 => ?_
      obtain ⟨O3, hc3, hvs3⟩ := r3.pend
      obtain ⟨s3, hs3, hq3⟩ := optV_some h3
      unfold dat2 at hs3
      split at hs3
      · rename_i p3 q3 hp3 hq3'
        have rx3 := dat_rq hc3 (hvs3 (pl r', y) (by simp)) (by rw [dat_pl]; exact hp3)
        have ry3 := dat_rq hc3 (hvs3 (pl u, t) (by simp)) (by rw [dat_pl]; exact hq3')
        obtain ⟨z3, S4, hf3, o3⟩ := ho' _ _ _ _ _ _ _ rx3 ry3 hs3
        show opt (f' y t S3) P
        rw [hf3]
        exact hP _ _ _ _ hq3 (op_res hc3 (fun v hv => hvs3 v (by simp [hv])) o3)
      · cases hs3
  · cases hs

/-! ### slices -/
abbrev VO := VEnv → (VEnv → Option Int → Prop) → Prop
structure SimO (T : Tok) (w : WO) (v : VO) : Prop where
  run : ∀ (G : Gd T) (S0 : Store) (vals : Vals) (venv : VEnv) (env : PEnv) (S : Store) (P : Option Int → Store → Prop) (Q : VEnv → Option Int → Prop), St G S0 vals venv env S → v venv Q → (∀ venv' b S', Q venv' b → St G S0 vals venv' env S' → P b S') → w env S P
def vNoP : VO := fun e Q => Q e none
def vP (a : V) : VO := fun e Q => a e fun e1 r => match r with
  | .d (.int i) => Q e1 (some i)
  | _ => False
theorem sim_noP : SimO T wNoP vNoP := ⟨fun G S0 vals venv env S P Q st hv hP => hP _ _ _ hv st⟩
theorem sim_P (ha : Sim T wa va) : SimO T (wP wa) (vP va) := by
  refine ⟨fun G S0 vals venv env S P Q st hv hP => ha.run G S0 vals venv env S _ _ st hv fun e1 r x S1 h1 r1 => ?_⟩
  split at h1
  · rename_i i
    obtain ⟨O, a, b, c⟩ := id r1
    cases (show x = .int i from by cases (show Rp _ _ _ _ from c); rfl)
    exact hP _ _ _ h1 r1.st
  · exact h1.elim
def cutD (xs : List PyData) (lo hi : Option Int) : List PyData := (xs.drop (HT.sIx xs.length 0 lo)).take (HT.sIx xs.length xs.length hi - HT.sIx xs.length 0 lo)
theorem cut_rps {E : List Nat} {ds : List PyData} {xs : List PV} {lo hi : Option Int} (r : Rps E S ds xs) : Rps E S (cutD ds lo hi) (cutP xs lo hi) := by
  unfold cutP cutD
  rw [r.length]
  exact (r.drop _).take _
def vSlG : PyData → Option Int → Option Int → Option VV
  | .tuple ds, lo, hi => some (.d (.tuple (cutD ds lo hi)))
  | .list ds, lo, hi => some (.fr (cutD ds lo hi))
  | .str z, lo, hi => if z.length ≤ sizeLine then some (.d (.str (cutS z lo hi))) else none
  | _, _, _ => none
def vSl (va : V) (vl vh : VO) : V := fun e Q => va e fun e1 a => vl e1 fun e2 l => vh e2 fun e3 h => someP (dat e3 a) fun p => optV (vSlG p l h) (Q e3)
theorem sim_sl {wl wh : WO} {vl vh : VO} (ha : Sim T wa va) (hl : SimO T wl vl) (hh : SimO T wh vh) : Sim T (wSl wa wl wh) (vSl va vl vh) := by
  refine ⟨fun G S0 vals venv env S P Q st hv hP => ?_⟩
  refine ha.run G S0 vals venv env S _ _ st hv fun e1 r x S1 h1 r1 => ?_
  refine hl.run G S0 _ e1 env S1 _ _ r1.pend h1 fun e2 l S2 h2 st2 => ?_
  refine hh.run G S0 _ e2 env S2 _ _ st2 h2 fun e3 h S3 h3 st3 => ?_
  obtain ⟨O, hc, hvs⟩ := st3
  obtain ⟨p, hp, h4⟩ := someP_of h3
  obtain ⟨s, hs, hq⟩ := optV_some h4
  have rx := dat_rq hc (hvs (pl r, x) (by simp)) (by rw [dat_pl]; exact hp)
  have hvs' : RVs2 G O e3 env S3 vals := fun v hv => hvs v (by simp [hv])
  unfold vSlG at hs
  split at hs
  · obtain ⟨xs, rfl, q⟩ := rx.tuple
    cases hs
    exact hP _ _ _ _ hq (op_res hc hvs' (.data (.tup (cut_rps q))))
  · obtain ⟨n, xs, rfl, g1, q⟩ := rx.list
    cases hs
    show opt (fSl (.ref n) l h S3) P
    unfold fSl
    simp only [g1, Cell.items]
    exact hP _ _ _ _ hq (op_res hc hvs' (.new (cut_rps q)))
  · cases rx.str
    obtain ⟨c, rfl⟩ := ite_some' hs
    show opt (fSl (.str _) l h S3) P
    unfold fSl
    simp only [if_pos c]
    exact hP _ _ _ _ hq (op_res hc hvs' (.data (.str _)))
  · cases hs

/-! ### methods -/
/-- a method of a slot's own list -/
abbrev GL := List PyData → List PyData → Option (List PyData × PyData)
def SimL (f : List PV → List PV → Option (List PV × PV)) (g : GL) : Prop := ∀ (E : List Nat) (S : Store) (ds ps ds' : List PyData) (r : PyData) (xs as : List PV), Rps E S ds xs → Rps E S ps as → g ds ps = some (ds', r) → ∃ xs' z, f xs as = some (xs', z) ∧ Rps E S ds' xs' ∧ Rp E S r z
/-- a slot's own list is written -/
theorem Core.write {i n : Nat} {ds' : List PyData} {xs' : List PV} (h : Core G S0 O venv env S) (o : OwnAt venv env i n) (r : Rps (O ++ G.cells) S ds' xs') : Core G S0 O (venv.put i (some (.ow ds'))) env (S.set n (.lst xs')) := by
  have hn := h.new n (ow_lt h o)
  have k : Kp (O ++ G.cells) S (S.set n (.lst xs')) := .set (List.mem_append_left _ (ow_lt h o))
  have hl : i < venv.s.length := by obtain ⟨⟨ds, hv⟩, _⟩ := o; exact (List.getElem?_eq_some_iff.mp hv).1
  have own : ∀ {j m : Nat}, OwnAt (venv.put i (some (.ow ds'))) env j m → OwnAt venv env j m := fun {j m} ⟨⟨ds, hv⟩, he⟩ => by
    by_cases e : i = j
    · subst e; exact ⟨o.1, he⟩
    · rw [List.getElem?_set_ne e] at hv
      exact ⟨⟨ds, hv⟩, he⟩
  refine ⟨?_, h.kp.set_new hn.1, by rw [List.length_set]; exact h.len, fun m hm => ⟨(h.new m hm).1, by rw [List.length_set]; exact (h.new m hm).2.1, (h.new m hm).2.2⟩, fun j v hv => ?_, fun j k m a b => h.inj j k m (own a) (own b)⟩
  · exact G.fr _ S _ h.inv (by simp) fun m hm => List.getElem?_set_ne (fun z => by subst z; exact hn.2.2 hm)
  · by_cases e : i = j
    · subst e
      rw [List.getElem?_set_self hl] at hv
      cases hv
      exact ⟨_, o.2, n, xs', rfl, ow_lt h o, List.getElem?_set_self hn.2.1, r.mono k⟩
    · rw [List.getElem?_set_ne e] at hv
      obtain ⟨x, h1, h2⟩ := h.slot j v hv
      refine ⟨x, h1, ?_⟩
      cases v with
      | d p => exact Rp.mono h2 k
      | ty n => exact h2
      | tok n => exact h2
      | ow es =>
        obtain ⟨m, ys, rfl, q1, q2, q3⟩ := h2
        refine ⟨m, ys, rfl, q1, ?_, q3.mono k⟩
        rw [List.getElem?_set_ne]
        · exact q2
        · rintro rfl
          exact e (h.inj i j _ o ⟨⟨es, hv⟩, h1⟩)
theorem RVs2.write {i n : Nat} {ds' : List PyData} {xs' : List PV} (h : RVs2 G O venv env S vals) (o : OwnAt venv env i n) (ho : n ∈ O) : RVs2 G O (venv.put i (some (.ow ds'))) env (S.set n (.lst xs')) vals := fun v hv => by
  have k : Kp (O ++ G.cells) S (S.set n (.lst xs')) := .set (List.mem_append_left _ ho)
  have hl : i < venv.s.length := by obtain ⟨⟨ds, hv⟩, _⟩ := o; exact (List.getElem?_eq_some_iff.mp hv).1
  have := h v hv
  revert this
  cases v.1 with
  | d p => exact fun h => Rp.mono h k
  | ty n => exact id
  | tok n => exact id
  | fr p => exact fun h => Rp.mono h k
  | ow j =>
    rintro ⟨m, h1, ⟨ds, hv⟩, he⟩
    refine ⟨m, h1, ?_, he⟩
    by_cases e : i = j
    · subst e; exact ⟨ds', List.getElem?_set_self hl⟩
    · exact ⟨ds, by rw [List.getElem?_set_ne e]; exact hv⟩
def owAt (e : VEnv) (i : Nat) : Option (List PyData) := match e.s[i]? with
  | some (some (.ow ds)) => some ds
  | _ => none
theorem owAt_of {ds : List PyData} {i : Nat} (h : owAt venv i = some ds) : venv.s[i]? = some (some (.ow ds)) := by
  unfold owAt at h
  split at h
  · rename_i es he; cases h; exact he
  · cases h
def optL (o : Option (List PyData × PyData)) (Q : List PyData → PyData → Prop) : Prop := match o with
  | some (ds, r) => Q ds r
  | none => False
theorem optL_of {o : Option (List PyData × PyData)} {Q : List PyData → PyData → Prop} (h : optL o Q) : ∃ ds r, o = some (ds, r) ∧ Q ds r := by
  cases o with
  | none => exact h.elim
  | some r => exact ⟨r.1, r.2, rfl, h⟩
def vMo (g : GL) (i : Nat) (vs : VA) : V := fun e Q => (owAt e i).isSome = true ∧ vs e fun e1 us => someD (owAt e1 i) fun ds => someD (allS us) fun ps => optL (g ds ps) fun ds' r => Q (e1.put i (some (.ow ds'))) (.d r)
theorem own_slot (h : Core G S0 O venv env S) {i : Nat} {ds : List PyData} (hv : venv.s[i]? = some (some (.ow ds))) : ∃ n xs, env[i]? = some (some (.ref n)) ∧ OwnAt venv env i n ∧ n ∈ O ∧ S[n]? = some (.lst xs) ∧ Rps (O ++ G.cells) S ds xs := by
  obtain ⟨x, h1, n, xs, rfl, h2, h3, h4⟩ := h.slot i _ hv
  exact ⟨n, xs, h1, ⟨⟨ds, hv⟩, h1⟩, h2, h3, h4⟩
theorem sim_mo {f : List PV → List PV → Option (List PV × PV)} {g : GL} (i : Nat) (ho : SimL f g) (h : SimA T ws vs) : Sim T (wM "list" (onL f) (wVar i) ws) (vMo g i vs) := by
  refine ⟨fun G S0 vals venv env S P Q st hv hP => ?_⟩
  obtain ⟨hi, hv⟩ := hv
  obtain ⟨es, hes⟩ := Option.isSome_iff_exists.mp hi
  obtain ⟨O, hc, hvs⟩ := id st
  obtain ⟨n, xs, he, o, hn, hS, hr⟩ := own_slot hc (owAt_of hes)
  unfold wM wVar
  simp only [he]
  refine ⟨.inl ⟨rfl, _, _, hS, rfl⟩, ?_⟩
  refine h.run G S0 vals venv env S _ _ st hv fun e1 us as S1 h1 hl st1 => ?_
  obtain ⟨ds, hds, h2⟩ := someD_of h1
  obtain ⟨ps, hps, h3⟩ := someD_of h2
  obtain ⟨ds', r, hg, hq⟩ := optL_of h3
  obtain ⟨O1, hc1, hvs1⟩ := st1
  obtain ⟨m, ys, he1, o1, hm, hS1, hr1⟩ := own_slot hc1 (owAt_of hds)
  rw [he] at he1; cases he1
  obtain ⟨ys', z, hf, q1, q2⟩ := ho _ _ _ _ _ _ _ _ hr1 (allS_rps hvs1 hl hps) hg
  show opt (onL f (.ref n) as S1) P
  unfold onL
  simp only [hS1, hf]
  have k : Kp (O1 ++ G.cells) S1 (S1.set n (.lst ys')) := .set (List.mem_append_left _ hm)
  exact hP _ _ _ _ hq ⟨O1, hc1.write o1 q1, (vals_tail hvs1).write o1 hm, q2.mono k⟩
theorem sim_mo0 {f : List PV → List PV → Option (List PV × PV)} {g : GL} (i : Nat) (ho : SimL f g) : Sim T (wM0 "list" (onL f) (wVar i)) (vMo g i vN) := by
  refine ⟨fun G S0 vals venv env S P Q st hv hP => ?_⟩
  have := (sim_mo (T := T) i ho simA_nil).run G S0 vals venv env S P Q st hv hP
  exact this
def lAppend : GL
  | ds, [p] => if ds.length < sizeLine then some (ds ++ [p], .none) else none
  | _, _ => none
theorem rps1 {E : List Nat} {p : PyData} {xs : List PV} (h : Rps E S [p] xs) : ∃ x, xs = [x] ∧ Rp E S p x := by
  cases h with
  | cons h t => cases t; exact ⟨_, rfl, h⟩
theorem rps2 {E : List Nat} {p q : PyData} {xs : List PV} (h : Rps E S [p, q] xs) : ∃ x y, xs = [x, y] ∧ Rp E S p x ∧ Rp E S q y := by
  cases h with
  | cons h t => obtain ⟨y, rfl, q⟩ := rps1 t; exact ⟨_, y, rfl, h, q⟩
theorem sim_append : SimL gAppend lAppend := by
  intro E S ds ps ds' r xs as h1 h2 h
  unfold lAppend at h
  split at h
  · obtain ⟨c, e⟩ := ite_some' h
    cases e
    obtain ⟨x, rfl, q⟩ := rps1 h2
    exact ⟨_, _, if_pos (by rw [← h1.length]; exact c), h1.snoc q, .non⟩
  · cases h
def lPop : GL
  | ds, [] => (ds[ds.length - 1]?).map fun y => (ds.dropLast, y)
  | ds, [.int i] => if -(2 ^ 63) ≤ i ∧ i < 2 ^ 63 then match seqIndex? i ds.length with
    | some k => (ds[k]?).map fun y => (ds.eraseIdx k, y)
    | none => none
    else none
  | _, _ => none
theorem sim_pop : SimL gPop lPop := by
  intro E S ds ps ds' r xs as h1 h2 h
  unfold lPop at h
  split at h
  · cases h2
    obtain ⟨y, hy, e⟩ := Option.map_eq_some_iff.mp h
    cases e
    obtain ⟨z, hz, q⟩ := h1.get hy
    exact ⟨_, z, by unfold gPop; dsimp only; rw [← h1.length, hz]; rfl, h1.dropLast, q⟩
  · obtain ⟨x, rfl, q⟩ := rps1 h2
    cases q
    obtain ⟨c, e⟩ := ite_some2 h
    split at e
    · rename_i k hk
      obtain ⟨y, hy, e⟩ := Option.map_eq_some_iff.mp e
      cases e
      obtain ⟨z, hz, q⟩ := h1.get hy
      exact ⟨_, z, by unfold gPop; dsimp only; rw [if_pos c, ← h1.length, hk]; dsimp only; rw [hz]; rfl, h1.eraseIdx k, q⟩
    · cases e
  · cases h
def lInsert : GL
  | ds, [.int i, y] => if ds.length < sizeLine ∧ 0 ≤ i ∧ i < 2 ^ 63 then some (ds.take i.toNat ++ [y] ++ ds.drop i.toNat, .none) else none
  | _, _ => none
theorem sim_insert : SimL gInsert lInsert := by
  intro E S ds ps ds' r xs as h1 h2 h
  unfold lInsert at h
  split at h
  · obtain ⟨c, e⟩ := ite_some' h
    cases e
    obtain ⟨x, y, rfl, q1, q2⟩ := rps2 h2
    cases q1
    exact ⟨_, _, if_pos (by rw [← h1.length]; exact c), ((h1.take _).append (.cons q2 .nil)).append (h1.drop _), .non⟩
  · cases h
/-- x.extend(l) -/
def vExt (i : Nat) (va : V) : V := fun e Q => (owAt e i).isSome = true ∧ va e fun e1 u => someD (owAt e1 i) fun ds => someP (stab u) fun p => match p with
  | .list es => ds.length + es.length ≤ sizeLine ∧ Q (e1.put i (some (.ow (ds ++ es)))) (.d .none)
  | _ => False
theorem sim_ext (i : Nat) (ha : Sim T wa va) : Sim T (wM "list" mExtend (wVar i) (wCons wa wNil)) (vExt i va) := by
  refine ⟨fun G S0 vals venv env S P Q st hv hP => ?_⟩
  obtain ⟨hi, hv⟩ := hv
  obtain ⟨es, hes⟩ := Option.isSome_iff_exists.mp hi
  obtain ⟨O, hc, hvs⟩ := id st
  obtain ⟨n, xs, he, o, hn, hS, hr⟩ := own_slot hc (owAt_of hes)
  unfold wM wVar
  simp only [he]
  refine ⟨.inl ⟨rfl, _, _, hS, rfl⟩, ?_⟩
  refine ha.run G S0 vals venv env S _ _ st hv fun e1 u a S1 h1 r1 => ?_
  obtain ⟨ds, hds, h2⟩ := someD_of h1
  obtain ⟨p, hps, h3⟩ := someP_of h2
  obtain ⟨O1, hc1, hvs1⟩ := r1.pend
  obtain ⟨m, ys, he1, o1, hm, hS1, hr1⟩ := own_slot hc1 (owAt_of hds)
  rw [he] at he1; cases he1
  split at h3
  · rename_i es
    obtain ⟨hle, hq⟩ := h3
    have ru : Rp (O1 ++ G.cells) S1 (.list es) a := stab_rp (hvs1 (pl u, a) (by simp)) (by cases u <;> exact hps)
    match a, ru with
    | _, .lst (xs := zs) (n := k) hk1 hk2 hk3 =>
      show opt (mExtend (.ref n) [.ref k] S1) P
      unfold mExtend
      simp only [hS1, hk2]
      rw [if_pos (by rw [← hr1.length, ← hk3.length]; exact hle)]
      have kk : Kp (O1 ++ G.cells) S1 (S1.set n (.lst (ys ++ zs))) := .set (List.mem_append_left _ hm)
      exact hP _ _ _ _ hq ⟨O1, hc1.write o1 (hr1.append hk3), RVs2.write (fun v hv => hvs1 v (by simp [hv])) o1 hm, .non⟩
  · exact h3.elim
/-- a method of a text -/
def SimM (f : FM) (g : PyData → List PyData → Option VV) : Prop := ∀ (E : List Nat) (S : Store) (x : PV) (xs : List PV) (p : PyData) (ps : List PyData) (r : VV), Rq E S p x → Rqs E S ps xs → g p ps = some r → ∃ z S', f x xs S = some (z, S') ∧ OpRes E S r z S'
def isStr : PyData → Bool
  | .str _ => true
  | _ => false
def vMs (g : PyData → List PyData → Option VV) (va : V) (vs : VA) : V := fun e Q => va e fun e1 a => (∃ x, a = .d (.str x)) ∧ vs e1 fun e2 us => someP (dat e2 a) fun p => someD (allD e2 us) fun ps => optV (g p ps) (Q e2)
theorem sim_ms {f : FM} {g : PyData → List PyData → Option VV} (ho : SimM f g) (ha : Sim T wa va) (h : SimA T ws vs) : Sim T (wM "str" f wa ws) (vMs g va vs) := by
  refine ⟨fun G S0 vals venv env S P Q st hv hP => ?_⟩
  refine ha.run G S0 vals venv env S _ _ st hv fun e1 r x S1 h1 r1 => ?_
  obtain ⟨⟨y, rfl⟩, h2⟩ := h1
  have hx : x = .str y := by
    obtain ⟨O, a, b, c⟩ := id r1
    cases (show Rp _ _ _ _ from c); rfl
  subst hx
  refine ⟨rfl, ?_⟩
  refine h.run G S0 _ e1 env S1 _ _ r1.pend h2 fun e2 us xs S2 h3 hl st2 => ?_
  obtain ⟨p, hp, h4⟩ := someP_of h3
  obtain ⟨ps, hps, h5⟩ := someD_of h4
  obtain ⟨s, hs, hq⟩ := optV_some h5
  obtain ⟨O, hc, hvs⟩ := st2
  have rx := dat_rq hc (hvs (pl (.d (.str y)), .str y) (by simp)) hp
  obtain ⟨z, S', hf, o⟩ := ho _ _ _ _ _ _ _ rx (allD_rqs hc hvs hl hps) hs
  show opt (f (.str y) xs S2) P
  rw [hf]
  exact hP _ _ _ _ hq (op_res hc (fun v hv => hvs v (by simp [hv])) o)
def strsD : List PyData → Option (List Str)
  | [] => some []
  | .str x :: r => (strsD r).map fun ys => x :: ys
  | _ :: _ => none
theorem strsD_of {E : List Nat} : ∀ {ps : List PyData} {xs : List PV} {ys : List Str}, Rps E S ps xs → strsD ps = some ys → allStr xs = some ys
  | [], _, ys, .nil, h => by cases h; rfl
  | p :: ps, _, ys, .cons q t, h => by
    cases p with
    | str x =>
      obtain ⟨zs, h1, rfl⟩ := Option.map_eq_some_iff.mp (show (strsD ps).map _ = some ys from h)
      cases q
      show (allStr _).map _ = _
      rw [strsD_of t h1]; rfl
    | _ => cases h
def vJoin : PyData → List PyData → Option VV
  | .str a, [.list ds] => match strsD ds with
    | some ys => if (ys.map (·.length)).sum + ys.length * a.length ≤ 16777216 then some (.d (.str (Txt.join a ys))) else none
    | none => none
  | .str a, [.tuple ds] => match strsD ds with
    | some ys => if (ys.map (·.length)).sum + ys.length * a.length ≤ 16777216 then some (.d (.str (Txt.join a ys))) else none
    | none => none
  | _, _ => none
theorem sim_join : SimM mJoin vJoin := by
  intro E S x xs p ps r hx hxs h
  have key : ∀ {a : Str} {q : PyData} {y : PV} {ds : List PyData}, Rq E S q y → seqD q = some ds → (match strsD ds with
    | some ys => if (ys.map (·.length)).sum + ys.length * a.length ≤ 16777216 then some (VV.d (.str (Txt.join a ys))) else none
    | none => none) = some r → ∃ z S', mJoin (.str a) [y] S = some (z, S') ∧ OpRes E S r z S' := fun {a q y ds} hy hd h => by
    obtain ⟨zs, h1, q1⟩ := hy.seq hd
    split at h
    · rename_i ys hys
      obtain ⟨c, rfl⟩ := ite_some' h
      refine ⟨_, _, ?_, .data (.str _)⟩
      unfold mJoin
      simp only [h1, strsD_of q1 hys]
      exact if_pos c
    · cases h
  unfold vJoin at h
  split at h
  · cases hx.str
    obtain ⟨y, rfl, q⟩ := rqs1 hxs
    exact key q rfl h
  · cases hx.str
    obtain ⟨y, rfl, q⟩ := rqs1 hxs
    exact key q rfl h
  · cases h
theorem rps_strs {E : List Nat} : ∀ ys : List Str, Rps E S (ys.map PyData.str) (ys.map PV.str)
  | [] => .nil
  | y :: ys => .cons (.str y) (rps_strs ys)
def vSplit : PyData → List PyData → Option VV
  | .str a, [.str b] => if (b.length == 0) = false ∧ a.length + 2 ≤ sizeLine then some (.fr ((Txt.split a b).map .str)) else none
  | _, _ => none
theorem sim_split : SimM mSplit vSplit := by
  intro E S x xs p ps r hx hxs h
  unfold vSplit at h
  split at h
  · cases hx.str
    obtain ⟨y, rfl, q⟩ := rqs1 hxs
    cases q.str
    obtain ⟨c, rfl⟩ := ite_some' h
    exact ⟨_, _, if_pos c, .new (rps_strs _)⟩
  · cases h
/-! f-strings -/
def vFmt (va : V) : V := fun e Q => va e fun e1 r => match r with
  | .d (.str y) => y.length ≤ sizeLine ∧ Q e1 (.d (.str y))
  | .d (.int i) => i.natAbs.log2 < 1920 ∧ Q e1 (.d (.str (toString i)))
  | _ => False
theorem sim_fmt (ha : Sim T wa va) : Sim T (wFmt wa) (vFmt va) := by
  refine ⟨fun G S0 vals venv env S P Q st hv hP => ha.run G S0 vals venv env S _ _ st hv fun e1 r x S1 h1 r1 => ?_⟩
  split at h1
  · rename_i i
    obtain ⟨O, a, b, c⟩ := id r1
    cases (show x = .str i from by cases (show Rp _ _ _ _ from c); rfl)
    exact ⟨h1.1, hP _ _ _ _ h1.2 (.data r1.st fun _ => .str _)⟩
  · rename_i i
    obtain ⟨O, a, b, c⟩ := id r1
    cases (show x = .int i from by cases (show Rp _ _ _ _ from c); rfl)
    exact ⟨h1.1, hP _ _ _ _ h1.2 (.data r1.st fun _ => .str _)⟩
  · exact h1.elim
def vJs : List V → Str → VEnv → (VEnv → Str → Prop) → Prop
  | [], acc, e, Q => Q e acc
  | v :: vs, acc, e, Q => v e fun e1 r => match r with
    | .d (.str y) => (acc ++ y).length ≤ sizeLine ∧ vJs vs (acc ++ y) e1 Q
    | _ => False
def vJoined (vs : List V) : V := fun e Q => vJs vs Str.empty e fun e1 out => Q e1 (.d (.str out))
inductive SimJ (T : Tok) : List W → List V → Prop
  | nil : SimJ T [] []
  | cons {w : W} {v : V} {ws : List W} {vs : List V} : Sim T w v → SimJ T ws vs → SimJ T (w :: ws) (v :: vs)
theorem sim_joined {ws : List W} {vs : List V} (h : SimJ T ws vs) : Sim T (wJoined ws) (vJoined vs) := by
  refine ⟨fun G S0 vals venv env S P Q st hv hP => ?_⟩
  have key : ∀ {ws : List W} {vs : List V}, SimJ T ws vs → ∀ (acc : Str) (e : VEnv) (S : Store), St G S0 vals e env S → vJs vs acc e (fun e1 out => Q e1 (.d (.str out))) → wJs ws acc env S fun out S1 => P (.str out) S1 := by
    intro ws vs h
    induction h with
    | nil => exact fun acc e S st hv => hP _ _ _ _ hv (.data st fun _ => .str _)
    | cons h _ ih =>
      intro acc e S st hv
      refine h.run G S0 vals e env S _ _ st hv fun e1 r x S1 h1 r1 => ?_
      split at h1
      · rename_i i
        obtain ⟨O, a, b, c⟩ := id r1
        cases (show x = .str i from by cases (show Rp _ _ _ _ from c); rfl)
        exact ⟨h1.1, ih _ _ _ r1.st h1.2⟩
      · exact h1.elim
  exact key h _ _ _ st hv
end
end Vl
set_option Elab.async false
set_option linter.all false
set_option maxRecDepth 100000
/-! Vt4: guarded cells, targets, walks, comprehensions, dicts, calls. -/
namespace Vl
open PySem PySem.Spec PyProof.Rows L2 Lt
section
variable {T : Tok} {G : Gd T} {S0 S S' : Store} {O : List Nat} {venv : VEnv} {env : PEnv} {vals : Vals} {w wa wb wc : W} {v va vb vc : V} {ws : WA} {vs : VA}

/-! ### the world goes on, with or without further cells apart -/
theorem rp_on {E E' : List Nat} {d : PyData} {x : PV} (h : Rp E S d x) (k : Kp E S S') (he : ∀ n ∈ E', n ∈ E ∨ S.length ≤ n) : Rp E' S' d x := h.go fun m c hm hc => ⟨fun z => by
  rcases he m z with z | z
  · exact hm z
  · have := lt_of_at hc; omega, k.at_ m c hm hc⟩
theorem rps_on {E E' : List Nat} {d : List PyData} {x : List PV} (h : Rps E S d x) (k : Kp E S S') (he : ∀ n ∈ E', n ∈ E ∨ S.length ≤ n) : Rps E' S' d x := h.go fun m c hm hc => ⟨fun z => by
  rcases he m z with z | z
  · exact hm z
  · have := lt_of_at hc; omega, k.at_ m c hm hc⟩
/-- another guard, other cells apart; the slots stay -/
theorem Core.on {G' : Gd T} {O' : List Nat} {m : Nat} (h : Core G S0 O venv env S) (ht : G'.tk = G.tk) (hi : G'.inv m S') (k : Kp (O ++ G.cells) S S') (kO : ∀ n ∈ O, S'[n]? = S[n]?) (hk : Kp G'.cells S0 S')
    (he : ∀ n ∈ O' ++ G'.cells, n ∈ O ++ G.cells ∨ S.length ≤ n) (hn : ∀ n ∈ O', S0.length ≤ n ∧ n < S'.length ∧ n ∉ G'.cells) (ho : ∀ i n, OwnAt venv env i n → n ∈ O') : Core G' S0 O' ⟨venv.s, m⟩ env S' := by
  refine ⟨hi, hk, h.len, hn, fun i v hv => ?_, h.inj⟩
  obtain ⟨x, h1, h2⟩ := h.slot i v hv
  refine ⟨x, h1, ?_⟩
  cases v with
  | d p => exact rp_on h2 k he
  | ty n => exact h2
  | tok j => obtain ⟨n, fs, q1, q2⟩ := h2; exact ⟨n, fs, by rw [ht]; exact q1, q2⟩
  | ow ds => obtain ⟨n, xs, rfl, q2, q3, q4⟩ := h2; exact ⟨n, xs, rfl, ho i n ⟨⟨ds, hv⟩, h1⟩, by rw [kO n q2]; exact q3, rps_on q4 k he⟩
theorem RVs2.on {G' : Gd T} {O' : List Nat} (h : RVs2 G O venv env S vals) (ht : G'.tk = G.tk) (k : Kp (O ++ G.cells) S S') (he : ∀ n ∈ O' ++ G'.cells, n ∈ O ++ G.cells ∨ S.length ≤ n) : RVs2 G' O' venv env S' vals := fun v hv => by
  have := h v hv
  revert this
  cases v.1 with
  | d p => exact fun h => rp_on h k he
  | ty n => exact id
  | tok j => rintro ⟨n, fs, q1, q2⟩; exact ⟨n, fs, by rw [ht]; exact q1, q2⟩
  | ow i => exact id
  | fr ds => exact fun h => rp_on h k he
theorem new_free (h : Core G S0 O venv env S) : ∀ n ∈ [S.length], n ∉ G.cells := fun n hn z => by
  rw [List.mem_singleton] at hn
  subst hn
  have := G.dom _ S h.inv _ z
  omega
/-- a new cell, guarded -/
theorem Core.guard {c : Cell} (h : Core G S0 O venv env S) (hL : ∀ n ∈ [S.length], n ∉ G.cells) : Core (G.add [S.length] (S ++ [c]) hL) S0 O venv env (S ++ [c]) := by
  have k : Kp [] S (S ++ [c]) := .push
  refine h.on rfl ⟨G.kp h.inv k, fun n hn => ⟨by rw [List.mem_singleton] at hn; subst hn; simp, rfl⟩⟩ (kp_of_nil k) (fun n hn => by rw [List.getElem?_append_left (h.new n hn).2.1]) ((h.kp.trans (kp_of_nil k)).sub fun n hn => List.mem_append_right _ hn) (fun n hn => ?_) (fun n hn => ⟨(h.new n hn).1, Nat.lt_of_lt_of_le (h.new n hn).2.1 k.le, fun z => ?_⟩) fun i n o => ow_lt h o
  · rcases List.mem_append.mp hn with hn | hn
    · exact .inl (List.mem_append_left _ hn)
    · rcases List.mem_append.mp hn with hn | hn
      · rw [List.mem_singleton] at hn; exact .inr (by omega)
      · exact .inl (List.mem_append_right _ hn)
  · rcases List.mem_append.mp z with z | z
    · rw [List.mem_singleton] at z; have := (h.new n hn).2.1; omega
    · exact (h.new n hn).2.2 z
theorem RVs2.guard {c : Cell} (h : RVs2 G O venv env S vals) (hL : ∀ n ∈ [S.length], n ∉ G.cells) : RVs2 (G.add [S.length] (S ++ [c]) hL) O venv env (S ++ [c]) vals := by
  refine RVs2.on h rfl (kp_of_nil (.push)) fun n hn => ?_
  rcases List.mem_append.mp hn with hn | hn
  · exact .inl (List.mem_append_left _ hn)
  · rcases List.mem_append.mp hn with hn | hn
    · rw [List.mem_singleton] at hn; exact .inr (by omega)
    · exact .inl (List.mem_append_right _ hn)
theorem add_sub {n : Nat} {S1 : Store} {hL} : ∀ m ∈ O ++ G.cells, m ∈ O ++ (G.add [n] S1 hL).cells ∨ S.length ≤ m := fun m hm => by
  rcases List.mem_append.mp hm with hm | hm
  · exact .inl (List.mem_append_left _ hm)
  · exact .inl (List.mem_append_right _ (List.mem_append_right _ hm))
theorem Core.unguard {n : Nat} {S1 : Store} {hL} (h : Core (G.add [n] S1 hL) S0 O venv env S) (hn : S0.length ≤ n) : Core G S0 O venv env S := by
  refine h.on (G' := G) rfl h.inv.1 .refl (fun _ _ => rfl) ⟨h.kp.le, fun m c hm hc => h.kp.at_ m c (fun z => ?_) hc⟩ add_sub (fun m hm => ⟨(h.new m hm).1, (h.new m hm).2.1, fun z => (h.new m hm).2.2 (List.mem_append_right _ z)⟩) fun i m o => ow_lt h o
  rcases List.mem_append.mp z with z | z
  · rw [List.mem_singleton] at z
    have := lt_of_at hc
    omega
  · exact hm z
theorem RVs2.unguard {n : Nat} {S1 : Store} {hL} (h : RVs2 (G.add [n] S1 hL) O venv env S vals) : RVs2 G O venv env S vals := RVs2.on h rfl .refl add_sub
/-- the guarded cell is written -/
theorem Core.reguard {n : Nat} {S1 : Store} {hL} {c : Cell} (h : Core (G.add [n] S1 hL) S0 O venv env S) (hn : S0.length ≤ n) : Core (G.add [n] (S.set n c) hL) S0 O venv env (S.set n c) := by
  have hm : n ∈ O ++ (G.add [n] S1 hL).cells := List.mem_append_right _ (List.mem_append_left _ (by simp))
  have hlt := (h.inv.2 n (by simp)).1
  have k : Kp (O ++ (G.add [n] S1 hL).cells) S (S.set n c) := .set hm
  refine h.on (G' := G.add [n] (S.set n c) hL) rfl ⟨G.fr _ S _ h.inv.1 (by simp) fun m hm => List.getElem?_set_ne fun z => by subst z; exact hL n (by simp) hm, fun m hm => ⟨by rw [List.mem_singleton] at hm; subst hm; rw [List.length_set]; exact hlt, rfl⟩⟩ k
    (fun m hm => List.getElem?_set_ne fun z => by subst z; exact (h.new _ hm).2.2 (List.mem_append_left _ (by simp))) (h.kp.set_new hn) (fun m hm => .inl hm) (fun m hm => ⟨(h.new m hm).1, by rw [List.length_set]; exact (h.new m hm).2.1, (h.new m hm).2.2⟩) fun i m o => ow_lt h o
theorem RVs2.reguard {n : Nat} {S1 : Store} {hL} {c : Cell} (h : RVs2 (G.add [n] S1 hL) O venv env S vals) : RVs2 (G.add [n] (S.set n c) hL) O venv env (S.set n c) vals :=
  RVs2.on h rfl (.set (List.mem_append_right _ (List.mem_append_left _ (by simp)))) fun m hm => .inl hm
theorem Core.lt (h : Core G S0 O venv env S) : S0.length ≤ S.length := h.kp.le

/-! ### targets -/
abbrev VG := PyData → VEnv → Option VEnv
abbrev VGs := List PyData → VEnv → Option VEnv
/-- what a target does -/
def Sets (sl : List Nat) (E : List Nat) (S : Store) (env env' : PEnv) (venv venv' : VEnv) : Prop :=
  env'.length = env.length ∧ (venv'.s.length = venv.s.length ∧ venv'.n = venv.n) ∧ (∀ i, i ∉ sl → env'[i]? = env[i]? ∧ venv'.s[i]? = venv.s[i]?) ∧ ∀ i ∈ sl, i < env.length → ∃ q y, venv'.s[i]? = some (some (.d q)) ∧ env'[i]? = some (some y) ∧ Rp E S q y
structure SimG (g : WG) (v : VG) (sl : List Nat) : Prop where
  run : ∀ (E : List Nat) (S : Store) (x : PV) (p : PyData) (env : PEnv) (venv venv' : VEnv), venv.s.length = env.length → Rp E S p x → v p venv = some venv' → ∃ env', g x env = some env' ∧ Sets sl E S env env' venv venv'
structure SimGs (g : WGs) (v : VGs) (sl : List Nat) : Prop where
  run : ∀ (E : List Nat) (S : Store) (xs : List PV) (ps : List PyData) (env : PEnv) (venv venv' : VEnv), venv.s.length = env.length → Rps E S ps xs → v ps venv = some venv' → ∃ env', g xs env = some env' ∧ Sets sl E S env env' venv venv'
def hN (i : Nat) : VG := fun p e => some (e.put i (some (.d p)))
def hsN : VGs := fun ps e => match ps with
  | [] => some e
  | _ :: _ => none
def hsC (g : VG) (r : VGs) : VGs := fun ps e => match ps with
  | [] => none
  | p :: ps => (g p e).bind fun e1 => r ps e1
def hT (r : VGs) : VG := fun p e => match p with
  | .tuple ps => r ps e
  | _ => none
theorem sim_gN (i : Nat) : SimG (gN i) (hN i) [i] := by
  refine ⟨fun E S x p env venv venv' hl r h => ?_⟩
  cases h
  refine ⟨_, rfl, by simp, ⟨by simp, rfl⟩, fun j hj => ?_, fun j hj hlt => ?_⟩
  · rw [List.mem_singleton] at hj
    exact ⟨List.getElem?_set_ne (Ne.symm hj), List.getElem?_set_ne (Ne.symm hj)⟩
  · rw [List.mem_singleton] at hj
    subst hj
    exact ⟨p, x, List.getElem?_set_self (by rw [hl]; exact hlt), List.getElem?_set_self hlt, r⟩
theorem sim_gsN : SimGs gsN hsN [] := by
  refine ⟨fun E S xs ps env venv venv' hl r h => ?_⟩
  cases r with
  | nil => cases h; exact ⟨env, rfl, rfl, ⟨rfl, rfl⟩, fun _ _ => ⟨rfl, rfl⟩, fun i hi => by cases hi⟩
  | cons _ _ => cases h
theorem sim_gsC {g : WG} {v : VG} {r : WGs} {u : VGs} {a b : List Nat} (h1 : SimG g v a) (h2 : SimGs r u b) : SimGs (gsC g r) (hsC v u) (a ++ b) := by
  refine ⟨fun E S xs ps env venv venv' hl q h => ?_⟩
  cases q with
  | nil => cases h
  | cons q t =>
    obtain ⟨v1, e1, e2⟩ := Option.bind_eq_some_iff.mp h
    obtain ⟨env1, g1, l1, l2, s1, s2⟩ := h1.run E S _ _ env venv v1 hl q e1
    obtain ⟨env2, g2, l3, l4, s3, s4⟩ := h2.run E S _ _ env1 v1 venv' (by rw [l2.1, l1, hl]) t e2
    refine ⟨env2, by show (g _ env).bind _ = _; rw [g1]; exact g2, by rw [l3, l1], ⟨by rw [l4.1, l2.1], by rw [l4.2, l2.2]⟩, fun i hi => ?_, fun i hi hlt => ?_⟩
    · rw [List.mem_append] at hi
      have ha : i ∉ a := fun z => hi (.inl z)
      have hb : i ∉ b := fun z => hi (.inr z)
      exact ⟨(s3 i hb).1.trans (s1 i ha).1, (s3 i hb).2.trans (s1 i ha).2⟩
    · by_cases hb : i ∈ b
      · exact s4 i hb (by rw [l1]; exact hlt)
      · have ha : i ∈ a := (List.mem_append.mp hi).resolve_right hb
        obtain ⟨q, y, c1, c2, c3⟩ := s2 i ha hlt
        exact ⟨q, y, by rw [(s3 i hb).2]; exact c1, by rw [(s3 i hb).1]; exact c2, c3⟩
theorem sim_gT {r : WGs} {u : VGs} {a : List Nat} (h : SimGs r u a) : SimG (gT r) (hT u) a := by
  refine ⟨fun E S x p env venv venv' hl q e => ?_⟩
  cases q with
  | tup q => exact h.run E S _ _ env venv venv' hl q e
  | _ => cases e
theorem Core.sets {sl : List Nat} {env' : PEnv} {venv' : VEnv} (h : Core G S0 O venv env S) (s : Sets sl (O ++ G.cells) S env env' venv venv') : Core G S0 O venv' env' S := by
  obtain ⟨l1, l2, s1, s2⟩ := s
  have own : ∀ {j m : Nat}, OwnAt venv' env' j m → OwnAt venv env j m := fun {j m} ⟨⟨ds, hv⟩, he⟩ => by
    by_cases e : j ∈ sl
    · have hl : j < env.length := by rw [← l1]; exact (List.getElem?_eq_some_iff.mp he).1
      obtain ⟨q, y, c1, c2, c3⟩ := s2 j e hl
      rw [c1] at hv; cases hv
    · exact ⟨⟨ds, by rw [← (s1 j e).2]; exact hv⟩, by rw [← (s1 j e).1]; exact he⟩
  refine ⟨by rw [l2.2]; exact h.inv, h.kp, by rw [l2.1, l1]; exact h.len, h.new, fun i v hv => ?_, fun i j n a b => h.inj i j n (own a) (own b)⟩
  by_cases e : i ∈ sl
  · have hl : i < env.length := by rw [← h.len, ← l2.1]; exact (List.getElem?_eq_some_iff.mp hv).1
    obtain ⟨q, y, c1, c2, c3⟩ := s2 i e hl
    rw [c1] at hv; cases hv
    exact ⟨y, c2, c3⟩
  · rw [(s1 i e).2] at hv
    rw [(s1 i e).1]
    exact h.slot i v hv
/-- values that wait and lean on no slot -/
def pd (l : List (PyData × PV)) : Vals := l.map fun v => (.d v.1, v.2)
theorem pd_mem {l : List (PyData × PV)} {venv' : VEnv} {env' : PEnv} (h : RVs2 G O venv env S (pd l)) : RVs2 G O venv' env' S (pd l) := fun v hv => by
  have := h v hv
  obtain ⟨u, hu, rfl⟩ := List.mem_map.mp hv
  exact this
theorem St.sets {g : WG} {vg : VG} {sl : List Nat} {l : List (PyData × PV)} {p : PyData} {x : PV} {venv' : VEnv} (hg : SimG g vg sl) (h : St G S0 ((.d p, x) :: pd l) venv env S) (e : vg p venv = some venv') : ∃ env', g x env = some env' ∧ St G S0 (pd l) venv' env' S := by
  obtain ⟨O, hc, hv⟩ := h
  obtain ⟨env', h1, h2⟩ := hg.run _ _ _ _ env venv venv' hc.len (hv (.d p, x) (by simp)) e
  exact ⟨env', h1, O, hc.sets h2, pd_mem fun v hv' => hv v (by simp [hv'])⟩

/-! ### what is walked -/
abbrev VI := VEnv → (VEnv → List PyData → Prop) → Prop
def PItV (g : PIt) (ps : List PyData) (l : List (PyData × PV)) : Prop := ∀ (E : List Nat) (S : Store), (∀ v ∈ l, Rp E S v.1 v.2) → g ps.length S = some none ∧ ∀ i p, ps[i]? = some p → ∃ x, g i S = some (some x) ∧ Rp E S p x
structure SimI (T : Tok) (w : WI) (v : VI) : Prop where
  run : ∀ (G : Gd T) (S0 : Store) (vals : Vals) (venv : VEnv) (env : PEnv) (S : Store) (P : PIt → Store → Prop) (Q : VEnv → List PyData → Prop), St G S0 vals venv env S → v venv Q →
    (∀ venv' ps g l S', Q venv' ps → PItV g ps l → St G S0 (pd l ++ vals) venv' env S' → P g S') → w env S P
def vSeq (va : V) : VI := fun e Q => va e fun e1 a => someP (stab a) fun p => someD (seqD p) (Q e1)
theorem pitv_list {n : Nat} {ds : List PyData} : PItV (gL n) ds [(.list ds, .ref n)] := by
  intro E S h
  match h (.list ds, .ref n) (by simp) with
  | .lst (xs := xs) hn hs r =>
    unfold gL
    simp only [hs, Cell.items]
    refine ⟨congrArg some (List.getElem?_eq_none (by rw [r.length]; exact Nat.le_refl _)), fun i p hp => ?_⟩
    obtain ⟨x, h1, h2⟩ := r.get hp
    exact ⟨x, congrArg some h1, h2⟩
theorem pitv_tuple {xs : List PV} {ds : List PyData} : PItV (gTu xs) ds [(.tuple ds, .tup xs)] := by
  intro E S h
  match h (.tuple ds, .tup xs) (by simp) with
  | .tup r =>
    unfold gTu
    refine ⟨congrArg some (List.getElem?_eq_none (by rw [r.length]; exact Nat.le_refl _)), fun i p hp => ?_⟩
    obtain ⟨x, h1, h2⟩ := r.get hp
    exact ⟨x, congrArg some h1, h2⟩
theorem sim_seq (ha : Sim T wa va) : SimI T (wSeqI wa) (vSeq va) := by
  refine ⟨fun G S0 vals venv env S P Q st hv hP => ha.run G S0 vals venv env S _ _ st hv fun e1 r x S1 h1 r1 => ?_⟩
  obtain ⟨p, hp, h2⟩ := someP_of h1
  obtain ⟨ds, hd, hq⟩ := someD_of h2
  obtain ⟨O, hc, hvs⟩ := r1.pend
  have rx : Rp (O ++ G.cells) S1 p x := stab_rp (hvs (pl r, x) (by simp)) (by cases r <;> exact hp)
  have hvs' : RVs2 G O e1 env S1 vals := fun v hv => hvs v (by simp [hv])
  unfold seqD at hd
  split at hd
  · cases hd
    match x, rx with
    | _, .lst (xs := xs) (n := n) hn hs q =>
      refine ⟨⟨_, xs, hs, rfl⟩, hP _ _ _ [(.list _, .ref n)] _ hq pitv_list ⟨O, hc, fun v hv => ?_⟩⟩
      rcases List.mem_append.mp hv with hv | hv
      · rw [show pd [(PyData.list _, PV.ref n)] = [(VV.d (.list _), PV.ref n)] from rfl, List.mem_singleton] at hv
        subst hv
        exact .lst hn hs q
      · exact hvs' v hv
  · cases hd
    match x, rx with
    | _, .tup (xs := xs) q =>
      refine hP _ _ _ [(.tuple _, .tup xs)] _ hq pitv_tuple ⟨O, hc, fun v hv => ?_⟩
      rcases List.mem_append.mp hv with hv | hv
      · rw [show pd [(PyData.tuple _, PV.tup xs)] = [(VV.d (.tuple _), PV.tup xs)] from rfl, List.mem_singleton] at hv
        subst hv
        exact .tup q
      · exact hvs' v hv
  · cases hd
/-- whole numbers from lo on -/
def iota (lo : Int) (n : Nat) : List PyData := (List.range n).map fun (i : Nat) => PyData.int (lo + i)
theorem pitv_range {lo : Int} {n : Nat} : PItV (gR lo n) (iota lo n) [] := by
  intro E S _
  unfold iota
  rw [List.length_map, List.length_range]
  refine ⟨by unfold gR; rw [if_neg (Nat.lt_irrefl n)], fun i p hp => ?_⟩
  rw [List.getElem?_map] at hp
  obtain ⟨j, hj, rfl⟩ := Option.map_eq_some_iff.mp hp
  have hi : i < n := by have := (List.getElem?_eq_some_iff.mp hj).1; simpa using this
  have : j = i := by rw [List.getElem?_range hi] at hj; exact (Option.some.inj hj).symm
  subst this
  exact ⟨_, by unfold gR; rw [if_pos hi], .int _⟩
def vR1 (vs : VA) : VI := fun e Q => vs e fun e1 us => match us with
  | [.d (.int j)] => (-(2 ^ 62) ≤ j ∧ j < 2 ^ 62) ∧ Q e1 (iota 0 j.toNat)
  | _ => False
def vR2 (vs : VA) : VI := fun e Q => vs e fun e1 us => match us with
  | [.d (.int i), .d (.int j)] => (-(2 ^ 62) ≤ i ∧ i < 2 ^ 62 ∧ -(2 ^ 62) ≤ j ∧ j < 2 ^ 62) ∧ Q e1 (iota i (j - i).toNat)
  | _ => False
theorem len1 {xs : List PV} (h : 1 = xs.length) : ∃ x, xs = [x] := by
  match xs, h with
  | [x], _ => exact ⟨x, rfl⟩
theorem len2 {xs : List PV} (h : 2 = xs.length) : ∃ x y, xs = [x, y] := by
  match xs, h with
  | [x, y], _ => exact ⟨x, y, rfl⟩
theorem sim_R1 (h : SimA T ws vs) : SimI T (wR1 ws) (vR1 vs) := by
  refine ⟨fun G S0 vals venv env S P Q st hv hP => h.run G S0 vals venv env S _ _ st hv fun e1 us xs S1 h1 hl st1 => ?_⟩
  split at h1
  · rename_i j
    obtain ⟨x, rfl⟩ := len1 hl
    obtain ⟨O, hc, hvs⟩ := id st1
    cases (show x = .int j from by cases (show Rp _ _ _ _ from hvs (.d (.int j), x) (by simp)); rfl)
    exact ⟨h1.1, hP _ _ _ [] _ h1.2 pitv_range (st1.mem fun v hv => by simp only [pd, List.map_nil, List.nil_append] at hv; exact List.mem_append_right _ hv)⟩
  · exact h1.elim
theorem sim_R2 (h : SimA T ws vs) : SimI T (wR2 ws) (vR2 vs) := by
  refine ⟨fun G S0 vals venv env S P Q st hv hP => h.run G S0 vals venv env S _ _ st hv fun e1 us xs S1 h1 hl st1 => ?_⟩
  split at h1
  · rename_i i j
    obtain ⟨x, y, rfl⟩ := len2 hl
    obtain ⟨O, hc, hvs⟩ := id st1
    cases (show x = .int i from by cases (show Rp _ _ _ _ from hvs (.d (.int i), x) (by simp)); rfl)
    cases (show y = .int j from by cases (show Rp _ _ _ _ from hvs (.d (.int j), y) (by simp)); rfl)
    exact ⟨h1.1, hP _ _ _ [] _ h1.2 pitv_range (st1.mem fun v hv => by simp only [pd, List.map_nil, List.nil_append] at hv; exact List.mem_append_right _ hv)⟩
  · exact h1.elim
/-- numbered -/
def numD (ds : List PyData) : List PyData := ds.mapIdx fun i d => .tuple [.int (i : Nat), d]
theorem numD_at {ds : List PyData} {i : Nat} {p : PyData} (h : (numD ds)[i]? = some p) : ∃ d, ds[i]? = some d ∧ p = .tuple [.int (i : Nat), d] := by
  unfold numD at h
  rw [List.getElem?_mapIdx] at h
  obtain ⟨d, h1, rfl⟩ := Option.map_eq_some_iff.mp h
  exact ⟨d, h1, rfl⟩
def vEnumA (vs : VA) : VI := fun e Q => vs e fun e1 us => match us with
  | [u] => someP (stab u) fun p => someD (seqD p) fun ds => Q e1 (numD ds)
  | _ => False
def tupD : PyData → Option (List PyData)
  | .tuple ds => some ds
  | _ => none
def vZip (vs : VA) : VI := fun e Q => vs e fun e1 us => match us with
  | [u, v] => someP (stab u) fun p => someP (stab v) fun q => someD (tupD p) fun ds => someD (seqD q) fun es => ds.length = es.length ∧ Q e1 (List.zipWith (fun a b => .tuple [a, b]) ds es)
  | _ => False
theorem sim_enumA (h : SimA T ws vs) : SimI T (wEnumA ws) (vEnumA vs) := by
  refine ⟨fun G S0 vals venv env S P Q st hv hP => h.run G S0 vals venv env S _ _ st hv fun e1 us xs S1 h1 hl st1 => ?_⟩
  split at h1
  · rename_i u
    obtain ⟨p, hp, h2⟩ := someP_of h1
    obtain ⟨ds, hd, hq⟩ := someD_of h2
    obtain ⟨x, rfl⟩ := len1 hl
    obtain ⟨O, hc, hvs⟩ := id st1
    have rx : Rp (O ++ G.cells) S1 p x := stab_rp (hvs (u, x) (by simp)) hp
    have st2 : St G S0 (pd [(p, x)] ++ vals) e1 env S1 := ⟨O, hc, fun v hv => by
      rcases List.mem_append.mp hv with hv | hv
      · rw [show pd [(p, x)] = [(VV.d p, x)] from rfl, List.mem_singleton] at hv
        subst hv
        exact rx
      · exact hvs v (List.mem_append_right _ hv)⟩
    have nl : (numD ds).length = ds.length := by unfold numD; simp
    unfold seqD at hd
    split at hd
    · cases hd
      match x, rx, st2 with
      | _, .lst (xs := xs) (n := n) hn hs q, st2 =>
        refine ⟨⟨_, xs, hs, rfl⟩, hP _ _ _ _ _ hq (fun E S hl => ?_) st2⟩
        obtain ⟨a1, a2⟩ := pitv_list E S hl
        refine ⟨by unfold gE; rw [nl, a1]; rfl, fun i p hp => ?_⟩
        obtain ⟨d, h3, rfl⟩ := numD_at hp
        obtain ⟨y, h4, h5⟩ := a2 i d h3
        exact ⟨_, by unfold gE; rw [h4]; rfl, .tup (.cons (.int _) (.cons h5 .nil))⟩
    · cases hd
      match x, rx, st2 with
      | _, .tup (xs := xs) q, st2 =>
        refine hP _ _ _ _ _ hq (fun E S hl => ?_) st2
        match (show Rp E S (.tuple ds) (.tup xs) from hl (.tuple ds, .tup xs) (by simp)) with
        | .tup r =>
        refine ⟨by unfold gET; rw [nl, if_neg (by rw [r.length]; omega), if_pos r.length], fun i p hp => ?_⟩
        obtain ⟨d, h3, rfl⟩ := numD_at hp
        obtain ⟨y, h4, h5⟩ := r.get h3
        exact ⟨_, by unfold gET; rw [if_pos (List.getElem?_eq_some_iff.mp h4).1, h4]; rfl, .tup (.cons (.int _) (.cons h5 .nil))⟩
    · cases hd
  · exact h1.elim
theorem zip_at {ds es : List PyData} {i : Nat} {p : PyData} (h : (List.zipWith (fun a b => PyData.tuple [a, b]) ds es)[i]? = some p) : ∃ a b, ds[i]? = some a ∧ es[i]? = some b ∧ p = .tuple [a, b] := by
  rw [List.getElem?_zipWith] at h
  split at h
  · rename_i a b h1 h2
    cases h
    exact ⟨a, b, h1, h2, rfl⟩
  · cases h
theorem sim_zip (h : SimA T ws vs) : SimI T (wZipM ws) (vZip vs) := by
  refine ⟨fun G S0 vals venv env S P Q st hv hP => h.run G S0 vals venv env S _ _ st hv fun e1 us xs S1 h1 hl st1 => ?_⟩
  split at h1
  · rename_i u v
    obtain ⟨p, hp, h2⟩ := someP_of h1
    obtain ⟨q, hq, h3⟩ := someP_of h2
    obtain ⟨ds, hd, h4⟩ := someD_of h3
    obtain ⟨es, he, h5, hQ⟩ := someD_of h4
    obtain ⟨x, y, rfl⟩ := len2 hl
    obtain ⟨O, hc, hvs⟩ := id st1
    have rx : Rp (O ++ G.cells) S1 p x := stab_rp (hvs (u, x) (by simp)) hp
    have ry : Rp (O ++ G.cells) S1 q y := stab_rp (hvs (v, y) (by simp)) hq
    have st2 : St G S0 (pd [(p, x), (q, y)] ++ vals) e1 env S1 := ⟨O, hc, fun z hz => by
      rcases List.mem_append.mp hz with hz | hz
      · rw [show pd [(p, x), (q, y)] = [(VV.d p, x), (VV.d q, y)] from rfl, List.mem_cons, List.mem_singleton] at hz
        rcases hz with rfl | rfl
        · exact rx
        · exact ry
      · exact hvs z (List.mem_append_right _ hz)⟩
    have nl : (List.zipWith (fun a b => PyData.tuple [a, b]) ds es).length = ds.length := by rw [List.length_zipWith]; omega
    match x, rx, st2 with
    | _, .tup (ds := ds') (xs := xs) qx, st2 =>
      cases (show some ds' = some ds from hd)
      match y, ry, st2 with
      | _, .tup (ds := es') (xs := ys) qy, st2 =>
        cases (show some es' = some es from he)
        refine hP _ _ _ _ _ hQ (fun E S hl => ?_) st2
        match hl (.tuple ds, .tup xs) (by simp), hl (.tuple es, .tup ys) (by simp) with
        | .tup r1, .tup r2 =>
        refine ⟨by unfold gZT; rw [nl, List.getElem?_eq_none (show xs.length ≤ ds.length by rw [r1.length]; exact Nat.le_refl _)], fun i p hp => ?_⟩
        obtain ⟨a, b, g1, g2, rfl⟩ := zip_at hp
        obtain ⟨a', k1, k2⟩ := r1.get g1
        obtain ⟨b', k3, k4⟩ := r2.get g2
        exact ⟨_, by unfold gZT; rw [k1, k3], .tup (.cons k2 (.cons k4 .nil))⟩
      | _, .lst (ds := es') (xs := ys) (n := n) hn hs qy, st2 =>
        cases (show some es' = some es from he)
        refine ⟨⟨_, ys, hs, rfl⟩, hP _ _ _ _ _ hQ (fun E S hl => ?_) st2⟩
        match hl (.tuple ds, .tup xs) (by simp), hl (.list es, .ref n) (by simp) with
        | .tup r1, .lst (xs := zs) hn2 hs2 r2 =>
        have l1 := r1.length
        have l2 := r2.length
        refine ⟨by unfold gZM; simp only [hs2, Cell.items]; rw [nl, List.getElem?_eq_none (show xs.length ≤ ds.length by omega)]; exact if_pos (by omega), fun i p hp => ?_⟩
        obtain ⟨a, b, g1, g2, rfl⟩ := zip_at hp
        obtain ⟨a', k1, k2⟩ := r1.get g1
        obtain ⟨b', k3, k4⟩ := r2.get g2
        exact ⟨_, by unfold gZM; simp only [hs2, Cell.items, k1, k3], .tup (.cons k2 (.cons k4 .nil))⟩
      | _, .non, st2 => cases he
      | _, .bl _, st2 => cases he
      | _, .int _, st2 => cases he
      | _, .str _, st2 => cases he
      | _, .dic _ _ _, st2 => cases he
    | _, .lst _ _ _, st2 => cases hd
    | _, .non, st2 => cases hd
    | _, .bl _, st2 => cases hd
    | _, .int _, st2 => cases hd
    | _, .str _, st2 => cases hd
    | _, .dic _ _ _, st2 => cases hd
  · exact h1.elim
end
end Vl
set_option Elab.async false
set_option linter.all false
set_option maxRecDepth 100000
/-! Vt5: comprehensions, dicts, calls. -/
namespace Vl
open PySem PySem.Spec PyProof.Rows L2 Lt
section
variable {T : Tok} {G : Gd T} {S0 S S' : Store} {O : List Nat} {venv : VEnv} {env : PEnv} {vals : Vals} {w wa wb wc : W} {v va vb vc : V} {ws : WA} {vs : VA}
/-! ### comprehensions -/
def wipeV (e : VEnv) : List Nat → VEnv
  | [] => e
  | v :: vs => (wipeV e vs).put v none
theorem wipeV_n (e : VEnv) : ∀ vs : List Nat, (wipeV e vs).n = e.n
  | [] => rfl
  | v :: vs => wipeV_n e vs
theorem wipeV_get (e : VEnv) (j : Nat) : ∀ vs : List Nat, (wipeV e vs).s[j]? = if j ∈ vs then (e.s[j]?).map (fun _ => none) else e.s[j]?
  | [] => by simp [wipeV]
  | v :: vs => by
    unfold wipeV
    have ih := wipeV_get e j vs
    by_cases h : v = j
    · subst h
      rw [if_pos (List.mem_cons_self ..), List.getElem?_set_self']
      rw [ih]
      split <;> cases e.s[v]? <;> rfl
    · rw [List.getElem?_set_ne h, ih]
      have : (j ∈ v :: vs) ↔ j ∈ vs := by
        rw [List.mem_cons]
        exact ⟨fun q => q.elim (fun z => absurd z.symm h) id, .inr⟩
      by_cases hj : j ∈ vs
      · rw [if_pos hj, if_pos (this.mpr hj)]
      · rw [if_neg hj, if_neg (fun q => hj (this.mp q))]
theorem wipeP_get (e : PEnv) (j : Nat) : ∀ vs : List Nat, (wipeP e vs)[j]? = if j ∈ vs then (e[j]?).map (fun _ => none) else e[j]?
  | [] => by simp [wipeP]
  | v :: vs => by
    unfold wipeP
    have ih := wipeP_get e j vs
    by_cases h : v = j
    · subst h
      rw [if_pos (List.mem_cons_self ..), List.getElem?_set_self']
      rw [ih]
      split <;> cases e[v]? <;> rfl
    · rw [List.getElem?_set_ne h, ih]
      have : (j ∈ v :: vs) ↔ j ∈ vs := by
        rw [List.mem_cons]
        exact ⟨fun q => q.elim (fun z => absurd z.symm h) id, .inr⟩
      by_cases hj : j ∈ vs
      · rw [if_pos hj, if_pos (this.mpr hj)]
      · rw [if_neg hj, if_neg (fun q => hj (this.mp q))]
theorem wipeV_len (e : VEnv) : ∀ vs : List Nat, (wipeV e vs).s.length = e.s.length
  | [] => rfl
  | v :: vs => by unfold wipeV; rw [List.length_set, wipeV_len e vs]
theorem wipeP_len (e : PEnv) : ∀ vs : List Nat, (wipeP e vs).length = e.length
  | [] => rfl
  | v :: vs => by unfold wipeP; rw [List.length_set, wipeP_len e vs]
theorem wipe_some {e : VEnv} {j : Nat} {vs : List Nat} {v : VX} (h : (wipeV e vs).s[j]? = some (some v)) : j ∉ vs ∧ e.s[j]? = some (some v) := by
  rw [wipeV_get] at h
  split at h
  · cases q : e.s[j]? <;> rw [q] at h <;> cases h
  · rename_i hj; exact ⟨hj, h⟩
theorem Core.wipe (h : Core G S0 O venv env S) (vs : List Nat) : Core G S0 O (wipeV venv vs) (wipeP env vs) S := by
  have own : ∀ {j m : Nat}, OwnAt (wipeV venv vs) (wipeP env vs) j m → OwnAt venv env j m := fun {j m} ⟨⟨ds, hv⟩, he⟩ => by
    obtain ⟨h1, h2⟩ := wipe_some hv
    rw [wipeP_get, if_neg h1] at he
    exact ⟨⟨ds, h2⟩, he⟩
  refine ⟨by rw [wipeV_n]; exact h.inv, h.kp, by rw [wipeV_len, wipeP_len]; exact h.len, h.new, fun i v hv => ?_, fun i j n a b => h.inj i j n (own a) (own b)⟩
  obtain ⟨h1, h2⟩ := wipe_some hv
  rw [wipeP_get, if_neg h1]
  exact h.slot i v h2
/-- what a comprehension's own names may hold outside it -/
def ownOk (e : VEnv) (vs : List Nat) : Bool := vs.all fun i => match e.s[i]? with
  | some (some (.d _)) => true
  | some (some _) => false
  | _ => true
/-- the outer slots, when those of the comprehension fall away -/
def slotsOf (venv : List (Option VX)) (env : PEnv) : List Nat → List (PyData × PV)
  | [] => []
  | i :: is => match venv[i]?, env[i]? with
    | some (some (.d p)), some (some x) => (p, x) :: slotsOf venv env is
    | _, _ => slotsOf venv env is
theorem slotsOf_mem {venv : List (Option VX)} {env : PEnv} {v : PyData × PV} : ∀ {is : List Nat}, v ∈ slotsOf venv env is → ∃ i : Nat, venv[i]? = some (some (VX.d v.1)) ∧ env[i]? = some (some v.2)
  | [], h => by cases h
  | i :: is, h => by
    unfold slotsOf at h
    split at h
    · rename_i p x h1 h2
      rcases List.mem_cons.mp h with rfl | h
      · exact ⟨i, h1, h2⟩
      · exact slotsOf_mem h
    · exact slotsOf_mem h
theorem slotsOf_at {venv : List (Option VX)} {env : PEnv} {i : Nat} {p : PyData} {x : PV} (h1 : venv[i]? = some (some (.d p))) (h2 : env[i]? = some (some x)) : ∀ {is : List Nat}, i ∈ is → (p, x) ∈ slotsOf venv env is
  | [], h => by cases h
  | j :: is, h => by
    unfold slotsOf
    rcases List.mem_cons.mp h with rfl | h
    · rw [h1, h2]; exact List.mem_cons_self ..
    · have := slotsOf_at h1 h2 h
      split
      · exact List.mem_cons_of_mem _ this
      · exact this
theorem St.slots (h : St G S0 vals venv env S) (is : List Nat) : St G S0 (pd (slotsOf venv.s env is) ++ vals) venv env S := by
  obtain ⟨O, hc, hv⟩ := h
  refine ⟨O, hc, fun v hv' => ?_⟩
  rcases List.mem_append.mp hv' with hv' | hv'
  · obtain ⟨u, hu, rfl⟩ := List.mem_map.mp hv'
    obtain ⟨i, h1, h2⟩ := slotsOf_mem hu
    obtain ⟨x, h3, h4⟩ := hc.slot i _ h1
    rw [h2] at h3; cases h3
    exact h4
  · exact hv v hv'
/-- back from a comprehension's turn -/
theorem Core.back {sl own : List Nat} {env1 : PEnv} {venv1 venv2 : VEnv} {E : List Nat} {S1 : Store} (s : Sets sl E S1 (wipeP env own) env1 (wipeV venv own) venv1) (hsl : ∀ i ∈ sl, i ∈ own) (hlen : venv.s.length = env.length) (hok : ownOk venv own = true)
    (hs : RVs2 G O venv2 env1 S (pd (slotsOf venv.s env own))) (hsome : ∀ (i : Nat) (p : PyData), venv.s[i]? = some (some (VX.d p)) → ∃ x : PV, env[i]? = some (some x)) (h2 : venv2.s = venv1.s) (hc2 : Core G S0 O venv2 env1 S) : Core G S0 O ⟨venv.s, venv2.n⟩ env S := by
  obtain ⟨l1, l2, s1, s2⟩ := s
  have out : ∀ i, i ∉ own → env1[i]? = env[i]? ∧ venv1.s[i]? = venv.s[i]? := fun i hi => by
    have := s1 i fun z => hi (hsl i z)
    rw [wipeP_get, wipeV_get, if_neg hi, if_neg hi] at this
    exact this
  have no_ow : ∀ i ∈ own, ∀ ds, venv.s[i]? ≠ some (some (.ow ds)) := fun i hi ds e => by
    have := List.all_eq_true.mp hok i hi
    rw [e] at this
    cases this
  have h := hc2
  have owned : ∀ {j m : Nat}, OwnAt ⟨venv.s, venv2.n⟩ env j m → OwnAt venv2 env1 j m := fun {j m} ⟨⟨ds, hv⟩, he⟩ => by
    by_cases hj : j ∈ own
    · exact (no_ow j hj ds hv).elim
    · exact ⟨⟨ds, by rw [h2, (out j hj).2]; exact hv⟩, by rw [(out j hj).1]; exact he⟩
  refine ⟨h.inv, h.kp, hlen, h.new, fun i v hv => ?_, fun i j n a b => h.inj i j n (owned a) (owned b)⟩
  by_cases hi : i ∈ own
  · have := List.all_eq_true.mp hok i hi
    rw [show venv.s[i]? = some (some v) from hv] at this
    cases v with
    | d p =>
      obtain ⟨x, hx⟩ := hsome i p hv
      exact ⟨x, hx, hs (.d p, x) (List.mem_map.mpr ⟨(p, x), slotsOf_at (venv := venv.s) hv hx hi, rfl⟩)⟩
    | _ => cases this
  · rw [← (out i hi).1]
    exact h.slot i v (by rw [h2, (out i hi).2]; exact hv)
def vLcL (tg : VG) (tt : VT) (te : V) (own : List Nat) (K : VEnv → List PyData → Prop) : List PyData → VEnv → List PyData → Prop
  | [], e, acc => K e acc
  | p :: ps, e, acc => match tg p (wipeV e own) with
    | some e1 => tt e1 fun e2 b => e2.s = e1.s ∧ match b with
      | true => te e2 fun e3 y => e3.s = e1.s ∧ someP (stab y) fun q => acc.length < sizeLine ∧ vLcL tg tt te own K ps ⟨e.s, e3.n⟩ (acc ++ [q])
      | false => vLcL tg tt te own K ps ⟨e.s, e2.n⟩ acc
    | none => False
def vLc (vi : VI) (tg : VG) (tt : VT) (te : V) (own : List Nat) : V := fun e Q => vi e fun e1 ps => ownOk e1 own = true ∧ vLcL tg tt te own (fun e2 acc => Q e2 (.fr acc)) ps e1 []
/-- pending values stay under other slots -/
def NoOw (vals : Vals) : Prop := ∀ v ∈ vals, ∀ i, v.1 ≠ .ow i
theorem RVs2.inEnv {venv' : VEnv} {env' : PEnv} (h : RVs2 G O venv env S vals) (ho : ∀ i n, OwnAt venv env i n → OwnAt venv' env' i n) : RVs2 G O venv' env' S vals := fun v hv => by
  have := h v hv
  revert this
  cases v.1 with
  | d p => exact id
  | ty n => exact id
  | tok n => exact id
  | fr p => exact id
  | ow i => rintro ⟨n, h1, h2⟩; exact ⟨n, h1, ho i n h2⟩
theorem sim_lc {wi : WI} {vi : VI} {g : WG} {vg : VG} {sl own : List Nat} {wt : WT} {vt : VT} {we : W} {ve : V} (hi : SimI T wi vi) (hg : SimG g vg sl) (hsl : (sl.all fun i => own.contains i) = true) (ht : SimT T wt vt) (he : Sim T we ve) :
    Sim T (wLc wi g wt we own) (vLc vi vg vt ve own) := by
  have hsl' : ∀ i ∈ sl, i ∈ own := fun i hi => by simpa using List.all_eq_true.mp hsl i hi
  refine ⟨fun G S0 vals venv env S P Q st hv hP => hi.run G S0 vals venv env S _ _ st hv fun e ps it l S1 h1 hit st1 => ?_⟩
  obtain ⟨hok, h1⟩ := h1
  refine ⟨ps.length + 1, ?_⟩
  obtain ⟨O1, hc1, hvs1⟩ := st1.slots own
  have hL := new_free hc1
  have n0 := hc1.lt
  -- the turns
  have hsome : ∀ (i : Nat) (p : PyData), e.s[i]? = some (some (VX.d p)) → ∃ x : PV, env[i]? = some (some x) := fun i p hv => let ⟨x, h, _⟩ := hc1.slot i _ hv; ⟨x, h⟩
  have key : ∀ (k i cn : Nat) (acc : List PyData) (xs : List PV) (S : Store) (O : List Nat), i + k = ps.length → S[S1.length]? = some (.lst xs) →
      (∃ S2, Core (G.add [S1.length] S2 hL) S0 O ⟨e.s, cn⟩ env S ∧ RVs2 (G.add [S1.length] S2 hL) O ⟨e.s, cn⟩ env S (pd (slotsOf e.s env own) ++ (pd l ++ vals)) ∧ Rps (O ++ (G.add [S1.length] S2 hL).cells) S acc xs) →
      vLcL vg vt ve own (fun e2 acc => Q e2 (.fr acc)) (ps.drop i) ⟨e.s, cn⟩ acc → wLcL it g wt we own env S1.length P (k + 1) i S := by
    intro k
    induction k with
    | zero =>
      rintro i cn acc xs S O e1 hS ⟨S2, hc, hvs, hr⟩ hl
      have : ps.drop i = [] := List.drop_eq_nil_of_le (by omega)
      rw [this] at hl
      unfold wLcL
      have := (hit _ S fun v hv => hvs (.d v.1, v.2) (List.mem_append_right _ (List.mem_append_left _ (List.mem_map.mpr ⟨v, hv, rfl⟩)))).1
      rw [show i = ps.length by omega, this]
      refine hP _ _ _ _ hl ⟨S1.length :: O, ?_, ?_, S1.length, xs, rfl, by simp, fun j o => ?_, hS, ?_⟩
      · refine hc.on (G' := G) rfl hc.inv.1 .refl (fun _ _ => rfl) ⟨hc.kp.le, fun m c hm hc' => hc.kp.at_ m c (fun z => ?_) hc'⟩ (fun m hm => ?_) (fun m hm => ?_) fun j m o => List.mem_cons_of_mem _ (ow_lt hc o)
        · rcases List.mem_append.mp z with z | z
          · rw [List.mem_singleton] at z
            have := lt_of_at hc'
            omega
          · exact hm z
        · rcases List.mem_append.mp hm with hm | hm
          · rcases List.mem_cons.mp hm with rfl | hm
            · exact .inl (List.mem_append_right _ (List.mem_append_left _ (by simp)))
            · exact .inl (List.mem_append_left _ hm)
          · exact .inl (List.mem_append_right _ (List.mem_append_right _ hm))
        · rcases List.mem_cons.mp hm with rfl | hm
          · exact ⟨n0, (hc.inv.2 _ (by simp)).1, hL _ (by simp)⟩
          · exact ⟨(hc.new m hm).1, (hc.new m hm).2.1, fun z => (hc.new m hm).2.2 (List.mem_append_right _ z)⟩
      · refine RVs2.on (fun v hv => hvs v (List.mem_append_right _ (List.mem_append_right _ hv))) (G' := G) rfl .refl fun m hm => ?_
        rcases List.mem_append.mp hm with hm | hm
        · rcases List.mem_cons.mp hm with rfl | hm
          · exact .inl (List.mem_append_right _ (List.mem_append_left _ (by simp)))
          · exact .inl (List.mem_append_left _ hm)
        · exact .inl (List.mem_append_right _ (List.mem_append_right _ hm))
      · exact (hc.new _ (ow_lt hc o)).2.2 (List.mem_append_left _ (by simp))
      · refine hr.sub fun m hm => ?_
        rcases List.mem_append.mp hm with hm | hm
        · rcases List.mem_cons.mp hm with rfl | hm
          · exact List.mem_append_right _ (List.mem_append_left _ (by simp))
          · exact List.mem_append_left _ hm
        · exact List.mem_append_right _ (List.mem_append_right _ hm)
    | succ k ih =>
      rintro i cn acc xs S O e1 hS ⟨S2, hc, hvs, hr⟩ hl
      have hi : i < ps.length := by omega
      rw [List.drop_eq_getElem_cons hi] at hl
      generalize hp : ps[i] = p at hl
      have hpi : ps[i]? = some p := by rw [List.getElem?_eq_getElem hi, hp]
      unfold wLcL
      obtain ⟨x, hx, rx⟩ := (hit _ S fun v hv => hvs (.d v.1, v.2) (List.mem_append_right _ (List.mem_append_left _ (List.mem_map.mpr ⟨v, hv, rfl⟩)))).2 i p hpi
      rw [hx]
      unfold vLcL at hl
      split at hl
      · rename_i v1 hv1
        obtain ⟨env1, hg1, hs1⟩ := hg.run _ S x p (wipeP env own) (wipeV ⟨e.s, cn⟩ own) v1 (by rw [wipeV_len, wipeP_len]; exact hc.len) rx hv1
        simp only [hg1]
        have hcI := (hc.wipe own).sets hs1
        -- what waits inside: the outer slots, the walked, the elder ones, what has been gathered
        have no_ow : ∀ i ∈ own, ∀ ds, e.s[i]? ≠ some (some (.ow ds)) := fun i hi ds z => by
          have := List.all_eq_true.mp hok i hi
          rw [z] at this
          cases this
        have ownI : ∀ j n, OwnAt ⟨e.s, cn⟩ env j n → OwnAt v1 env1 j n := fun j n ⟨⟨ds, h1⟩, h2⟩ => by
          have hj : j ∉ own := fun z => no_ow j z ds h1
          have := hs1.2.2.1 j fun z => hj (hsl' j z)
          rw [wipeP_get, wipeV_get, if_neg hj, if_neg hj] at this
          exact ⟨⟨ds, by rw [this.2]; exact h1⟩, by rw [this.1]; exact h2⟩
        have ownO : ∀ (v2 : VEnv), v2.s = v1.s → ∀ j n, OwnAt v2 env1 j n → OwnAt ⟨e.s, v2.n⟩ env j n := fun v2 hv2 j n ⟨⟨ds, h1⟩, h2⟩ => by
          rw [hv2] at h1
          by_cases hj : j ∈ sl
          · have hlt : j < (wipeP env own).length := by rw [← hs1.1]; exact (List.getElem?_eq_some_iff.mp h2).1
            obtain ⟨q, y, c1, _⟩ := hs1.2.2.2 j hj hlt
            rw [c1] at h1; cases h1
          · have := hs1.2.2.1 j hj
            rw [this.2] at h1
            obtain ⟨g1, g2⟩ := wipe_some h1
            rw [this.1, wipeP_get, if_neg g1] at h2
            exact ⟨⟨ds, g2⟩, h2⟩
        have stI : St (G.add [S1.length] S2 hL) S0 ((.d (.tuple acc), .tup xs) :: (pd (slotsOf e.s env own) ++ (pd l ++ vals))) v1 env1 S := ⟨O, hcI, fun v hv => by
          rcases List.mem_cons.mp hv with rfl | hv
          · exact Rp.tup hr
          · exact RVs2.inEnv hvs ownI v hv⟩
        refine ht.run _ S0 _ v1 env1 S _ _ stI hl fun e2 b S3 h3 st3 => ?_
        obtain ⟨he2, h3⟩ := h3
        -- after a turn
        have back : ∀ {v2 : VEnv} {O' : List Nat} {S4 : Store}, v2.s = v1.s → Core (G.add [S1.length] S2 hL) S0 O' v2 env1 S4 → RVs2 (G.add [S1.length] S2 hL) O' v2 env1 S4 ((.d (.tuple acc), .tup xs) :: (pd (slotsOf e.s env own) ++ (pd l ++ vals))) →
            S4[S1.length]? = some (.lst xs) ∧ Core (G.add [S1.length] S2 hL) S0 O' ⟨e.s, v2.n⟩ env S4 ∧ RVs2 (G.add [S1.length] S2 hL) O' ⟨e.s, v2.n⟩ env S4 (pd (slotsOf e.s env own) ++ (pd l ++ vals)) ∧ Rps (O' ++ (G.add [S1.length] S2 hL).cells) S4 acc xs := fun {v2 O' S4} hv2 c4 v4 => by
          refine ⟨?_, Core.back (venv := ⟨e.s, cn⟩) (venv1 := v1) hs1 hsl' hc.len hok (fun v hv => v4 v (List.mem_cons_of_mem _ (List.mem_append_left _ hv))) hsome hv2 c4, RVs2.inEnv (fun v hv => v4 v (List.mem_cons_of_mem _ hv)) (ownO v2 hv2), ?_⟩
          · rw [(c4.inv.2 _ (by simp)).2, ← (hc.inv.2 _ (by simp)).2]; exact hS
          · match (show Rp _ S4 (.tuple acc) (.tup xs) from v4 (.d (.tuple acc), .tup xs) (List.mem_cons_self ..)) with
            | .tup q => exact q
        cases b with
        | false =>
          obtain ⟨O3, c3, v3⟩ := st3
          obtain ⟨q1, q2, q3, q4⟩ := back he2 c3 v3
          exact ih (i + 1) e2.n acc xs S3 O3 (by omega) q1 ⟨S2, q2, q3, q4⟩ h3
        | true =>
          refine he.run _ S0 _ e2 env1 S3 _ _ st3 h3 fun e3 y z S4 h4 r4 => ?_
          obtain ⟨he3, h4⟩ := h4
          obtain ⟨q, hq, hlt, h5⟩ := someP_of h4
          obtain ⟨O4, c4, v4⟩ := r4.pend
          have rz : Rp (O4 ++ (G.add [S1.length] S2 hL).cells) S4 q z := stab_rp (v4 (pl y, z) (by simp)) (by cases y <;> exact hq)
          obtain ⟨q1, q2, q3, q4⟩ := back he3 c4 fun v hv => v4 v (List.mem_cons_of_mem _ hv)
          simp only [q1]
          refine ⟨by rw [← hr.length]; exact hlt, ?_⟩
          have kk : Kp (O4 ++ (G.add [S1.length] S2 hL).cells) S4 (S4.set S1.length (.lst (xs ++ [z]))) := .set (List.mem_append_right _ (List.mem_append_left _ (by simp)))
          refine ih (i + 1) e3.n (acc ++ [q]) (xs ++ [z]) _ O4 (by omega) (List.getElem?_set_self (c4.inv.2 _ (by simp)).1) ⟨_, q2.reguard n0, q3.reguard, (q4.mono kk).snoc (rz.mono kk)⟩ h5
      · exact hl.elim
  refine key ps.length 0 e.n [] [] _ O1 (by omega) (at_new _ _) ⟨_, hc1.guard hL, hvs1.guard hL, .nil⟩ ?_
  rw [List.drop_zero]
  exact h1

/-! ### dicts -/
def putD (kvs : List (PyData × PyData)) (k : Key) (y : PyData) : List (PyData × PyData) :=
  if (kvs.any fun kv => decide (keyOfD kv.1 = some k)) = true then kvs.map (fun kv => if keyOfD kv.1 = some k then (kv.1, y) else kv) else kvs ++ [(keyD k, y)]
theorem Rpk.put {E : List Nat} {k : Key} {y : PyData} {x : PV} (r : Rp E S y x) {kvs : List (PyData × PyData)} {us : List (Key × PV)} (h : Rpk E S kvs us) : Rpk E S (putD kvs k y) (putP us k x) := by
  have any : ∀ {kvs : List (PyData × PyData)} {us : List (Key × PV)}, Rpk E S kvs us → (kvs.any fun kv => decide (keyOfD kv.1 = some k)) = (us.any fun kv => decide (kv.1 = k)) := by
    intro kvs
    induction kvs with
    | nil => intro us h; cases h; rfl
    | cons a t ih =>
      intro us h
      cases h with
      | cons q t' => simp only [List.any_cons, ih t', keyOfD_k, Option.some.injEq]
  have repl : ∀ {kvs : List (PyData × PyData)} {us : List (Key × PV)}, Rpk E S kvs us → Rpk E S (kvs.map fun kv => if keyOfD kv.1 = some k then (kv.1, y) else kv) (us.map fun kv => if kv.1 = k then (kv.1, x) else kv) := by
    intro kvs
    induction kvs with
    | nil => intro us h; cases h; exact .nil
    | cons a t ih =>
      intro us h
      cases h with
      | cons q t' =>
        rename_i j d z us
        simp only [List.map_cons, keyOfD_k, Option.some.injEq]
        by_cases e : j = k
        · rw [if_pos e, if_pos e]; exact .cons r (ih t')
        · rw [if_neg e, if_neg e]; exact .cons q (ih t')
  have snoc : ∀ {kvs : List (PyData × PyData)} {us : List (Key × PV)}, Rpk E S kvs us → Rpk E S (kvs ++ [(keyD k, y)]) (us ++ [(k, x)]) := by
    intro kvs
    induction kvs with
    | nil => intro us h; cases h; exact .cons r .nil
    | cons a t ih =>
      intro us h
      cases h with
      | cons q t' => exact .cons q (ih t')
  unfold putD putP
  rw [any h]
  split
  · exact repl h
  · exact snoc h
def vPairs : List (Key × V) → VEnv → (VEnv → List (Key × PyData) → Prop) → Prop
  | [], e, Q => Q e []
  | (k, v) :: r, e, Q => v e fun e1 y => someP (stab y) fun p => vPairs r e1 fun e2 kvs => Q e2 ((k, p) :: kvs)
def vDict (ps : List (Key × V)) : V := fun e Q => vPairs ps e fun e1 kvs => kvs.length ≤ 15 ∧ Q e1 (.d (.dict (kvs.foldl (fun acc kv => putD acc kv.1 kv.2) [])))
inductive SimP (T : Tok) : List (Key × W) → List (Key × V) → Prop
  | nil : SimP T [] []
  | cons {k : Key} {w : W} {v : V} {ws : List (Key × W)} {vs : List (Key × V)} : Sim T w v → SimP T ws vs → SimP T ((k, w) :: ws) ((k, v) :: vs)
theorem merge_rpk {E : List Nat} : ∀ {kvs : List (Key × PyData)} {us : List (Key × PV)} {a : List (PyData × PyData)} {b : List (Key × PV)}, kvs.map (·.1) = us.map (·.1) → Rps E S (kvs.map (·.2)) (us.map (·.2)) → Rpk E S a b →
    Rpk E S (kvs.foldl (fun acc kv => putD acc kv.1 kv.2) a) (us.foldl (fun acc kv => putP acc kv.1 kv.2) b)
  | [], [], _, _, _, _, h => h
  | (k, p) :: kvs, (j, x) :: us, a, b, hk, hr, h => by
    have hk1 : k = j ∧ kvs.map (·.1) = us.map (·.1) := by simpa only [List.map_cons, List.cons.injEq] using hk
    obtain ⟨rfl, hk2⟩ := hk1
    match (show Rps E S (p :: kvs.map (·.2)) (x :: us.map (·.2)) from hr) with
    | .cons r t =>
      simp only [List.foldl_cons]
      exact merge_rpk hk2 t (h.put r)
  | [], _ :: _, _, _, hk, _, _ => by simp at hk
  | _ :: _, [], _, _, hk, _, _ => by simp at hk
theorem sim_dict {ps : List (Key × W)} {qs : List (Key × V)} (h : SimP T ps qs) : Sim T (wDict ps) (vDict qs) := by
  refine ⟨fun G S0 vals venv env S P Q st hv hP => ?_⟩
  obtain ⟨O0, hc0, hv0⟩ := st
  have hL := new_free hc0
  have n0 := hc0.lt
  have key : ∀ {ps : List (Key × W)} {qs : List (Key × V)}, SimP T ps qs → ∀ (e : VEnv) (S1 : Store) (S2 : Store) (vals : Vals) (PP : List (Key × PV) → Store → Prop) (QQ : VEnv → List (Key × PyData) → Prop), St (G.add [S.length] S2 hL) S0 vals e env S1 → vPairs qs e QQ →
      (∀ e1 kvs us S3, QQ e1 kvs → kvs.map (·.1) = us.map (·.1) → St (G.add [S.length] S2 hL) S0 ((.d (.tuple (kvs.map (·.2))), .tup (us.map (·.2))) :: vals) e1 env S3 → PP us S3) → wPairs ps env S1 PP := by
    intro ps qs h
    induction h with
    | nil =>
      intro e S1 S2 vals PP QQ st hq hPP
      obtain ⟨O, a, b⟩ := st
      exact hPP e [] [] S1 hq rfl ⟨O, a, fun v hv => by rcases List.mem_cons.mp hv with rfl | hv; exact Rp.tup .nil; exact b v hv⟩
    | cons h _ ih =>
      intro e S1 S2 vals PP QQ st hq hPP
      refine h.run _ S0 _ e env S1 _ _ st hq fun e1 r x S3 h3 r3 => ?_
      obtain ⟨p, hp, h4⟩ := someP_of h3
      refine ih e1 S3 S2 _ _ _ r3.pend h4 fun e2 kvs us S4 h5 hk st4 => ?_
      refine hPP e2 _ _ S4 h5 (by simp [hk]) ?_
      obtain ⟨O, a, b⟩ := st4
      refine ⟨O, a, fun v hv => ?_⟩
      rcases List.mem_cons.mp hv with rfl | hv
      · have r1 : Rp (O ++ (G.add [S.length] S2 hL).cells) S4 p x := stab_rp (b (pl r, x) (by simp)) (by cases r <;> exact hp)
        match (show Rp _ S4 (.tuple (kvs.map (·.2))) (.tup (us.map (·.2))) from b _ (List.mem_cons_self ..)) with
        | .tup r2 => exact Rp.tup (.cons r1 r2)
      · exact b v (by simp [hv])
  refine key h venv _ _ vals _ _ ⟨O0, hc0.guard hL, hv0.guard hL⟩ hv fun e1 kvs us S3 h3 hk st3 => ?_
  obtain ⟨hle, hq⟩ := h3
  obtain ⟨O, hc, hvs⟩ := st3
  have hS : S3[S.length]? = some (.dic []) := by rw [(hc.inv.2 _ (by simp)).2]; exact at_new _ _
  have kl : us.length ≤ 15 := by
    have := congrArg List.length hk
    simp only [List.length_map] at this
    omega
  refine ⟨hS, kl, ?_⟩
  have hc' := (hc.reguard (c := .dic (us.foldl (fun acc kv => putP acc kv.1 kv.2) [])) n0)
  have hv' := (hvs.reguard (c := .dic (us.foldl (fun acc kv => putP acc kv.1 kv.2) [])))
  refine hP _ _ _ _ hq ⟨O, hc'.unguard n0, fun v hv => hv'.unguard v (List.mem_cons_of_mem _ hv), ?_⟩
  match (show Rp _ _ (.tuple (kvs.map (·.2))) (.tup (us.map (·.2))) from hv' _ (List.mem_cons_self ..)) with
  | .tup r =>
    refine Rp.dic (fun z => ?_) (List.getElem?_set_self (hc.inv.2 _ (by simp)).1) (merge_rpk hk (r.sub fun m hm => ?_) .nil)
    · rcases List.mem_append.mp z with z | z
      · exact (hc.new _ z).2.2 (List.mem_append_left _ (by simp))
      · exact hL _ (by simp) z
    · rcases List.mem_append.mp hm with hm | hm
      · exact List.mem_append_left _ hm
      · exact List.mem_append_right _ (List.mem_append_right _ hm)
theorem sim_dict0 : Sim T (fun _ S P => P (.ref S.length) (S ++ [.dic []])) (fun e Q => Q e (.d (.dict []))) := by
  refine ⟨fun G S0 vals venv env S P Q ⟨O, hc, hvs⟩ hv hP => ?_⟩
  have k : Kp [] S (S ++ [.dic []]) := .push
  refine hP _ _ _ _ hv ⟨O, hc.keep k, hvs.keep k, Rp.dic (fun z => ?_) (at_new _ _) .nil⟩
  rcases List.mem_append.mp z with z | z
  · have := (hc.new _ z).2.1; omega
  · have := G.dom _ S hc.inv _ z; omega

/-! ### calls -/
abbrev VCon := List VV → Nat → (VV → Nat → Prop) → Prop
/-- how an argument lies -/
def RA2 (G : Gd T) (S : Store) : VV → PV → Prop
  | .d p, x => Rp G.cells S p x
  | .ty n, x => x = .ty n
  | .tok k, x => ∃ n fs, G.tk k = some (n :: fs) ∧ x = .ref n
  | _, _ => False
/-- how what is returned lies -/
def Out (G : Gd T) (S0 S' : Store) (r : VV) (m : Nat) (x : PV) : Prop := G.inv m S' ∧ Kp G.cells S0 S' ∧ match r with
  | .fr ds => ∃ n xs, x = .ref n ∧ S0.length ≤ n ∧ n ∉ G.cells ∧ S'[n]? = some (.lst xs) ∧ Rps (n :: G.cells) S' ds xs
  | r => RA2 G S' r x
/-- a promise over data, as one over plain values -/
def conV (T : Tok) (c : VCon) : Con := fun xs S P => ∃ (G : Gd T) (us : List VV) (m : Nat) (Q : VV → Nat → Prop), G.inv m S ∧ us.length = xs.length ∧ (∀ v ∈ us.zip xs, RA2 G S v.1 v.2) ∧ c us m Q ∧ ∀ r m' x S', Q r m' → Out G S S' r m' x → P x S'
def flatD : PyData → Bool
  | .none | .bool _ | .int _ | .str _ => true
  | _ => false
def argS : VV → Option VV
  | .ow _ => none
  | .fr ds => some (.d (.list ds))
  | v => some v
def argD (e : VEnv) : VV → Option VV
  | .ow i => (owAt e i).map fun ds => .d (.list ds)
  | .fr ds => some (.d (.list ds))
  | v => some v
def allA (f : VV → Option VV) : List VV → Option (List VV)
  | [] => some []
  | v :: vs => match f v, allA f vs with
    | some u, some us => some (u :: us)
    | _, _ => none
def isFlat : VV → Bool
  | .d p => flatD p
  | _ => false
def goF (c : VCon) (us : List VV) (e1 : VEnv) (Q : VQ) : Prop := match allA argS us with
  | some us' => c us' e1.n fun r m => Q ⟨e1.s, m⟩ r
  | none => match allA (argD e1) us with
    | some us' => c us' e1.n fun r m => isFlat r = true ∧ Q ⟨e1.s, m⟩ r
    | none => False
def vF (c : VCon) (vs : VA) : V := fun e Q => vs e fun e1 us => goF c us e1 Q
def vFK (c : VCon) (n : Nat) (is : List Nat) (vs : VA) : V := fun e Q => vs e fun e1 us => us.length = n ∧ goF c (perm (.d .none) is us) e1 Q
theorem ra_of {v u : VV} {x : PV} {hL} (h : RV2 G O venv env S v x) (ha : argS v = some u) : RA2 (G.add O S hL) S u x := by
  cases v with
  | d p => cases ha; exact h
  | ty n => cases ha; exact h
  | tok n => cases ha; exact h
  | ow i => cases ha
  | fr p => cases ha; exact h
theorem ra_ofD {v u : VV} {x : PV} (hc : Core G S0 O venv env S) (h : RV2 G O venv env S v x) (ha : argD venv v = some u) : RA2 G S u x := by
  cases v with
  | d p => cases ha; exact Rp.sub h fun m hm => List.mem_append_right _ hm
  | ty n => cases ha; exact h
  | tok n => cases ha; exact h
  | ow i =>
    obtain ⟨ds, hd, rfl⟩ := Option.map_eq_some_iff.mp ha
    obtain ⟨n, rfl, o⟩ := h
    obtain ⟨m, xs, h1, o1, h2, h3, h4⟩ := own_slot hc (owAt_of hd)
    rw [o.2] at h1; cases h1
    exact Rp.lst (hc.new _ h2).2.2 h3 (h4.sub fun m hm => List.mem_append_right _ hm)
  | fr p => cases ha; exact Rp.sub h fun m hm => List.mem_append_right _ hm
theorem allA_ra {f : VV → Option VV} {R R' : VV → PV → Prop} (hf : ∀ v u x, R v x → f v = some u → R' u x) : ∀ {us us' : List VV} {xs : List PV}, allA f us = some us' → us.length = xs.length → (∀ v ∈ us.zip xs, R v.1 v.2) → us'.length = xs.length ∧ ∀ v ∈ us'.zip xs, R' v.1 v.2
  | [], us', xs, h, hl, _ => by cases h; exact ⟨hl, fun v hv => by simp at hv⟩
  | u :: us, us', [], h, hl, ha => by simp at hl
  | u :: us, us', x :: xs, h, hl, ha => by
    unfold allA at h
    split at h
    · rename_i u1 us1 e1 e2
      cases h
      obtain ⟨i1, i2⟩ := allA_ra hf e2 (by simpa using hl) fun v hv => ha v (by simp only [List.zip_cons_cons]; exact List.mem_cons_of_mem _ hv)
      refine ⟨by simp [i1], fun v hv => ?_⟩
      simp only [List.zip_cons_cons, List.mem_cons] at hv
      rcases hv with rfl | hv
      · exact hf _ _ _ (ha (u, x) (by simp)) e1
      · exact i2 v hv
    · cases h
theorem go_run {c : VCon} {us : List VV} {xs : List PV} {P : PQ} {Q : VQ} (hc : Core G S0 O venv env S) (hvs : RVs2 G O venv env S vals) (ha : ∀ v ∈ us.zip xs, RV2 G O venv env S v.1 v.2) (hl : us.length = xs.length) (h : goF c us venv Q)
    (hP : ∀ venv' r x S', Q venv' r → Res G S0 vals venv' env S' r x → P x S') : conV T c xs S P := by
  unfold goF at h
  split at h
  · rename_i us1 hall
    have hL : ∀ n ∈ O, n ∉ G.cells := fun n hn => (hc.new n hn).2.2
    obtain ⟨l1, l2⟩ := allA_ra (R := RV2 G O venv env S) (R' := RA2 (G.add O S hL) S) (fun v u x hr hf => ra_of hr hf) hall hl ha
    refine ⟨G.add O S hL, us1, venv.n, _, ⟨hc.inv, fun n hn => ⟨(hc.new n hn).2.1, rfl⟩⟩, l1, l2, h, fun r m x S' hq ho => ?_⟩
    obtain ⟨i1, k1, o1⟩ := ho
    have kO : ∀ n ∈ O, S'[n]? = S[n]? := fun n hn => (i1.2 n hn).2
    have kc : Kp G.cells S S' := ⟨k1.le, fun mm d hm hd => by
      by_cases z : mm ∈ O
      · rw [kO mm z]; exact hd
      · exact k1.at_ mm d (fun y => by rcases List.mem_append.mp y with y | y; exact z y; exact hm y) hd⟩
    have go : ∀ {O' : List Nat}, (∀ n ∈ O' ++ G.cells, n ∈ O ++ G.cells ∨ S.length ≤ n) → (∀ n ∈ O', n ∈ O ∨ (S.length ≤ n ∧ n < S'.length ∧ n ∉ G.cells)) → (∀ n ∈ O, n ∈ O') → Core G S0 O' ⟨venv.s, m⟩ env S' ∧ RVs2 G O' ⟨venv.s, m⟩ env S' vals := fun {O'} h1 h2 h3 =>
      ⟨hc.on (G' := G) rfl i1.1 (kc.sub fun mm hmm => List.mem_append_right _ hmm) kO (hc.kp.trans kc) h1 (fun n hn => by
        rcases h2 n hn with z | ⟨z1, z2, z3⟩
        · exact ⟨(hc.new n z).1, Nat.lt_of_lt_of_le (hc.new n z).2.1 kc.le, (hc.new n z).2.2⟩
        · exact ⟨Nat.le_trans hc.lt z1, z2, z3⟩) fun i n o => h3 n (ow_lt hc o), RVs2.on hvs (G' := G) rfl (kc.sub fun mm hmm => List.mem_append_right _ hmm) h1⟩
    have plain : (∀ ds, r ≠ .fr ds) → RA2 (G.add O S hL) S' r x → P x S' := fun hr hra => by
      obtain ⟨a, b⟩ := go (O' := O) (fun n hn => .inl hn) (fun n hn => .inl hn) fun n hn => hn
      refine hP _ _ _ _ hq ⟨O, a, b, ?_⟩
      cases r with
      | fr ds => exact (hr ds rfl).elim
      | d p => exact hra
      | ty n => exact hra
      | tok n => exact hra
      | ow i => exact hra.elim
    cases r with
    | fr ds =>
      obtain ⟨n, ys, rfl, n1, n2, n3, n4⟩ := o1
      have hnO : n ∉ O := fun z => n2 (List.mem_append_left _ z)
      have hnc : n ∉ G.cells := fun z => n2 (List.mem_append_right _ z)
      obtain ⟨a, b⟩ := go (O' := n :: O) (fun k hk => by
        rcases List.mem_append.mp hk with hk | hk
        · rcases List.mem_cons.mp hk with rfl | hk
          · exact .inr n1
          · exact .inl (List.mem_append_left _ hk)
        · exact .inl (List.mem_append_right _ hk)) (fun k hk => by
        rcases List.mem_cons.mp hk with rfl | hk
        · exact .inr ⟨n1, lt_of_at n3, hnc⟩
        · exact .inl hk) fun k hk => List.mem_cons_of_mem _ hk
      exact hP _ _ _ _ hq ⟨n :: O, a, b, n, ys, rfl, by simp, fun j o => hnO (ow_lt hc o), n3, n4⟩
    | d p => exact plain (fun _ z => by cases z) o1
    | ty p => exact plain (fun _ z => by cases z) o1
    | tok p => exact plain (fun _ z => by cases z) o1
    | ow p => exact plain (fun _ z => by cases z) o1
  · split at h
    · rename_i us' hus
      obtain ⟨l1, l2⟩ := allA_ra (R := RV2 G O venv env S) (R' := RA2 G S) (fun v u x hr hf => ra_ofD hc hr hf) hus hl ha
      refine ⟨G, us', venv.n, _, hc.inv, l1, l2, h, fun r m x S' hq ho => ?_⟩
      obtain ⟨i1, k1, o1⟩ := ho
      have kO : ∀ n ∈ O, S'[n]? = S[n]? := fun n hn => by
        rw [List.getElem?_eq_getElem (hc.new n hn).2.1]
        exact k1.at_ n _ (hc.new n hn).2.2 (List.getElem?_eq_getElem (hc.new n hn).2.1)
      have a : Core G S0 O ⟨venv.s, m⟩ env S' := hc.on (G' := G) (O' := O) rfl i1 (k1.sub fun mm hmm => List.mem_append_right _ hmm) kO (hc.kp.trans k1) (fun n hn => .inl hn) (fun n hn => ⟨(hc.new n hn).1, Nat.lt_of_lt_of_le (hc.new n hn).2.1 k1.le, (hc.new n hn).2.2⟩) fun i n o => ow_lt hc o
      have b : RVs2 G O ⟨venv.s, m⟩ env S' vals := RVs2.on hvs (G' := G) (O' := O) rfl (k1.sub fun mm hmm => List.mem_append_right _ hmm) fun n hn => .inl hn
      obtain ⟨hf, hq⟩ := hq
      cases r with
      | d p =>
        have o1 : Rp G.cells S' p x := o1
        refine hP _ _ _ _ hq ⟨O, a, b, ?_⟩
        show Rp _ _ _ _
        cases o1 with
        | non => exact .non
        | bl _ => exact .bl _
        | int _ => exact .int _
        | str _ => exact .str _
        | _ => cases hf
      | _ => cases hf
    · exact h.elim
theorem sim_F {c : VCon} (h : SimA T ws vs) : Sim T (wF (conV T c) ws) (vF c vs) := by
  refine ⟨fun G S0 vals venv env S P Q st hv hP => h.run G S0 vals venv env S (fun xs S1 => conV T c xs S1 P) _ st hv fun e1 us xs S1 h1 hl st1 => ?_⟩
  obtain ⟨O, hc, hvs⟩ := st1
  exact go_run hc (vals_tail hvs) (fun v hv => hvs v (List.mem_append_left _ hv)) hl h1 hP
theorem perm_zip {us : List VV} {xs : List PV} (h : ∀ v ∈ us.zip xs, RV2 G O venv env S v.1 v.2) (hl : us.length = xs.length) : ∀ is : List Nat, ∀ v ∈ (perm (.d .none) is us).zip (perm .non is xs), RV2 G O venv env S v.1 v.2
  | [], v, hv => by simp [perm] at hv
  | i :: is, v, hv => by
    rcases List.mem_cons.mp (show v ∈ (us.getD i (.d .none), xs.getD i .non) :: (perm (.d .none) is us).zip (perm .non is xs) from hv) with rfl | hv
    · dsimp only
      rw [List.getD_eq_getElem?_getD, List.getD_eq_getElem?_getD]
      by_cases hi : i < us.length
      · have hx : i < xs.length := by omega
        rw [List.getElem?_eq_getElem hi, List.getElem?_eq_getElem hx]
        exact h (us[i], xs[i]) (by rw [List.mem_iff_getElem?]; exact ⟨i, by rw [List.getElem?_zip_eq_some]; exact ⟨List.getElem?_eq_getElem hi, List.getElem?_eq_getElem hx⟩⟩)
      · rw [List.getElem?_eq_none (by omega), List.getElem?_eq_none (by omega)]
        exact Rp.non
    · exact perm_zip h hl is v hv
theorem sim_FK {c : VCon} {n : Nat} {is : List Nat} (h : SimA T ws vs) : Sim T (wFK (conV T c) n is ws) (vFK c n is vs) := by
  refine ⟨fun G S0 vals venv env S P Q st hv hP => h.run G S0 vals venv env S (fun xs S1 => xs.length = n ∧ conV T c (perm .non is xs) S1 P) _ st hv fun e1 us xs S1 h1 hl st1 => ?_⟩
  obtain ⟨O, hc, hvs⟩ := st1
  exact ⟨by rw [← hl]; exact h1.1, go_run hc (vals_tail hvs) (perm_zip (fun v hv => hvs v (List.mem_append_left _ hv)) hl is) (by simp [perm]) h1.2 hP⟩
end
end Vl
set_option Elab.async false
set_option linter.all false
set_option maxRecDepth 100000
/-! Vt6: statements, defs. -/
namespace Vl
open PySem PySem.Spec PyProof.Rows L2 Lt
structure VEnds where
  nx : VEnv → Prop
  rt : VV → Nat → Prop
  bk : VEnv → Prop
  ct : VEnv → Prop
abbrev VS := VEnv → VEnds → Prop
section
variable {T : Tok}
/-- the ends fit -/
structure EndsOk (G : Gd T) (S0 : Store) (l : List (PyData × PV)) (D : PEnds) (VD : VEnds) : Prop where
  nx : ∀ venv env S, VD.nx venv → St G S0 (pd l) venv env S → D.nx env S
  rt : ∀ r m x S, VD.rt r m → Out G S0 S r m x → D.rt x S
  bk : ∀ venv env S, VD.bk venv → St G S0 (pd l) venv env S → D.bk env S
  ct : ∀ venv env S, VD.ct venv → St G S0 (pd l) venv env S → D.ct env S
structure SimS (T : Tok) (w : WS) (v : VS) : Prop where
  run : ∀ (G : Gd T) (S0 : Store) (l : List (PyData × PV)) (venv : VEnv) (env : PEnv) (S : Store) (D : PEnds) (VD : VEnds), St G S0 (pd l) venv env S → v venv VD → EndsOk G S0 l D VD → w env S D
variable {G : Gd T} {S0 S S' : Store} {O : List Nat} {venv : VEnv} {env : PEnv} {vals : Vals} {w wa wb wc : W} {v va vb vc : V} {ws : WA} {vs : VA} {a b c : WS} {x y z : VS} {wt : WT} {vt : VT}
def vNx : VS := fun e D => D.nx e
def vSq (x y : VS) : VS := fun e D => x e { D with nx := fun e1 => y e1 D }
theorem sim_nx : SimS T wNx vNx := ⟨fun G S0 l venv env S D VD st hv he => he.nx _ _ _ hv st⟩
theorem sim_sq (ha : SimS T a x) (hb : SimS T b y) : SimS T (wSq a b) (vSq x y) :=
  ⟨fun G S0 l venv env S D VD st hv he => ha.run G S0 l venv env S _ _ st hv ⟨fun e1 p1 S1 h1 st1 => hb.run G S0 l e1 p1 S1 D VD st1 h1 he, he.rt, he.bk, he.ct⟩⟩
theorem sim_break : SimS T (fun env S D => D.bk env S) (fun e D => D.bk e) := ⟨fun G S0 l venv env S D VD st hv he => he.bk _ _ _ hv st⟩
theorem sim_continue : SimS T (fun env S D => D.ct env S) (fun e D => D.ct e) := ⟨fun G S0 l venv env S D VD st hv he => he.ct _ _ _ hv st⟩
def vDrop (va : V) : VS := fun e D => va e fun e1 _ => D.nx e1
theorem sim_drop (h : Sim T wa va) : SimS T (wDrop wa) (vDrop va) :=
  ⟨fun G S0 l venv env S D VD st hv he => h.run G S0 _ venv env S _ _ st hv fun e1 r p S1 h1 r1 => he.nx _ _ _ h1 r1.st⟩
def retV (e : VEnv) (r : VV) (Q : VV → Prop) : Prop := match r with
  | .ow i => someD (owAt e i) fun ds => Q (.fr ds)
  | r => Q r
def vRet (va : V) : VS := fun e D => va e fun e1 r => retV e1 r fun u => D.rt u e1.n
theorem out_of {r : VV} {p : PV} {Q : VV → Prop} (h : Res G S0 vals venv env S r p) (hq : retV venv r Q) : ∃ r', Q r' ∧ Out G S0 S r' venv.n p := by
  obtain ⟨O, hc, hv, hd⟩ := h
  have sub : ∀ {d : PyData} {x : PV}, Rp (O ++ G.cells) S d x → Rp G.cells S d x := fun h => h.sub fun m hm => List.mem_append_right _ hm
  have fr : ∀ {n : Nat} {xs : List PV} {ds : List PyData}, n ∈ O → S[n]? = some (.lst xs) → Rps (O ++ G.cells) S ds xs → Out G S0 S (.fr ds) venv.n (.ref n) := fun {n xs ds} h1 h2 h3 => by
    refine ⟨hc.inv, hc.kp, n, xs, rfl, (hc.new n h1).1, (hc.new n h1).2.2, h2, h3.sub fun m hm => ?_⟩
    rcases List.mem_cons.mp hm with rfl | hm
    · exact List.mem_append_left _ h1
    · exact List.mem_append_right _ hm
  cases r with
  | ow i =>
    obtain ⟨ds, h1, h2⟩ := someD_of hq
    obtain ⟨n, rfl, o⟩ := hd
    obtain ⟨m, xs, g1, g2, g3, g4, g5⟩ := own_slot hc (owAt_of h1)
    rw [o.2] at g1; cases g1
    exact ⟨_, h2, fr g3 g4 g5⟩
  | fr ds =>
    obtain ⟨n, xs, rfl, g1, g2, g3, g4⟩ := hd
    exact ⟨_, hq, fr g1 g3 g4⟩
  | d p => exact ⟨_, hq, hc.inv, hc.kp, sub hd⟩
  | ty n => exact ⟨_, hq, hc.inv, hc.kp, hd⟩
  | tok n => exact ⟨_, hq, hc.inv, hc.kp, hd⟩
theorem sim_ret (h : Sim T wa va) : SimS T (wRet wa) (vRet va) := by
  refine ⟨fun G S0 l venv env S D VD st hv he => h.run G S0 _ venv env S _ _ st hv fun e1 r p S1 h1 r1 => ?_⟩
  obtain ⟨r', h2, h3⟩ := out_of r1 h1
  exact he.rt _ _ _ _ h2 h3
def vRetN : VS := fun e D => D.rt (.d .none) e.n
theorem sim_retN : SimS T (fun _ S D => D.rt .non S) vRetN := by
  refine ⟨fun G S0 l venv env S D VD st hv he => ?_⟩
  obtain ⟨O, hc, _⟩ := st
  exact he.rt _ _ _ _ hv ⟨hc.inv, hc.kp, Rp.non⟩
def vIfS (t : VT) (x y : VS) : VS := fun e D => t e fun e1 c => match c with
  | true => x e1 D
  | false => y e1 D
theorem sim_ifS (ht : SimT T wt vt) (ha : SimS T a x) (hb : SimS T b y) : SimS T (wIfS wt a b) (vIfS vt x y) := by
  refine ⟨fun G S0 l venv env S D VD st hv he => ht.run G S0 _ venv env S _ _ st hv fun e1 c S1 h1 st1 => ?_⟩
  cases c with
  | true => exact ha.run G S0 l e1 env S1 D VD st1 h1 he
  | false => exact hb.run G S0 l e1 env S1 D VD st1 h1 he
/-- a slot gets a value -/
theorem Core.put {v : VX} {p : PV} {i : Nat} (h : Core G S0 O venv env S) (hx : RX G O S v p) (ho : ∀ ds, v = .ow ds → ∃ n, p = .ref n ∧ ∀ j, ¬ OwnAt venv env j n) : Core G S0 O (venv.put i (some v)) (env.set i (some p)) S := by
  have hlen := h.len
  have other : ∀ {j m : Nat}, j ≠ i → OwnAt (venv.put i (some v)) (env.set i (some p)) j m → OwnAt venv env j m := fun {j m} hj ⟨⟨ds, hv⟩, he⟩ => by
    rw [List.getElem?_set_ne (Ne.symm hj)] at hv he
    exact ⟨⟨ds, hv⟩, he⟩
  have self : ∀ {m : Nat}, OwnAt (venv.put i (some v)) (env.set i (some p)) i m → p = .ref m ∧ ∃ ds, v = .ow ds := fun {m} ⟨⟨ds, hv⟩, he⟩ => by
    have l1 : i < venv.s.length := by have := (List.getElem?_eq_some_iff.mp hv).1; rwa [List.length_set] at this
    rw [List.getElem?_set_self l1] at hv
    rw [List.getElem?_set_self (by omega)] at he
    cases he; cases hv
    exact ⟨rfl, ds, rfl⟩
  refine ⟨h.inv, h.kp, by rw [List.length_set, List.length_set]; exact hlen, h.new, fun j u hu => ?_, fun j k n hj hk => ?_⟩
  · by_cases e : i = j
    · subst e
      have l1 : i < venv.s.length := by have := (List.getElem?_eq_some_iff.mp hu).1; rwa [List.length_set] at this
      rw [List.getElem?_set_self l1] at hu
      cases hu
      exact ⟨p, List.getElem?_set_self (by omega), hx⟩
    · rw [List.getElem?_set_ne e] at hu ⊢
      exact h.slot j u hu
  · by_cases e1 : j = i
    · by_cases e2 : k = i
      · rw [e1, e2]
      · subst e1
        obtain ⟨q1, ds, q2⟩ := self hj
        obtain ⟨m, q3, q4⟩ := ho ds q2
        rw [q1] at q3; cases q3
        exact (q4 k (other e2 hk)).elim
    · by_cases e2 : k = i
      · subst e2
        obtain ⟨q1, ds, q2⟩ := self hk
        obtain ⟨m, q3, q4⟩ := ho ds q2
        rw [q1] at q3; cases q3
        exact (q4 j (other e1 hj)).elim
      · exact h.inj j k n (other e1 hj) (other e2 hk)
/-- x = e, the value is kept as it is -/
def setV (r : VV) (Q : VX → Prop) : Prop := match r with
  | .d p => Q (.d p)
  | .fr ds => Q (.d (.list ds))
  | .ty n => Q (.ty n)
  | .tok k => Q (.tok k)
  | .ow _ => False
def vSet (i : Nat) (va : V) : VS := fun e D => va e fun e1 r => setV r fun u => D.nx (e1.put i (some u))
theorem St.put {r : VV} {l : List (PyData × PV)} {p : PV} {i : Nat} {u : VX} (h : Res G S0 (pd l) venv env S r p) (hu : ∀ Q : VX → Prop, Q u → setV r Q) : St G S0 (pd l) (venv.put i (some u)) (env.set i (some p)) S := by
  obtain ⟨O, hc, hv⟩ := h.pend
  have hd := hv (pl r, p) (by simp)
  have hu' := hu (fun z => z = u) rfl
  refine ⟨O, hc.put ?_ fun ds z => ?_, pd_mem fun v hv' => hv v (List.mem_cons_of_mem _ hv')⟩
  · cases r with
    | d q => cases (show VX.d q = u from hu'); exact hd
    | fr q => cases (show VX.d (.list q) = u from hu'); exact hd
    | ty q => cases (show VX.ty q = u from hu'); exact hd
    | tok q => cases (show VX.tok q = u from hu'); exact hd
    | ow q => exact hu'.elim
  · subst z
    cases r with
    | d q => cases (show VX.d q = _ from hu')
    | fr q => cases (show VX.d (.list q) = _ from hu')
    | ty q => cases (show VX.ty q = _ from hu')
    | tok q => cases (show VX.tok q = _ from hu')
    | ow q => exact hu'.elim
theorem sim_set (i : Nat) (h : Sim T wa va) : SimS T (wSet i wa) (vSet i va) := by
  refine ⟨fun G S0 l venv env S D VD st hv he => h.run G S0 _ venv env S _ _ st hv fun e1 r p S1 h1 r1 => ?_⟩
  cases r with
  | d q => exact he.nx _ _ _ h1 (.put r1 fun Q z => z)
  | fr q => exact he.nx _ _ _ h1 (.put r1 fun Q z => z)
  | ty q => exact he.nx _ _ _ h1 (.put r1 fun Q z => z)
  | tok q => exact he.nx _ _ _ h1 (.put r1 fun Q z => z)
  | ow q => exact h1.elim
/-- x = e, a new list that the slot has for itself -/
def vSetO (i : Nat) (va : V) : VS := fun e D => va e fun e1 r => match r with
  | .fr ds => D.nx (e1.put i (some (.ow ds)))
  | _ => False
theorem sim_setO (i : Nat) (h : Sim T wa va) : SimS T (wSet i wa) (vSetO i va) := by
  refine ⟨fun G S0 l venv env S D VD st hv he => h.run G S0 _ venv env S _ _ st hv fun e1 r p S1 h1 r1 => ?_⟩
  split at h1
  · obtain ⟨O, hc, hvs, n, xs, rfl, g1, g2, g3, g4⟩ := r1
    exact he.nx _ _ _ h1 ⟨O, hc.put ⟨n, xs, rfl, g1, g3, g4⟩ fun ds z => ⟨n, rfl, g2⟩, pd_mem hvs⟩
  · exact h1.elim
/-- from here on the slot's list stays as it is -/
def vFrz (i : Nat) (x : VS) : VS := fun e D => match e.s[i]? with
  | some (some (.ow ds)) => x (e.put i (some (.d (.list ds)))) D
  | _ => x e D
theorem sim_frz (i : Nat) (h : SimS T a x) : SimS T a (vFrz i x) := by
  refine ⟨fun G S0 l venv env S D VD st hv he => ?_⟩
  unfold vFrz at hv
  split at hv
  · rename_i ds hs
    refine h.run G S0 l _ env S D VD ?_ hv he
    obtain ⟨O, hc, hvs⟩ := st
    obtain ⟨n, xs, q1, q2, q3, q4, q5⟩ := own_slot hc hs
    have hl : i < venv.s.length := (List.getElem?_eq_some_iff.mp hs).1
    have hsub : ∀ m ∈ O.filter (· ≠ n), m ∈ O := fun m hm => (List.mem_filter.mp hm).1
    have sb : ∀ m ∈ O.filter (· ≠ n) ++ G.cells, m ∈ O ++ G.cells := fun m hm => by
      rcases List.mem_append.mp hm with hm | hm
      · exact List.mem_append_left _ (hsub m hm)
      · exact List.mem_append_right _ hm
    have own : ∀ {j m : Nat}, OwnAt (venv.put i (some (.d (.list ds)))) env j m → j ≠ i ∧ OwnAt venv env j m := fun {j m} ⟨⟨es, hv⟩, he⟩ => by
      by_cases e : i = j
      · subst e
        rw [List.getElem?_set_self hl] at hv
        cases hv
      · rw [List.getElem?_set_ne e] at hv
        exact ⟨Ne.symm e, ⟨es, hv⟩, he⟩
    refine ⟨O.filter (· ≠ n), ⟨hc.inv, hc.kp, by rw [List.length_set]; exact hc.len, fun m hm => hc.new m (hsub m hm), fun j u hu => ?_, fun j k m hj hk => hc.inj j k m (own hj).2 (own hk).2⟩, pd_mem (hvs.drop hsub)⟩
    by_cases e : i = j
    · subst e
      rw [List.getElem?_set_self hl] at hu
      cases hu
      refine ⟨_, q1, Rp.lst (fun z => ?_) q4 (q5.sub sb)⟩
      rcases List.mem_append.mp z with z | z
      · simp at z
      · exact (hc.new n q3).2.2 z
    · rw [List.getElem?_set_ne e] at hu
      obtain ⟨p, h1, h2⟩ := hc.slot j u hu
      refine ⟨p, h1, ?_⟩
      cases u with
      | d q => exact Rp.sub h2 sb
      | ty q => exact h2
      | tok q => exact h2
      | ow es =>
        obtain ⟨m, ys, rfl, r1, r2, r3⟩ := h2
        refine ⟨m, ys, rfl, List.mem_filter.mpr ⟨r1, ?_⟩, r2, r3.sub sb⟩
        have : m ≠ n := by
          rintro rfl
          exact e (hc.inj i j _ q2 ⟨⟨es, hu⟩, h1⟩)
        simpa using this
  · exact h.run G S0 l venv env S D VD st hv he
/-- a, b = e -/
def vAsg (va : V) (g : VG) : VS := fun e D => va e fun e1 r => someP (stab r) fun p => match g p e1 with
  | some e2 => D.nx e2
  | none => False
theorem sim_asg {g : WG} {vg : VG} {sl : List Nat} (h : Sim T wa va) (hg : SimG g vg sl) : SimS T (wAsg wa g) (vAsg va vg) := by
  refine ⟨fun G S0 l venv env S D VD st hv he => h.run G S0 _ venv env S _ _ st hv fun e1 r p S1 h1 r1 => ?_⟩
  obtain ⟨q, hq, h2⟩ := someP_of h1
  have st1 : St G S0 ((.d q, p) :: pd l) e1 env S1 := by
    obtain ⟨O, a, b⟩ := r1.pend
    refine ⟨O, a, fun v hv => ?_⟩
    rcases List.mem_cons.mp hv with rfl | hv
    · exact stab_rp (b (pl r, p) (by simp)) (by cases r <;> exact hq)
    · exact b v (List.mem_cons_of_mem _ hv)
  split at h2
  · rename_i e2 he2
    obtain ⟨env', g1, st2⟩ := st1.sets hg he2
    rw [g1]
    exact he.nx _ _ _ h2 st2
  · exact h2.elim
/-- a, b = x, y -/
def vPar (i j : Nat) (vs : VA) : VS := fun e D => vs e fun e1 us => match us with
  | [u, v] => setV u fun p => setV v fun q => D.nx ((e1.put i (some p)).put j (some q))
  | _ => False
theorem rx_set {r : VV} {p : PV} {Q : VX → Prop} (h : RV2 G O venv env S r p) (hq : setV r Q) : ∃ u, Q u ∧ RX G O S u p ∧ ∀ ds, u ≠ .ow ds := by
  cases r with
  | d q => exact ⟨_, hq, h, fun _ z => by cases z⟩
  | fr q => exact ⟨_, hq, h, fun _ z => by cases z⟩
  | ty q => exact ⟨_, hq, h, fun _ z => by cases z⟩
  | tok q => exact ⟨_, hq, h, fun _ z => by cases z⟩
  | ow q => exact hq.elim
theorem sim_par (i j : Nat) (h : SimA T ws vs) : SimS T (wPar i j ws) (vPar i j vs) := by
  refine ⟨fun G S0 l venv env S D VD st hv he => h.run G S0 _ venv env S _ _ st hv fun e1 us xs S1 h1 hl st1 => ?_⟩
  split at h1
  · rename_i u1 u2
    obtain ⟨p1, p2, rfl⟩ := len2 hl
    obtain ⟨O, hc, hvs⟩ := st1
    obtain ⟨x1, q1, r1, n1⟩ := rx_set (hvs (u1, p1) (by simp)) h1
    obtain ⟨x2, q2, r2, n2⟩ := rx_set (hvs (u2, p2) (by simp)) q1
    exact he.nx _ _ _ q2 ⟨O, (hc.put r1 fun ds z => (n1 ds z).elim).put r2 fun ds z => (n2 ds z).elim, pd_mem (vals_tail hvs)⟩
  · exact h1.elim
/-- x op= e -/
def vAug (i : Nat) (g : G2) (va : V) : VS := fun e D => match e.s[i]? with
  | some (some (.d p)) => va e fun e1 b => optV (dat2 e1 (.d p) b g) fun r => setV r fun u => D.nx (e1.put i (some u))
  | _ => False
theorem sim_aug (i : Nat) {f : F2} {g : G2} (ho : SimOp f g) (h : Sim T wa va) : SimS T (wAug i f wa) (vAug i g va) := by
  refine ⟨fun G S0 l venv env S D VD st hv he => ?_⟩
  unfold vAug at hv
  split at hv
  · rename_i p hp
    obtain ⟨O, hc, hvs⟩ := st
    obtain ⟨x0, h1, h2⟩ := hc.slot i _ hp
    unfold wAug
    rw [h1]
    refine h.run G S0 ((.d p, x0) :: pd l) venv env S _ _ ⟨O, hc, fun v hv => by rcases List.mem_cons.mp hv with rfl | hv; exact h2; exact hvs v hv⟩ hv fun e1 r y S1 h3 r1 => ?_
    obtain ⟨O1, hc1, hvs1⟩ := r1.pend
    obtain ⟨s, hs, hq⟩ := optV_some h3
    unfold dat2 at hs
    split at hs
    · rename_i p' q hp' hq'
      cases hp'
      have rx := dat_rq hc1 (hvs1 (.d p, x0) (by simp)) rfl
      have ry := dat_rq hc1 (hvs1 (pl r, y) (by simp)) (by rw [dat_pl]; exact hq')
      obtain ⟨z, S', hf, o⟩ := ho _ _ _ _ _ _ _ rx ry hs
      show opt (f x0 y S1) _
      rw [hf]
      have r2 : Res G S0 (pd l) e1 env S' s z := op_res hc1 (fun v hv => hvs1 v (by simp [hv])) o
      cases s with
      | d q => exact he.nx _ _ _ hq (.put r2 fun Q z => z)
      | fr q => exact he.nx _ _ _ hq (.put r2 fun Q z => z)
      | ty q => exact he.nx _ _ _ hq (.put r2 fun Q z => z)
      | tok q => exact he.nx _ _ _ hq (.put r2 fun Q z => z)
      | ow q => exact hq.elim
    · cases hs
  · exact hv.elim
/-- x[k] = v, a slot's own list -/
def vSub (i : Nat) (vk vv : V) : VS := fun e D => vv e fun e1 u => (owAt e1 i).isSome = true ∧ vk e1 fun e2 k => match k with
  | .d (.int k) => someD (owAt e2 i) fun ds => someP (stab (pl u)) fun p => match ixN ds.length k with
    | some j => D.nx (e2.put i (some (.ow (ds.set j p))))
    | none => False
  | _ => False
theorem sim_sub (i : Nat) (hk : Sim T wb vb) (hv : Sim T wa va) : SimS T (wSub (wVar i) wb wa) (vSub i vb va) := by
  refine ⟨fun G S0 l venv env S D VD st hv1 he => hv.run G S0 _ venv env S _ _ st hv1 fun e1 u x S1 h1 r1 => ?_⟩
  obtain ⟨hs, h2⟩ := h1
  obtain ⟨es, hes⟩ := Option.isSome_iff_exists.mp hs
  have st1 := r1.pend
  obtain ⟨O, hc, hvs⟩ := id st1
  obtain ⟨n, xs, he1, o, hn, hS, hr⟩ := own_slot hc (owAt_of hes)
  unfold wVar
  simp only [he1]
  refine hk.run G S0 _ e1 env S1 _ _ st1 h2 fun e2 k y S2 h3 r2 => ?_
  split at h3
  · rename_i k
    obtain ⟨O2, hc2, hvs2⟩ := r2.pend
    cases (show y = .int k from by cases (show Rp _ _ _ _ from hvs2 (.d (.int k), y) (by simp [pl])); rfl)
    obtain ⟨ds, hd, h4⟩ := someD_of h3
    obtain ⟨p, hp, h5⟩ := someP_of h4
    obtain ⟨m, ys, he2, o2, hm, hS2, hr2⟩ := own_slot hc2 (owAt_of hd)
    rw [he1] at he2; cases he2
    simp only [hS2]
    rw [← hr2.length]
    split at h5
    · rename_i j hj
      try rw [hj]
      have ru : Rp (O2 ++ G.cells) S2 p x := stab_rp (hvs2 (pl u, x) (by simp)) hp
      exact he.nx _ _ _ h5 ⟨O2, hc2.write o2 (hr2.set ru j), RVs2.write (fun v hv => hvs2 v (by simp [hv])) o2 hm⟩
    · exact h5.elim
  · exact h3.elim
def vNo : VS := fun _ _ => False
theorem sim_no : SimS T wNo vNo := ⟨fun G S0 l venv env S D VD st hv he => hv.elim⟩
/-! loops -/
def vLoop (tg : VG) (body : VS) (D : VEnds) : List PyData → VEnv → Prop
  | [], e => D.nx e
  | p :: ps, e => match tg p e with
    | some e1 => body e1 ⟨vLoop tg body D ps, D.rt, D.nx, vLoop tg body D ps⟩
    | none => False
def vFor (vi : VI) (tg : VG) (body : VS) : VS := fun e D => vi e fun e1 ps => vLoop tg body D ps e1
theorem sim_for {wi : WI} {vi : VI} {g : WG} {vg : VG} {sl : List Nat} (hi : SimI T wi vi) (hg : SimG g vg sl) (hb : SimS T a x) : SimS T (wFor wi g a) (vFor vi vg x) := by
  refine ⟨fun G S0 l venv env S D VD st hv he => hi.run G S0 _ venv env S _ _ st hv fun e1 ps it l1 S1 h1 hit st1 => ?_⟩
  refine ⟨ps.length + 1, ?_⟩
  have epd : pd l1 ++ pd l = pd (l1 ++ l) := by simp [pd]
  rw [epd] at st1
  have key : ∀ (k i : Nat) (e : VEnv) (env : PEnv) (S : Store), i + k = ps.length → St G S0 (pd (l1 ++ l)) e env S → vLoop vg x VD (ps.drop i) e → wLoop it g a D (k + 1) i env S := by
    intro k
    induction k with
    | zero =>
      intro i e env S hi st hl
      rw [List.drop_eq_nil_of_le (by omega)] at hl
      obtain ⟨O, hc, hvs⟩ := id st
      have := (hit _ S fun v hv => hvs (.d v.1, v.2) (List.mem_map.mpr ⟨v, List.mem_append_left _ hv, rfl⟩)).1
      unfold wLoop
      rw [show i = ps.length by omega, this]
      exact he.nx _ _ _ hl (st.mem fun v hv => by rw [← epd]; exact List.mem_append_right _ hv)
    | succ k ih =>
      intro i e env S hi st hl
      have hlt : i < ps.length := by omega
      rw [List.drop_eq_getElem_cons hlt] at hl
      generalize hp : ps[i] = p at hl
      have hpi : ps[i]? = some p := by rw [List.getElem?_eq_getElem hlt, hp]
      obtain ⟨O, hc, hvs⟩ := id st
      obtain ⟨y, hx, rx⟩ := (hit _ S fun v hv => hvs (.d v.1, v.2) (List.mem_map.mpr ⟨v, List.mem_append_left _ hv, rfl⟩)).2 i p hpi
      unfold wLoop
      rw [hx]
      unfold vLoop at hl
      split at hl
      · rename_i e2 he2
        have st2 : St G S0 ((.d p, y) :: pd (l1 ++ l)) e env S := ⟨O, hc, fun v hv => by rcases List.mem_cons.mp hv with rfl | hv; exact rx; exact hvs v hv⟩
        obtain ⟨env', g1, st3⟩ := st2.sets hg he2
        simp only [g1]
        have drop : ∀ {e env S}, St G S0 (pd (l1 ++ l)) e env S → St G S0 (pd l) e env S := fun st => st.mem fun v hv => by rw [← epd]; exact List.mem_append_right _ hv
        exact hb.run G S0 (l1 ++ l) e2 env' S _ _ st3 hl ⟨fun e3 p3 S3 h3 st4 => ih (i + 1) e3 p3 S3 (by omega) st4 h3, he.rt, fun e3 p3 S3 h3 st4 => he.nx _ _ _ h3 (drop st4), fun e3 p3 S3 h3 st4 => ih (i + 1) e3 p3 S3 (by omega) st4 h3⟩
      · exact hl.elim
  refine key ps.length 0 e1 env S1 (by omega) st1 ?_
  rw [List.drop_zero]
  exact h1
def vWhL (t : VT) (body : VS) (D : VEnds) : Nat → VEnv → Prop
  | 0, _ => False
  | m + 1, e => t e fun e1 b => match b with
    | true => body e1 ⟨vWhL t body D m, D.rt, D.nx, vWhL t body D m⟩
    | false => D.nx e1
def vWhile (t : VT) (body : VS) : VS := fun e D => ∃ m, vWhL t body D m e
theorem sim_while (ht : SimT T wt vt) (hb : SimS T a x) : SimS T (wWhile wt a) (vWhile vt x) := by
  refine ⟨fun G S0 l venv env S D VD st ⟨m, hv⟩ he => ⟨m, ?_⟩⟩
  have key : ∀ (m : Nat) (venv : VEnv) (env : PEnv) (S : Store), St G S0 (pd l) venv env S → vWhL vt x VD m venv → wWhL wt a D m env S := by
    intro m
    induction m with
    | zero => intro venv env S st hv; exact hv.elim
    | succ m ih =>
    intro venv env S st hv
    refine ht.run G S0 _ venv env S _ _ st hv fun e1 b S1 h1 st1 => ?_
    cases b with
    | false => exact he.nx _ _ _ h1 st1
    | true => exact hb.run G S0 l e1 env S1 _ _ st1 h1 ⟨fun e3 p3 S3 h3 st4 => ih e3 p3 S3 st4 h3, he.rt, fun e3 p3 S3 h3 st4 => he.nx _ _ _ h3 st4, fun e3 p3 S3 h3 st4 => ih e3 p3 S3 st4 h3⟩
  exact key m venv env S st hv

/-! ### defs -/
def toX : VV → Option VX
  | .d p => some (.d p)
  | .ty n => some (.ty n)
  | .tok k => some (.tok k)
  | .fr ds => some (.d (.list ds))
  | .ow _ => none
def vEnd (Q : VV → Nat → Prop) : VEnds := ⟨fun e => Q (.d .none) e.n, Q, fun _ => False, fun _ => False⟩
/-- a def's promise over plain values, from that over data -/
theorem pl_of {c : VCon} {n : Nat} (hs : SimS T a x) (hv : ∀ us m Q, c us m Q → x ⟨us.map toX ++ List.replicate (n - us.length) none, m⟩ (vEnd Q)) (xs : List PV) (S0 : Store) (P : PQ) (h : conV T c xs S0 P) :
    a (xs.map some ++ List.replicate (n - xs.length) none) S0 ⟨fun _ S' => P .non S', P, fun _ _ => False, fun _ _ => False⟩ := by
  obtain ⟨G, us, m, Q, hi, hl, ha, hc, hP⟩ := h
  refine hs.run G S0 [] ⟨us.map toX ++ List.replicate (n - us.length) none, m⟩ _ S0 _ (vEnd Q) ⟨[], ⟨hi, .refl, by simp [hl], fun n hn => (by cases hn), fun i v hv => ?_, fun i j m a b => ?_⟩, fun v hv => by cases hv⟩ (hv us m Q hc) ⟨fun e p S h1 st => ?_, fun r k p S h1 o => hP _ _ _ _ h1 o, fun _ _ _ z => z.elim, fun _ _ _ z => z.elim⟩
  · by_cases hi' : i < us.length
    · rw [List.getElem?_append_left (by rw [List.length_map]; exact hi'), List.getElem?_map, List.getElem?_eq_getElem hi'] at hv
      have hx : i < xs.length := by omega
      refine ⟨xs[i], by rw [List.getElem?_append_left (by rw [List.length_map]; exact hx), List.getElem?_map, List.getElem?_eq_getElem hx]; rfl, ?_⟩
      have := ha (us[i], xs[i]) (by rw [List.mem_iff_getElem?]; exact ⟨i, by rw [List.getElem?_zip_eq_some]; exact ⟨List.getElem?_eq_getElem hi', List.getElem?_eq_getElem hx⟩⟩)
      dsimp only at this
      revert this hv
      cases us[i] with
      | d p => intro hv ra; cases hv; exact ra
      | ty p => intro hv ra; cases hv; exact ra
      | tok p => intro hv ra; cases hv; exact ra
      | fr p => intro hv ra; exact ra.elim
      | ow p => intro hv ra; exact ra.elim
    · rw [List.getElem?_append_right (by rw [List.length_map]; omega)] at hv
      have := List.mem_of_getElem? hv
      rw [List.mem_replicate] at this
      cases this.2
  · obtain ⟨⟨ds, h1⟩, h2⟩ := a
    by_cases hi' : i < us.length
    · rw [List.getElem?_append_left (by rw [List.length_map]; exact hi'), List.getElem?_map, List.getElem?_eq_getElem hi'] at h1
      revert h1
      cases us[i] <;> intro h1 <;> cases h1
    · rw [List.getElem?_append_right (by rw [List.length_map]; omega)] at h1
      have := List.mem_of_getElem? h1
      rw [List.mem_replicate] at this
      cases this.2
  · obtain ⟨O, hc', _⟩ := st
    exact hP _ _ _ _ h1 ⟨hc'.inv, hc'.kp, Rp.non⟩
end
end Vl
set_option Elab.async false
set_option linter.all false
set_option maxRecDepth 100000
/-! Vt7: in, tuple * int, +=, reversed, index, range downward; the law's start. -/
namespace Vl
open PySem PySem.Spec PyProof.Rows L2 Lt
abbrev vLt : G2 := vI (gB fun i j => decide (i < j))
abbrev vLe : G2 := vI (gB fun i j => decide (i ≤ j))
abbrev vGt : G2 := vI (gB fun i j => decide (j < i))
abbrev vGe : G2 := vI (gB fun i j => decide (j ≤ i))
/-! ### in -/
def pvV : PV → Option L2.V
  | .non => some .non
  | .bl b => some (.bl b)
  | .int i => some (.int i)
  | .str x => some (.str x)
  | _ => none
theorem pvV_of {K : PySem.W.Frag} {ι : List Addr} {H : Hp} {x : PV} {v u : L2.V} (r : RV K ι H x v) (h : pvV x = some u) : v = u ∧ flatV u = true := by
  unfold pvV at h
  split at h <;> cases h
  · exact ⟨non_of r, rfl⟩
  · exact ⟨bl_of r, rfl⟩
  · exact ⟨int_of r, rfl⟩
  · exact ⟨str_of r, rfl⟩
def allV : List PV → Option (List L2.V)
  | [] => some []
  | x :: xs => match pvV x, allV xs with
    | some v, some vs => some (v :: vs)
    | _, _ => none
theorem allV_of {K : PySem.W.Frag} {ι : List Addr} {H : Hp} : ∀ {xs : List PV} {vs us : List L2.V}, RVs K ι H xs vs → allV xs = some us → vs = us ∧ us.all flatV = true
  | [], _, us, .nil, h => by cases h; exact ⟨rfl, rfl⟩
  | x :: xs, _, us, .cons r t, h => by
    unfold allV at h
    split at h
    · rename_i v vs h1 h2
      cases h
      obtain ⟨rfl, f1⟩ := pvV_of r h1
      obtain ⟨rfl, f2⟩ := allV_of t h2
      exact ⟨rfl, by rw [List.all_cons, f1, f2]; rfl⟩
    · cases h
def fInF (neg : Bool) : F2 := fun x y S => match pvV x, seqOf y S with
  | some v, some xs => match allV xs with
    | some vs => some (.bl (if neg then !inV v vs else inV v vs), S)
    | none => none
  | _, _ => none
theorem fInF_of {X : Cx} {neg : Bool} {op : CmpOp} (ho : OpR X (compareOp op) (rIn X.K neg)) : OpR X (compareOp op) (rOp X.K (fInF neg)) := by
  intro pins s σ H u v uu vv Q I ru rv ⟨ι, S, x, y, P, rs, rx, ry, hf, hP⟩
  unfold fInF at hf
  split at hf
  · rename_i u' xs hx hy
    obtain ⟨rfl, f1⟩ := pvV_of rx hx
    obtain ⟨a, us, rfl, sq, q⟩ := seqOf_of rs ry hy
    split at hf
    · rename_i vs hv
      obtain ⟨rfl, f2⟩ := allV_of q hv
      exact ho pins s σ H _ _ _ _ Q I ru rv ⟨a, _, rfl, sq, f1, f2, hP _ _ hf ι H _ .refl rs (.bl _)⟩
    · exact hf.elim
  · exact hf.elim
abbrev fInP : F2 := fInF false
abbrev fNotInP : F2 := fInF true
theorem op_fInP {X : Cx} (hu : X.A.units + 64 < cLine) : OpR X (compareOp .In) (rOp X.K fInP) := fInF_of op_in_seq
theorem op_fNotInP {X : Cx} (hu : X.A.units + 64 < cLine) : OpR X (compareOp .NotIn) (rOp X.K fNotInP) := fInF_of op_notIn_seq
def dV : PyData → Option L2.V
  | .none => some .non
  | .bool b => some (.bl b)
  | .int i => some (.int i)
  | .str x => some (.str x)
  | _ => none
def allDV : List PyData → Option (List L2.V)
  | [] => some []
  | x :: xs => match dV x, allDV xs with
    | some v, some vs => some (v :: vs)
    | _, _ => none
theorem dV_of {E : List Nat} {S : Store} {p : PyData} {x : PV} {v : L2.V} (r : Rp E S p x) (h : dV p = some v) : pvV x = some v := by
  cases r <;> first | exact h | cases h
theorem allDV_of {E : List Nat} {S : Store} : ∀ {ps : List PyData} {xs : List PV} {vs : List L2.V}, Rps E S ps xs → allDV ps = some vs → allV xs = some vs
  | _, _, vs, .nil, h => by cases h; rfl
  | _, _, vs, .cons r t, h => by
    unfold allDV at h
    split at h
    · rename_i v us h1 h2
      cases h
      unfold allV
      rw [dV_of r h1, allDV_of t h2]
    · cases h
def inD (p q : PyData) : Option Bool := match dV p, seqD q with
  | some v, some ds => match allDV ds with
    | some vs => some (inV v vs)
    | none => none
  | _, _ => none
def vIn : G2 := fun p q => (inD p q).map fun b => .d (.bool b)
def vNotIn : G2 := fun p q => (inD p q).map fun b => .d (.bool (!b))
theorem inD_of {E : List Nat} {S : Store} {neg : Bool} {x y : PV} {p q : PyData} {b : Bool} (hx : Rq E S p x) (hy : Rq E S q y) (h : inD p q = some b) : fInF neg x y S = some (.bl (if neg then !b else b), S) := by
  unfold inD at h
  split at h
  · rename_i v ds h1 h2
    split at h
    · rename_i vs h3
      cases h
      obtain ⟨xs, g1, g2⟩ := hy.seq h2
      unfold fInF
      rw [dV_of hx.rp0 h1, g1]
      simp only [allDV_of g2 h3]
    · cases h
  · cases h
theorem sim_inP : SimOp fInP vIn := by
  intro E S x y p q r hx hy h
  obtain ⟨b, hb, rfl⟩ := Option.map_eq_some_iff.mp h
  exact ⟨_, _, inD_of hx hy hb, .data (.bl _)⟩
theorem sim_notInP : SimOp fNotInP vNotIn := by
  intro E S x y p q r hx hy h
  obtain ⟨b, hb, rfl⟩ := Option.map_eq_some_iff.mp h
  exact ⟨_, _, inD_of hx hy hb, .data (.bl _)⟩
/-! ### tuple * int -/
def fRepT : F2
  | .tup xs, .int k, S => if xs ≠ [] ∧ 2 ≤ k ∧ k ≤ 1000 ∧ xs.length ≤ 1000 then some (.tup (List.replicate k.toNat xs).flatten, S) else none
  | _, _, _ => none
theorem op_fRepT {X : Cx} : OpR X (binaryOp .Mult) (rOp X.K fRepT) := by
  intro pins s σ H u v uu vv Q I ru rv ⟨ι, S, x, y, P, rs, rx, ry, hf, hP⟩
  unfold fRepT at hf
  split at hf
  · rename_i xs k
    obtain ⟨a, us, rfl, sa, qa⟩ := tup_of rx
    cases int_of ry
    obtain ⟨⟨c1, c2, c3, c4⟩, h⟩ := opt_ite hf
    refine L2.op_repT pins s σ H _ _ _ _ Q I ru rv ⟨a, _, us, rfl, rfl, sa, fun z => ?_, c2, c3, by rw [← qa.length]; exact c4, new_tup rs (qa.rep _) hP h⟩
    subst z
    cases qa
    exact c1 rfl
  · exact hf.elim
def vRepT : G2
  | .tuple ds, .int k => if ds ≠ [] ∧ 2 ≤ k ∧ k ≤ 1000 ∧ ds.length ≤ 1000 then some (.d (.tuple (List.replicate k.toNat ds).flatten)) else none
  | _, _ => none
theorem sim_repT : SimOp fRepT vRepT := by
  intro E S x y p q r hx hy h
  unfold vRepT at h
  split at h
  · rename_i ds k
    obtain ⟨xs, rfl, q1⟩ := hx.tuple
    cases hy.int
    obtain ⟨⟨c1, c2, c3, c4⟩, rfl⟩ := ite_some' h
    refine ⟨_, _, if_pos ⟨fun z => ?_, c2, c3, by rw [← q1.length]; exact c4⟩, .data (.tup (q1.rep _))⟩
    subst z
    cases q1
    exact c1 rfl
  · cases h
/-! ### += -/
def fAddI : F2 := fI fun i j => some (.int (i + j))
theorem op_fAddI {X : Cx} : OpR X (inplaceOp .Add) (rOp X.K fAddI) := by
  intro pins s σ H u v uu vv Q I ru rv h
  obtain ⟨i, j, z, rfl, rfl, e, q⟩ := fI_of h
  cases e
  exact L2.iop_add pins s σ H _ _ _ _ Q I ru rv ⟨_, _, rfl, rfl, q _ fun _ => .int _⟩
def vAddI : G2 := vI fun i j => some (.int (i + j))
theorem sim_addI : SimOp fAddI vAddI := sim_I _
/-! ### reversed -/
def gRv (n : Nat) (m : Nat) : PIt := fun i S => if i < m then (match S[n]? with
  | some c => match c.items with
    | some xs => (xs[m - 1 - i]?).map some
    | none => none
  | none => none) else some none
def gRvT (xs : List PV) : PIt := fun i _ => if i < xs.length then (xs[xs.length - 1 - i]?).map some else some none
def wRev (w : WA) : WI := fun env S P => w env S fun vs S1 => match vs with
  | [.tup xs] => P (gRvT xs) S1
  | [.ref n] => ∃ c xs, S1[n]? = some c ∧ c.items = some xs ∧ P (gRv n xs.length) S1
  | _ => False
theorem it_rv {K : PySem.W.Frag} {ι : List Addr} {H : Hp} {n m : Nat} {a : Addr} (ha : ι[n]? = some a) : PItOk K (Itv K a m) (gRv n m) ι H := by
  intro ι1 H1 S i e rs
  have ha1 := e.pre n a ha
  refine ⟨fun h => ?_, fun x h => ?_⟩
  · unfold gRv at h
    split at h
    · split at h
      · split at h
        · obtain ⟨y, _, hy⟩ := Option.map_eq_some_iff.mp h; cases hy
        · cases h
      · cases h
    · rename_i hi; exact Nat.le_of_not_lt hi
  · unfold gRv at h
    split at h
    · rename_i hi
      split at h
      · rename_i c hc
        split at h
        · rename_i xs hx
          obtain ⟨y, h1, hy⟩ := Option.map_eq_some_iff.mp h
          cases hy
          obtain ⟨us, hu, q⟩ := at_seq rs hc hx ha1
          obtain ⟨v, h3, h4⟩ := q.get h1
          refine ⟨⟨hi, us, v, hu, h3⟩, fun v' H' y => ?_⟩
          obtain ⟨rfl, y⟩ := y
          have := y us hu
          rw [h3] at this; cases this
          exact ⟨.refl, rs, h4⟩
        · cases h
      · cases h
    · cases h
theorem it_rvT {K : PySem.W.Frag} {ι : List Addr} {H : Hp} {a : Addr} {xs : List PV} {us : List L2.V} (ht : SqT K H a us) (r : RVs K ι H xs us) : PItOk K (RT.ItvT K a us.length) (gRvT xs) ι H := by
  intro ι1 H1 S i e rs
  have ht1 := e.sqT ht
  have r1 := r.mono e
  have hl := r.length
  refine ⟨fun h => ?_, fun x h => ?_⟩
  · unfold gRvT at h
    split at h
    · obtain ⟨y, _, hy⟩ := Option.map_eq_some_iff.mp h; cases hy
    · rename_i hi
      show us.length ≤ i
      omega
  · unfold gRvT at h
    split at h
    · rename_i hi
      obtain ⟨y, h1, hy⟩ := Option.map_eq_some_iff.mp h
      cases hy
      obtain ⟨v, h3, h4⟩ := r1.get h1
      rw [hl] at h3
      refine ⟨⟨by omega, us, v, ht1, h3⟩, fun v' H' y => ?_⟩
      obtain ⟨rfl, y⟩ := y
      have := y us ht1
      rw [h3] at this; cases this
      exact ⟨.refl, rs, h4⟩
    · cases h
theorem ri_rev {X : Cx} {tg e : Expr} {w : WA} {p pos : Pos} (hg : Gl X "reversed") (hm : X.mg "reversed" = none) (ha : RE X e wa) (hs : starEach [e] X.env = (false, eval e X.env) :: starEach [] X.env := by rfl) :
    RI X tg (.Call (.Name "reversed" p) [e] [] pos) (wRev (wCons wa wNil)) := by
  refine ⟨PI.weak (RT.pi_revA hg hm ha.pe hs) fun σ H R ⟨ι, env, S, P, re, rs, hw, hP⟩ => ⟨ι, env, S, _, re, rs, hw, fun x S1 hx ι1 H1 v e1 rs1 rx => ?_⟩⟩
  unfold wNil at hx
  simp only at hx
  split at hx
  · rename_i xs he
    cases he
    obtain ⟨a, us, rfl, hT, qr⟩ := tup_of rx
    exact ⟨a, us, rfl, .inr ⟨hT, hP _ _ hx ι1 H1 _ e1 rs1 (it_rvT hT qr)⟩⟩
  · rename_i n he
    cases he
    obtain ⟨a, rfl, ha'⟩ := ref_of rx
    obtain ⟨c, xs, hc, hi, hp⟩ := hx
    obtain ⟨us, hu, q⟩ := at_seq rs1 hc hi ha'
    refine ⟨a, us, rfl, .inl ⟨hu, ?_⟩⟩
    rw [← q.length]
    exact hP _ _ hp ι1 H1 _ e1 rs1 (it_rv ha')
  · exact hx.elim
section
variable {T : Tok} {G : Gd T} {S0 S S' : Store} {O : List Nat} {venv : VEnv} {env : PEnv} {vals : Vals} {w wa wb wc : W} {v va vb vc : V} {ws : WA} {vs : VA} {wt : WT} {vt : VT}
def vRev (vs : VA) : VI := fun e Q => vs e fun e1 us => match us with
  | [u] => someP (stab u) fun p => someD (seqD p) fun ds => Q e1 ds.reverse
  | _ => False
theorem rev_at {α : Type} {ds : List α} {i : Nat} {p : α} (h : ds.reverse[i]? = some p) : i < ds.length ∧ ds[ds.length - 1 - i]? = some p := by
  have hi : i < ds.length := by have := (List.getElem?_eq_some_iff.mp h).1; simpa using this
  refine ⟨hi, ?_⟩
  rw [List.getElem?_reverse hi] at h
  exact h
theorem sim_rev (h : SimA T ws vs) : SimI T (wRev ws) (vRev vs) := by
  refine ⟨fun G S0 vals venv env S P Q st hv hP => h.run G S0 vals venv env S _ _ st hv fun e1 us xs S1 h1 hl st1 => ?_⟩
  split at h1
  · rename_i u
    obtain ⟨p, hp, h2⟩ := someP_of h1
    obtain ⟨ds, hd, hq⟩ := someD_of h2
    obtain ⟨x, rfl⟩ := len1 hl
    obtain ⟨O, hc, hvs⟩ := id st1
    have rx : Rp (O ++ G.cells) S1 p x := stab_rp (hvs (u, x) (by simp)) hp
    have st2 : St G S0 (pd [(p, x)] ++ vals) e1 env S1 := ⟨O, hc, fun v hv => by
      rcases List.mem_append.mp hv with hv | hv
      · rw [show pd [(p, x)] = [(VV.d p, x)] from rfl, List.mem_singleton] at hv
        subst hv
        exact rx
      · exact hvs v (List.mem_append_right _ hv)⟩
    unfold seqD at hd
    split at hd
    · cases hd
      match x, rx, st2 with
      | _, .lst (xs := xs) (n := n) hn hs q, st2 =>
        refine ⟨_, xs, hs, rfl, hP _ _ _ _ _ hq (fun E S hl => ?_) st2⟩
        match (show Rp E S (.list ds) (.ref n) from hl (.list ds, .ref n) (by simp)) with
        | .lst (xs := zs) hn2 hs2 r =>
        have l1 := q.length
        have l2 := r.length
        refine ⟨by unfold gRv; rw [List.length_reverse, if_neg (by omega)], fun i p hp => ?_⟩
        obtain ⟨hi, hp⟩ := rev_at hp
        obtain ⟨y, h4, h5⟩ := r.get hp
        refine ⟨y, ?_, h5⟩
        unfold gRv
        rw [if_pos (by omega), hs2]
        simp only [Cell.items]
        rw [show xs.length - 1 - i = ds.length - 1 - i by omega, h4]; rfl
    · cases hd
      match x, rx, st2 with
      | _, .tup (xs := xs) q, st2 =>
        refine hP _ _ _ _ _ hq (fun E S hl => ?_) st2
        match (show Rp E S (.tuple ds) (.tup xs) from hl (.tuple ds, .tup xs) (by simp)) with
        | .tup r =>
        have l2 := r.length
        refine ⟨by unfold gRvT; rw [List.length_reverse, if_neg (by omega)], fun i p hp => ?_⟩
        obtain ⟨hi, hp⟩ := rev_at hp
        obtain ⟨y, h4, h5⟩ := r.get hp
        refine ⟨y, ?_, h5⟩
        unfold gRvT
        rw [if_pos (by omega), show xs.length - 1 - i = ds.length - 1 - i by omega, h4]; rfl
    · cases hd
  · exact h1.elim
/-! ### range(i, j, -1) -/
def gR3 (lo : Int) (n : Nat) : PIt := fun i _ => if i < n then some (some (.int (lo + (i : Nat) * (-1)))) else some none
def wR3 (w : WA) : WI := fun env S P => w env S fun xs S1 => match xs with
  | [.int i, .int j, .int (-1)] => (-(2 ^ 62) ≤ i ∧ i < 2 ^ 62 ∧ -(2 ^ 62) ≤ j ∧ j < 2 ^ 62) ∧ P (gR3 i (i - j).toNat) S1
  | _ => False
theorem it_rng3 {K : PySem.W.Frag} {ι : List Addr} {H : Hp} {lo : Int} {n : Nat} : PItOk K (Itc lo (-1) n) (gR3 lo n) ι H := by
  intro ι1 H1 S i e rs
  refine ⟨fun h => ?_, fun x h => ?_⟩
  · unfold gR3 at h
    split at h
    · cases h
    · rename_i c; exact Nat.le_of_not_lt c
  · unfold gR3 at h
    split at h
    · rename_i c
      cases h
      refine ⟨c, fun v H' y => ?_⟩
      obtain ⟨rfl, rfl⟩ := y
      exact ⟨.refl, rs, .int _⟩
    · cases h
theorem rvs3 {K : PySem.W.Frag} {ι : List Addr} {H : Hp} {x y z : PV} {us : List L2.V} (r : RVs K ι H [x, y, z] us) : ∃ u v w, us = [u, v, w] ∧ RV K ι H x u ∧ RV K ι H y v ∧ RV K ι H z w := by
  cases r with
  | cons r t => obtain ⟨v, w, rfl, q, q'⟩ := rvs2 t; exact ⟨_, v, w, rfl, r, q, q'⟩
theorem ri_range3 {X : Cx} {tg a b c : Expr} {w : WA} {p pos : Pos} (hg : Gl X "range") (hm : X.mg "range" = none) (ha : RA X [a, b, c] w)
    (hs : starEach [a, b, c] X.env = (false, eval a X.env) :: starEach [b, c] X.env := by rfl) (hpl : (backTo pos (starEach [b, c] X.env)).any (·.1) = false := by rfl) : RI X tg (.Call (.Name "range" p) [a, b, c] [] pos) (wR3 w) := by
  refine ⟨PI.weak (pi_range3 hg hm ha.pa hs hpl) fun σ H R ⟨ι, env, S, P, re, rs, hw, hP⟩ => ⟨ι, env, S, _, re, rs, hw, fun xs S1 hx ι1 H1 vs e1 rs1 rx => ?_⟩⟩
  split at hx
  · obtain ⟨u, v, z, rfl, q, q', q''⟩ := rvs3 rx
    cases int_of q; cases int_of q'; cases int_of q''
    obtain ⟨⟨c1, c2, c3, c4⟩, hp⟩ := hx
    exact ⟨_, _, _, _, rfl, RgC.neg c1 c2 c3 c4, hP _ _ hp ι1 H1 _ e1 rs1 it_rng3⟩
  · exact hx.elim
def iotaD (lo : Int) (n : Nat) : List PyData := (List.range n).map fun (i : Nat) => PyData.int (lo - i)
theorem pitv_range3 {lo : Int} {n : Nat} : PItV (gR3 lo n) (iotaD lo n) [] := by
  intro E S _
  unfold iotaD
  rw [List.length_map, List.length_range]
  refine ⟨by unfold gR3; rw [if_neg (Nat.lt_irrefl n)], fun i p hp => ?_⟩
  rw [List.getElem?_map] at hp
  obtain ⟨j, hj, rfl⟩ := Option.map_eq_some_iff.mp hp
  have hi : i < n := by have := (List.getElem?_eq_some_iff.mp hj).1; simpa using this
  have : j = i := by rw [List.getElem?_range hi] at hj; exact (Option.some.inj hj).symm
  subst this
  exact ⟨_, by unfold gR3; rw [if_pos hi], by rw [show lo + (j : Nat) * (-1) = lo - j by omega]; exact .int _⟩
def vR3 (vs : VA) : VI := fun e Q => vs e fun e1 us => match us with
  | [.d (.int i), .d (.int j), .d (.int (-1))] => (-(2 ^ 62) ≤ i ∧ i < 2 ^ 62 ∧ -(2 ^ 62) ≤ j ∧ j < 2 ^ 62) ∧ Q e1 (iotaD i (i - j).toNat)
  | _ => False
theorem len3 {xs : List PV} (h : 3 = xs.length) : ∃ x y z, xs = [x, y, z] := by
  match xs, h with
  | [x, y, z], _ => exact ⟨x, y, z, rfl⟩
theorem sim_R3 (h : SimA T ws vs) : SimI T (wR3 ws) (vR3 vs) := by
  refine ⟨fun G S0 vals venv env S P Q st hv hP => h.run G S0 vals venv env S _ _ st hv fun e1 us xs S1 h1 hl st1 => ?_⟩
  split at h1
  · rename_i i j
    obtain ⟨x, y, z, rfl⟩ := len3 hl
    obtain ⟨O, hc, hvs⟩ := id st1
    cases (show x = .int i from by cases (show Rp _ _ _ _ from hvs (.d (.int i), x) (by simp)); rfl)
    cases (show y = .int j from by cases (show Rp _ _ _ _ from hvs (.d (.int j), y) (by simp)); rfl)
    cases (show z = .int (-1) from by cases (show Rp _ _ _ _ from hvs (.d (.int (-1)), z) (by simp)); rfl)
    exact ⟨h1.1, hP _ _ _ [] _ h1.2 pitv_range3 (st1.mem fun v hv => by simp only [pd, List.map_nil, List.nil_append] at hv; exact List.mem_append_right _ hv)⟩
  · exact h1.elim
/-! ### l.index(x) of texts -/
def idxS (z : Str) : List Str → Option Nat
  | [] => none
  | y :: ys => if y = z then some 0 else (idxS z ys).map (· + 1)
theorem idxS_of {z : Str} : ∀ {ys : List Str} {j : Nat}, idxS z ys = some j → ys[j]? = some z ∧ ∀ m, m < j → ys[m]? ≠ some z
  | [], _, h => by cases h
  | y :: ys, j, h => by
    unfold idxS at h
    by_cases e : y = z
    · rw [if_pos e] at h
      cases h
      exact ⟨by simp [e], fun m hm => absurd hm (Nat.not_lt_zero _)⟩
    · rw [if_neg e] at h
      obtain ⟨k, hk, rfl⟩ := Option.map_eq_some_iff.mp h
      obtain ⟨h1, h2⟩ := idxS_of hk
      refine ⟨by simpa using h1, fun m hm => ?_⟩
      cases m with
      | zero => simpa using e
      | succ m => simpa using h2 m (by omega)
def mIndex : FM := fun x args S => match x, args with
  | .ref n, [.str z] => match S[n]? with
    | some c => match c.items with
      | some xs => match allStr xs with
        | some ys => (idxS z ys).map fun j => (.int (j : Nat), S)
        | none => none
      | none => none
    | none => none
  | _, _ => none
section
variable {X : Cx}
theorem mt_mIndexList (hu : X.A.units + 64 < cLine) : MtR X "list.index" (rM X.K mIndex) := by
  intro pins s σ H u us v vs Q I ru rus ⟨ι, S, x, xs, P, rs, rx, rxs, hf, hP⟩
  unfold mIndex at hf
  split at hf
  · rename_i n z
    obtain ⟨t, rfl, q⟩ := rvs1 rxs
    cases str_of q
    obtain ⟨a, rfl, ha⟩ := ref_of rx
    split at hf
    · rename_i c hc
      split at hf
      · rename_i zs hz
        obtain ⟨ws, hq, qz⟩ := at_seq rs hc hz ha
        split at hf
        · rename_i ys hy
          have e := allStr_of hy qz
          obtain ⟨j, hj, h⟩ := opt_map' hf
          obtain ⟨h1, h2⟩ := idxS_of hj
          subst e
          refine L2.mt_index pins s σ H _ _ _ _ Q I ru rus ⟨a, ys.map V.str, .str z, j, .str z, rfl, rfl, hq, rfl, flat_strs _, by rw [List.getElem?_map, h1]; rfl, by simp [eqV], fun m z' hm hz' => ?_, hP _ _ h ι H _ .refl rs (.int _)⟩
          rw [List.getElem?_map] at hz'
          obtain ⟨w, hw, rfl⟩ := Option.map_eq_some_iff.mp hz'
          have := h2 m hm
          rw [hw] at this
          simp only [eqV, beq_eq_false_iff_ne, ne_eq]
          exact fun e => this (by rw [e])
        · exact hf.elim
      · exact hf.elim
    · exact hf.elim
  · exact hf.elim
end
/-- l.index(x) -/
def vIdxL (va : V) (vs : VA) : V := fun e Q => va e fun e1 a => (∃ ds, dat e1 a = some (.list ds)) ∧ vs e1 fun e2 us => someP (dat e2 (pl a)) fun p => match p, us with
  | .list ds, [.d (.str z)] => match strsD ds with
    | some ys => match idxS z ys with
      | some j => Q e2 (.d (.int (j : Nat)))
      | none => False
    | none => False
  | _, _ => False
theorem sim_idxL (ha : Sim T wa va) (h : SimA T ws vs) : Sim T (wM "list" mIndex wa ws) (vIdxL va vs) := by
  refine ⟨fun G S0 vals venv env S P Q st hv hP => ?_⟩
  refine ha.run G S0 vals venv env S _ _ st hv fun e1 r x S1 h1 r1 => ?_
  obtain ⟨⟨ds0, hd0⟩, h2⟩ := h1
  obtain ⟨O1, hc1, hvs1⟩ := r1.pend
  obtain ⟨n, xs0, rfl, hS1, _⟩ := (dat_rq hc1 (hvs1 (pl r, x) (by simp)) (by rw [dat_pl]; exact hd0)).list
  refine ⟨.inl ⟨rfl, _, _, hS1, rfl⟩, ?_⟩
  refine h.run G S0 _ e1 env S1 _ _ r1.pend h2 fun e2 us as S2 h3 hl st2 => ?_
  obtain ⟨p, hp, h4⟩ := someP_of h3
  obtain ⟨O, hc, hvs⟩ := st2
  have rx := dat_rq hc (hvs (pl r, .ref n) (by simp)) hp
  split at h4
  · rename_i ds z
    obtain ⟨y, rfl⟩ := len1 hl
    cases (show y = .str z from by cases (show Rp _ _ _ _ from hvs (.d (.str z), y) (by simp)); rfl)
    split at h4
    · rename_i ys hys
      split at h4
      · rename_i j hj
        obtain ⟨m, xs, e, hS, q⟩ := rx.list
        cases e
        show opt (mIndex (.ref n) [.str z] S2) P
        unfold mIndex
        simp only [hS, Cell.items, strsD_of q hys, hj]
        exact hP _ _ _ _ h4 (op_res hc (fun v hv => hvs v (by simp [hv])) (.data (.int _)))
      · exact h4.elim
    · exact h4.elim
  · exact h4.elim

/-! ### two names at once, of own lists -/
def vYes : VT := fun e Q => Q e true
theorem sim_yes : SimT T wYes vYes := ⟨fun G S0 vals venv env S P Q st hv hP => hP _ _ _ hv st⟩
/-- x, y = a, b; y is an own list -/
def vParLO (i j : Nat) (va vb : V) : VS := fun e D => va e fun e1 u => vb e1 fun e2 r => match r with
  | .fr ds => i ≠ j ∧ setV (pl u) fun p => D.nx ((e2.put i (some p)).put j (some (.ow ds)))
  | _ => False
theorem sim_parLO (i j : Nat) (ha : Sim T wa va) (hb : Sim T wb vb) : SimS T (wPar i j (wCons wa (wCons wb wNil))) (vParLO i j va vb) := by
  refine ⟨fun G S0 l venv env S D VD st hv he => ha.run G S0 _ venv env S _ _ st hv fun e1 u x S1 h1 r1 => ?_⟩
  refine hb.run G S0 _ e1 env S1 _ _ r1.pend h1 fun e2 r y S2 h2 r2 => ?_
  split at h2
  · obtain ⟨hij, h2⟩ := h2
    obtain ⟨O, hc, hvs, n, xs, rfl, g1, g2, g3, g4⟩ := r2
    obtain ⟨u1, q1, r3, n3⟩ := rx_set (hvs (pl u, x) (by simp)) h2
    refine he.nx _ _ _ q1 ⟨O, (hc.put r3 fun ds z => (n3 ds z).elim).put ⟨n, xs, rfl, g1, g3, g4⟩ fun ds z => ⟨n, rfl, fun k o => g2 k ?_⟩, pd_mem fun v hv => hvs v (List.mem_cons_of_mem _ hv)⟩
    obtain ⟨⟨es, h5⟩, h6⟩ := o
    by_cases e : i = k
    · subst e
      have l1 : i < e2.s.length := by have := (List.getElem?_eq_some_iff.mp h5).1; rwa [List.length_set] at this
      rw [List.getElem?_set_self l1] at h5
      cases h5
      exact (n3 _ rfl).elim
    · rw [List.getElem?_set_ne e] at h5 h6
      exact ⟨⟨es, h5⟩, h6⟩
  · exact h2.elim
/-- x, y = a, b; x is an own list -/
def vParOL (i j : Nat) (va vb : V) : VS := fun _ _ => False
/-! ### the end -/
theorem conV_len {c : VCon} {n : Nat} (h : ∀ us m Q, c us m Q → us.length = n) (xs : List PV) (S0 : Store) (P : PQ) (hc : conV T c xs S0 P) : xs.length = n := by
  obtain ⟨G, us, m, Q, _, hl, _, hq, _⟩ := hc
  rw [← hl]; exact h us m Q hq
end
section
variable {P : Program} {w : World} {K : PySem.W.Frag} {mg : Str → Option Value} {base : Heap}
theorem _root_.Lt.FnG.weak {CX : CXT} {k : Nat} {f : Addr} {fd : FuncData} {ps : List Str} {sp sp' : Sp} (F : FnG P w K mg base CX k f fd ps sp) (h : ∀ vs H Q E, sp' vs H Q E → sp vs H Q E) : FnG P w K mg base CX k f fd ps sp' :=
  ⟨fun vs H Q E q => F.len vs H Q E (h vs H Q E q), fun A outer s H args us vs Q E a b c d e q => F.run A outer s H args us vs Q E a b c d e (h vs H Q E q)⟩
theorem _root_.Lt.Callee.weak {x : Str} {ps : List Str} {st : Stmt} {k : Nat} {c c' : Con} (C : Callee P w K mg base x ps st k c) (h : ∀ xs S P, c' xs S P → c xs S P) : Callee P w K mg base x ps st k c' := by
  obtain ⟨f, fd, F, r⟩ := C.ex
  refine ⟨f, fd, F.weak ?_, r⟩
  rintro vs H Q E ⟨ι, S, xs, PP, rs, rx, hc, hP⟩
  exact ⟨ι, S, xs, PP, rs, rx, h _ _ _ hc, hP⟩
end
def conLaw : Con := conG (G := List Int) (fun ns xs S => xs = [.ref 0] ∧ ns.length ≤ 63 ∧ S = [.ro (ns.map .int)]) (fun _ _ _ x _ => x = .bl true)
theorem law_true (ns : List Int) (h : ns.length ≤ 63) : conLaw [.ref 0] [.ro (ns.map .int)] fun y _ => y = .bl true := con_g ns ⟨rfl, h, rfl⟩ fun _ _ h => h
/-- an object that a law hands around: its own cell, further ones; drawn from so often -/
def tokOf (Dk : List Nat → Nat → Store → Prop) : Tok := fun k n fs S => k = 0 ∧ Dk fs n S
structure DkOk (Dk : List Nat → Nat → Store → Prop) : Prop where
  ne : ∀ fs n S, Dk fs n S → fs ≠ []
  lt : ∀ fs n S, Dk fs n S → ∀ i ∈ fs, i < S.length
  fr : ∀ fs n S S', Dk fs n S → (∀ i ∈ fs, S'[i]? = S[i]?) → Dk fs n S'
def ofDk {Dk : List Nat → Nat → Store → Prop} (ok : DkOk Dk) (fs : List Nat) : Gd (tokOf Dk) where
  cells := fs
  inv n S := Dk fs n S
  dom k S h n hn := ok.lt fs k S h n hn
  fr k S S' h _ hc := ok.fr fs k S S' h hc
  tk k := if k = 0 then some fs else none
  iface k gs h := by
    have h' : k = 0 ∧ fs = gs := ite_some' h
    obtain ⟨rfl, rfl⟩ := h'
    exact ⟨fun m S q => ⟨rfl, q⟩, fun m m' S S' q hk z => z.2, fun n hn => hn⟩
/-- a draw, as it is promised over data; counted or not -/
def cDraw (ct : Bool) : VCon := fun us n Q => ∃ many : Nat, us = [.tok 0, .d (.int many)] ∧ 0 < many ∧ many < 1000000 ∧ n < 2 ^ 60 ∧ ∀ d : Nat, d < many → Q (.d (.int d)) (if ct then n + 1 else n)
/-- .. and over plain values -/
def conDraw (ct : Bool) (Dk : List Nat → Nat → Store → Prop) : Con := conG (G := List Nat × Nat × Nat) (fun g xs S => ∃ j fs, g.1 = j :: fs ∧ xs = [.ref j, .int g.2.2] ∧ Dk g.1 g.2.1 S ∧ 0 < g.2.2 ∧ g.2.2 < 1000000 ∧ g.2.1 < 2 ^ 60)
  (fun g xs S x S' => ∃ d : Nat, d < g.2.2 ∧ x = .int d ∧ Dk g.1 (if ct then g.2.1 + 1 else g.2.1) S' ∧ Kp g.1 S S')
theorem draw_of {ct : Bool} {Dk : List Nat → Nat → Store → Prop} (xs : List PV) (S : Store) (P : PQ) (h : conV (tokOf Dk) (cDraw ct) xs S P) : conDraw ct Dk xs S P := by
  obtain ⟨G, us, m, Q, hi, hl, ha, ⟨many, rfl, h1, h2, h3, hQ⟩, hP⟩ := h
  obtain ⟨x, y, rfl⟩ := len2 hl
  obtain ⟨n, fs, ht, rfl⟩ := (show ∃ n fs, G.tk 0 = some (n :: fs) ∧ x = .ref n from ha (.tok 0, x) (by simp))
  cases (show y = .int many from by cases (show Rp _ _ _ _ from ha (.d (.int many), y) (by simp)); rfl)
  obtain ⟨i1, i2, i3⟩ := G.iface 0 _ ht
  obtain ⟨_, hd⟩ := i1 m S hi
  refine con_g (n :: fs, m, many) ⟨n, fs, rfl, rfl, hd, h1, h2, h3⟩ ?_
  rintro x S' ⟨d, hlt, rfl, hd', k⟩
  exact hP _ _ _ _ (hQ d hlt) ⟨i2 m _ S S' hi k ⟨rfl, hd'⟩, k.sub i3, Rp.int _⟩
/-- the making of the object out of the script -/
def conDeck (Dk : List Nat → Nat → Store → Prop) : Con := conG (G := List Int) (fun g xs S => xs = [.ref 0] ∧ S[0]? = some (.ro (g.map .int)) ∧ g.length ≤ 63) (fun _ _ _ x S' => ∃ j fs, x = .ref j ∧ Dk (j :: fs) 0 S')
/-- the law's own def, behind the making of the object -/
theorem law_start {Dk : List Nat → Nat → Store → Prop} (ok : DkOk Dk) {a : WS} {x : VS} {n : Nat} (hs : SimS (tokOf Dk) a x) (hn : 2 ≤ n) (hv : x ⟨none :: some (.tok 0) :: List.replicate (n - 2) none, 0⟩ (vEnd fun r _ => r = .d (.bool true))) (xs : List PV) (S0 : Store) (P : PQ) (h : conLaw xs S0 P) :
    wSq (wSet 1 (wF (conDeck Dk) (wCons (wVar 0) wNil))) a (xs.map some ++ List.replicate (n - xs.length) none) S0 ⟨fun _ S' => P .non S', P, fun _ _ => False, fun _ _ => False⟩ := by
  obtain ⟨ns, ⟨rfl, hl, rfl⟩, hP⟩ := h
  obtain ⟨m, rfl⟩ : ∃ m, n = m + 2 := ⟨n - 2, by omega⟩
  show conDeck Dk [.ref 0] _ _
  refine con_g ns ⟨rfl, rfl, hl⟩ ?_
  rintro z S1 ⟨j, fs, rfl, hd⟩
  have e1 : (List.map some [PV.ref 0] ++ List.replicate (m + 2 - [PV.ref 0].length) none).set 1 (some (.ref j)) = some (.ref 0) :: some (.ref j) :: List.replicate m none := by
    show (some (PV.ref 0) :: List.replicate (m + 1) none).set 1 _ = _
    rw [List.replicate_succ]
    rfl
  show a ((List.map some [PV.ref 0] ++ List.replicate (m + 2 - [PV.ref 0].length) none).set 1 (some (.ref j))) S1 _
  rw [e1]
  have no : ∀ {i : Nat} {v : VX}, (none :: some (VX.tok 0) :: List.replicate m none : List (Option VX))[i]? = some (some v) → i = 1 ∧ v = .tok 0 := fun {i v} h => by
    match i, h with
    | 0, h => cases h
    | 1, h => cases h; exact ⟨rfl, rfl⟩
    | i + 2, h =>
      have := List.mem_of_getElem? (show (List.replicate m (none : Option VX))[i]? = some (some v) from h)
      rw [List.mem_replicate] at this
      cases this.2
  refine hs.run (ofDk ok (j :: fs)) S1 [] ⟨none :: some (.tok 0) :: List.replicate m none, 0⟩ _ S1 _ (vEnd fun r _ => r = .d (.bool true)) ⟨[], ⟨hd, .refl, by simp, fun n hn => (by cases hn), fun i v hv => ?_, fun i k n a b => ?_⟩, fun v hv => by cases hv⟩ hv
    ⟨fun e p S h1 st => ?_, fun r k p S h1 o => ?_, fun _ _ _ z => z.elim, fun _ _ _ z => z.elim⟩
  · obtain ⟨rfl, rfl⟩ := no hv
    exact ⟨.ref j, rfl, j, fs, rfl, rfl⟩
  · obtain ⟨⟨ds, h1⟩, _⟩ := a
    cases (no h1).2
  · cases (show VV.d .none = VV.d (.bool true) from h1)
  · cases (show r = VV.d (.bool true) from h1)
    obtain ⟨_, _, o⟩ := o
    cases (show p = .bl true from by cases (show Rp _ _ _ _ from o); rfl)
    exact hP _ _ rfl
end Vl
set_option Elab.async false
set_option linter.all false
set_option maxRecDepth 100000
set_option maxHeartbeats 1000000
/-! Vt8: helpers for the objects that laws draw from, over plain terms. -/
namespace Lw
open PySem PySem.Spec PyProof.Rows L2 Lt
abbrev iN (v : Nat) : PV := .int v
theorem keyOf_str (x : Str) : keyOf (.str x) = some (.inr x) := rfl
theorem bInt_b (b : Bool) (S : Store) : bInt [.bl b] S = some (.int (if b then 1 else 0), S) := rfl
theorem take_snoc {α : Type} {xs : List α} {i : Nat} {x : α} (h : xs[i]? = some x) : xs.take (i + 1) = xs.take i ++ [x] := by
  rw [List.take_succ, h]; rfl
theorem bMin_ii (i j : Int) (S : Store) : bMin [.int i, .int j] S = some (.int (if j < i then j else i), S) := rfl
theorem bInt_i (i : Int) (S : Store) : bInt [.int i] S = some (.int i, S) := rfl
theorem fEq_ii (i j : Int) (S : Store) : fEq (.int i) (.int j) S = some (.bl (decide (i = j)), S) := rfl
theorem fNe_ii (i j : Int) (S : Store) : fNe (.int i) (.int j) S = some (.bl (!decide (i = j)), S) := rfl
theorem bIsi_tt (xs : List PV) (S : Store) : bIsi [.tup xs, .ty "tuple"] S = some (.bl true, S) := rfl
theorem bIsi_it (i : Int) (S : Store) : bIsi [.int i, .ty "tuple"] S = some (.bl false, S) := rfl
theorem tru_b (b : Bool) (S : Store) : tru (.bl b) S = some b := rfl
theorem onL_ok {g : List PV → List PV → Option (List PV × PV)} {n : Nat} {xs args ys : List PV} {z : PV} {S : Store} (h : S[n]? = some (.lst xs)) (hg : g xs args = some (ys, z)) : onL g (.ref n) args S = some (z, S.set n (.lst ys)) := by
  show (match S[n]? with
    | some (Cell.lst xs) => (g xs args).map fun (r : List PV × PV) => (r.2, S.set n (Cell.lst r.1))
    | _ => none) = _
  rw [h]
  show (g xs args).map _ = _
  rw [hg]; rfl
theorem app_ok {n : Nat} {xs : List PV} {y : PV} {S : Store} (h : S[n]? = some (.lst xs)) (hl : xs.length < 16777216) : onL gAppend (.ref n) [y] S = some (.non, S.set n (.lst (xs ++ [y]))) :=
  onL_ok h (if_pos (sl_lt hl))
theorem ty_l {n : Nat} {c : Cell} {xs : List PV} {S : Store} (h : S[n]? = some c) (hx : c.items = some xs) : tyOk "list" (.ref n) S := .inl ⟨rfl, c, xs, h, hx⟩
theorem bTup_l {n : Nat} {c : Cell} {xs : List PV} {S : Store} (hc : S[n]? = some c) (hx : c.items = some xs) : bTuple [.ref n] S = some (.tup xs, S) := by
  show (seqOf (.ref n) S).map _ = _
  rw [seqOf_l hc hx]; rfl
theorem bList_l {n : Nat} {c : Cell} {xs : List PV} {S : Store} (hc : S[n]? = some c) (hx : c.items = some xs) : bList [.ref n] S = some (.ref S.length, S ++ [.lst xs]) := by
  show (seqOf (.ref n) S).map _ = _
  rw [seqOf_l hc hx]; rfl
theorem bList_t {xs : List PV} {S : Store} : bList [.tup xs] S = some (.ref S.length, S ++ [.lst xs]) := rfl

/-- what was made since does not count -/
theorem Kp.out {M M' : List Nat} {S S' : Store} {c : Cell} (a : Kp M (S ++ [c]) S') (h : ∀ n ∈ M, n ∈ M' ∨ S.length ≤ n) : Kp M' S S' :=
  ⟨by have := a.le; simp at this; omega, fun n d hn e => a.at_ n d (fun z => by
    rcases h n z with q | q
    · exact hn q
    · have := lt_of_at e; omega) (at_old e)⟩
theorem opt_go (r : PV × Store) (Q : PQ) : opt (some r) Q = Q r.1 r.2 := by
  obtain ⟨a, b⟩ := r
  exact opt_some _ _
theorem cutP_int (ns : List Int) (lo hi : Option Int) : ∃ ms : List Int, cutP (ns.map PV.int) lo hi = ms.map .int ∧ ms.length ≤ ns.length :=
  ⟨_, by unfold cutP; rw [← List.map_drop, ← List.map_take], by simp; omega⟩
theorem fSl_l {n : Nat} {c : Cell} {xs : List PV} {lo hi : Option Int} {S : Store} (h : S[n]? = some c) (hx : c.items = some xs) : fSl (.ref n) lo hi S = some (.ref S.length, S ++ [.lst (cutP xs lo hi)]) := by
  unfold fSl
  simp only [h, hx]
theorem eGL {n i : Nat} {c : Cell} {xs : List PV} {S : Store} (h : S[n]? = some c) (hx : c.items = some xs) : gL n i S = some xs[i]? := by
  unfold gL
  simp only [h, hx]
theorem at_int {ns : List Int} {i : Nat} {v : Int} (h : ns[i]? = some v) : (ns.map PV.int)[i]? = some (.int v) := by rw [List.getElem?_map, h]; rfl
theorem fAdd_ll' {n m : Nat} {xs ys : List PV} {S : Store} (h1 : S[n]? = some (.lst xs)) (h2 : S[m]? = some (.lst ys)) (h : xs.length + ys.length ≤ 16777216) : fAdd (.ref n) (.ref m) S = some (.ref S.length, S ++ [.lst (xs ++ ys)]) := fAdd_ll h1 h2 h
theorem seqI_go {n : Nat} {c : Cell} {xs : List PV} {S : Store} (h : S[n]? = some c) (hx : c.items = some xs) {R : Prop} (hR : R) : (∃ c xs, S[n]? = some c ∧ c.items = some xs) ∧ R := ⟨⟨c, xs, h, hx⟩, hR⟩
theorem eR2 {lo : Int} {n : Nat} {i : Nat} {S : Store} {x : PV} (h : i < n) (e : x = .int (lo + i)) : gR lo n i S = some (some x) := by
  unfold gR; rw [if_pos h, e]
theorem eR0 {lo : Int} {n : Nat} {S : Store} : gR lo n n S = some none := by
  unfold gR; rw [if_neg (Nat.lt_irrefl n)]
theorem mod_nat (z : Int) {m : Nat} (h : 0 < m) : ∃ d : Nat, d < m ∧ z % (m : Int) = (d : Int) := by
  refine ⟨(z % (m : Int)).toNat, ?_, ?_⟩
  · have := Int.emod_nonneg z (show (m : Int) ≠ 0 by omega)
    have := Int.emod_lt_of_pos z (show (0 : Int) < m by omega)
    omega
  · have := Int.emod_nonneg z (show (m : Int) ≠ 0 by omega)
    omega
theorem ty_l' {n : Nat} {xs : List PV} {S : Store} (h : S[n]? = some (.lst xs)) : tyOk "list" (.ref n) S := ty_l h rfl
theorem pop_at {xs : List PV} {i : Nat} {y : PV} (h : xs[i]? = some y) (hl : xs.length < 2 ^ 60) : gPop xs [.int i] = some (xs.eraseIdx i, y) := by
  have hi : i < xs.length := (List.getElem?_eq_some_iff.mp h).1
  have e : seqIndex? (i : Int) xs.length = some i := by
    unfold seqIndex?
    have : ¬ ((i : Int) < 0) := by omega
    simp only [this, if_false]
    rw [if_pos (by simp; omega)]
    rfl
  unfold gPop
  dsimp only
  rw [if_pos ⟨by omega, by omega⟩]
  simp only [e, h, Option.map_some]
theorem ins0 {xs : List PV} {y : PV} (h : xs.length < 16777216) : gInsert xs [.int 0, y] = some (y :: xs, .non) := by
  unfold gInsert
  dsimp only
  rw [if_pos ⟨sl_lt h, by omega, by omega⟩]
  rfl

theorem fGe_ii (i j : Int) (S : Store) : fGe (.int i) (.int j) S = some (.bl (decide (j ≤ i)), S) := rfl
theorem ix0 {xs : List PV} {y : PV} : gPop (y :: xs) [.int 0] = some (xs, y) := by
  have := pop_at (xs := y :: xs) (i := 0) (y := y) rfl
  unfold gPop
  dsimp only
  rw [if_pos ⟨by omega, by omega⟩]
  have e : seqIndex? 0 (y :: xs).length = some 0 := by
    unfold seqIndex?
    simp
  rw [e]
  rfl
theorem bAbs_i (i : Int) (S : Store) : bAbs [.int i] S = some (.int (if i < 0 then -i else i), S) := rfl
theorem iota_ok {z m : Int} (h : 0 < m) : 0 ≤ z % m ∧ z % m < m := ⟨Int.emod_nonneg _ (by omega), Int.emod_lt_of_pos _ h⟩
end Lw
set_option Elab.async false
set_option linter.all false
set_option maxRecDepth 100000
/-! Vt9: loops over data by invariants; small facts for the walk over data. -/
namespace Vl
open PySem PySem.Spec PyProof.Rows L2 Lt
theorem vfor_inv {tg : VG} {body : VS} {D : VEnds} {ps : List PyData} (I : Nat → VEnv → Prop)
    (turn : ∀ i e p, ps[i]? = some p → I i e → ∃ e1, tg p e = some e1 ∧ ∀ D' : VEnds, (∀ e', I (i + 1) e' → D'.nx e') → (∀ e', I (i + 1) e' → D'.ct e') → D'.rt = D.rt → D'.bk = D.nx → body e1 D')
    (stop : ∀ e, I ps.length e → D.nx e) {e : VEnv} (h0 : I 0 e) : vLoop tg body D ps e := by
  have key : ∀ k i e, i + k = ps.length → I i e → vLoop tg body D (ps.drop i) e := by
    intro k
    induction k with
    | zero =>
      intro i e hi h
      rw [List.drop_eq_nil_of_le (by omega)]
      exact stop e (by rw [← show i = ps.length by omega]; exact h)
    | succ k ih =>
      intro i e hi h
      have hlt : i < ps.length := by omega
      rw [List.drop_eq_getElem_cons hlt]
      obtain ⟨e1, h1, h2⟩ := turn i e _ (List.getElem?_eq_getElem hlt) h
      unfold vLoop
      simp only [h1]
      exact h2 _ (fun e' q => ih (i + 1) e' (by omega) q) (fun e' q => ih (i + 1) e' (by omega) q) rfl rfl
  have := key ps.length 0 e (by omega) h0
  rwa [List.drop_zero] at this
theorem vlc_inv {tg : VG} {tt : VT} {te : V} {own : List Nat} {K : VEnv → List PyData → Prop} {s : List (Option VX)} {ps : List PyData} (hl : ps.length ≤ 16777216) (I : Nat → Nat → List PyData → Prop)
    (turn : ∀ i n acc p, ps[i]? = some p → I i n acc → ∃ e1, tg p (wipeV ⟨s, n⟩ own) = some e1 ∧ ∀ (Qt : VEnv → Bool → Prop) (Qe : VQ),
      (∀ e3 y q, stab y = some q → e3.s = e1.s → I (i + 1) e3.n (acc ++ [q]) → Qe e3 y) → (∀ e2, e2.s = e1.s → I (i + 1) e2.n acc → Qt e2 false) → (∀ e2, e2.s = e1.s → te e2 Qe → Qt e2 true) → tt e1 Qt)
    (stop : ∀ n acc, I ps.length n acc → K ⟨s, n⟩ acc) {n : Nat} (h0 : I 0 n []) : vLcL tg tt te own K ps ⟨s, n⟩ [] := by
  have key : ∀ k i n acc, i + k = ps.length → acc.length ≤ i → I i n acc → vLcL tg tt te own K (ps.drop i) ⟨s, n⟩ acc := by
    intro k
    induction k with
    | zero =>
      intro i n acc hi _ h
      rw [List.drop_eq_nil_of_le (by omega)]
      exact stop n acc (by rw [← show i = ps.length by omega]; exact h)
    | succ k ih =>
      intro i n acc hi ha h
      have hlt : i < ps.length := by omega
      rw [List.drop_eq_getElem_cons hlt]
      obtain ⟨e1, h1, h2⟩ := turn i n acc _ (List.getElem?_eq_getElem hlt) h
      unfold vLcL
      simp only [h1]
      refine h2 _ (fun e3 y => e3.s = e1.s ∧ someP (stab y) fun q => acc.length < sizeLine ∧ vLcL tg tt te own K (ps.drop (i + 1)) ⟨s, e3.n⟩ (acc ++ [q])) ?_ ?_ ?_
      · intro e3 y q hy hs q1
        refine ⟨hs, ?_⟩
        rw [hy]
        exact ⟨by rw [sizeLine_eq]; omega, ih (i + 1) _ _ (by omega) (by simp; omega) q1⟩
      · intro e2 hs q1
        exact ⟨hs, ih (i + 1) _ _ (by omega) (by omega) q1⟩
      · intro e2 hs q1
        exact ⟨hs, q1⟩
  have := key ps.length 0 n [] (by omega) (Nat.le_refl _) h0
  rwa [List.drop_zero] at this
theorem vAdd_ii (i j : Int) : vAdd (.int i) (.int j) = some (.d (.int (i + j))) := rfl
theorem vSub_ii (i j : Int) : vI gSub (.int i) (.int j) = some (.d (.int (i - j))) := rfl
theorem vLt_ii (i j : Int) : vI (gB fun i j => decide (i < j)) (.int i) (.int j) = some (.d (.bool (decide (i < j)))) := rfl
theorem vLe_ii (i j : Int) : vI (gB fun i j => decide (i ≤ j)) (.int i) (.int j) = some (.d (.bool (decide (i ≤ j)))) := rfl
theorem vGt_ii (i j : Int) : vI (gB fun i j => decide (j < i)) (.int i) (.int j) = some (.d (.bool (decide (j < i)))) := rfl
theorem vGe_ii (i j : Int) : vI (gB fun i j => decide (j ≤ i)) (.int i) (.int j) = some (.d (.bool (decide (j ≤ i)))) := rfl
theorem vMod_ii {i j : Int} (h : 0 < j) : vI gMod (.int i) (.int j) = some (.d (.int (i % j))) := by
  show (match gMod i j with | some z => (pvS z).map VV.d | none => none) = _
  rw [gMod_ok h]; rfl
theorem vDiv_ii {i j : Int} (h : 0 < j) (h2 : j < 1073741824) : vI gDiv (.int i) (.int j) = some (.d (.int (i / j))) := by
  show (match gDiv i j with | some z => (pvS z).map VV.d | none => none) = _
  rw [gDiv_ok h h2]; rfl
theorem vMul_l {i j : Int} (h1 : -(2 ^ 64) < i) (h2 : i < 2 ^ 64) : vI gMul (.int i) (.int j) = some (.d (.int (i * j))) := by
  show (match gMul i j with | some z => (pvS z).map VV.d | none => none) = _
  rw [gMul_l h1 h2]; rfl
theorem vMul_r {i j : Int} (h1 : -(2 ^ 64) < j) (h2 : j < 2 ^ 64) : vI gMul (.int i) (.int j) = some (.d (.int (i * j))) := by
  show (match gMul i j with | some z => (pvS z).map VV.d | none => none) = _
  rw [gMul_r h1 h2]; rfl
theorem vAdd_tt {a b : List PyData} (h : a.length + b.length ≤ 16777216) : vAdd (.tuple a) (.tuple b) = some (.d (.tuple (a ++ b))) := if_pos h
theorem vAdd_ll {a b : List PyData} (h : a.length + b.length ≤ 16777216) : vAdd (.list a) (.list b) = some (.fr (a ++ b)) := if_pos h
theorem vAdd_ss {a b : Str} (h : a.length + b.length ≤ 16777216) : vAdd (.str a) (.str b) = some (.d (.str (a ++ b))) := if_pos h
theorem eqD_ii (i j : Int) : eqD (.int i) (.int j) = some (decide (i = j)) := rfl
theorem str_dec (i j : Str) : decide (i = j) = (i == j) := by
  cases h : (i == j) with
  | true => rw [beq_iff_eq] at h; exact decide_eq_true h
  | false => exact decide_eq_false fun e => by rw [e] at h; simp at h
theorem eqD_ss (i j : Str) : eqD (.str i) (.str j) = some (i == j) := congrArg some (str_dec i j)
theorem eqD_bb (i j : Bool) : eqD (.bool i) (.bool j) = some (decide (i = j)) := rfl
theorem atI_n {α : Type} {xs : List α} {j : Nat} {x : α} (h : xs[j]? = some x) : atI xs (j : Int) = some x := by
  have hl := (List.getElem?_eq_some_iff.mp h).1
  unfold atI ixN
  rw [if_pos (by omega), if_pos (by omega)]
  simpa using h
theorem vIx_t {ds : List PyData} {j : Nat} {x : PyData} (h : ds[j]? = some x) : vIx (.tuple ds) (.int j) = some (.d x) := by
  show (atI ds (j : Int)).map VV.d = _
  rw [atI_n h]; rfl
theorem vIx_l {ds : List PyData} {j : Nat} {x : PyData} (h : ds[j]? = some x) : vIx (.list ds) (.int j) = some (.d x) := by
  show (atI ds (j : Int)).map VV.d = _
  rw [atI_n h]; rfl
theorem append_ok {ds : List PyData} {p : PyData} (h : ds.length < 16777216) : lAppend ds [p] = some (ds ++ [p], .none) := if_pos (by rw [sizeLine_eq]; exact h)
theorem cutD_lo {ds : List PyData} {k : Nat} (h : k ≤ ds.length) : cutD ds none (some (k : Int)) = ds.take k := by
  unfold cutD
  rw [HT.sIx_none, HT.sIx_nat, Nat.min_eq_left h]
  simp
theorem cutD_hi {ds : List PyData} {k : Nat} (h : k ≤ ds.length) : cutD ds (some (k : Int)) none = ds.drop k := by
  unfold cutD
  rw [HT.sIx_none, HT.sIx_nat, Nat.min_eq_left h]
  rw [List.take_of_length_le (by simp)]
/-- repr of small data -/
structure ReprOk (d : PyData) : Prop where
  sh : d.showable = true
  dp : d.depth ≤ 60
  ln : d.shown.length ≤ 16777216
theorem vRepr_ok {d : PyData} (h : ReprOk d) : vRepr [d] = some (.d (.str d.shown)) := if_pos ⟨h.sh, h.dp, by rw [sizeLine_eq]; exact h.ln⟩
theorem ReprOk.of {k L : Nat} {d : PyData} (o : Okd k L d) (hk : k ≤ 60) (hL : L ≤ 16777216) : ReprOk d := ⟨o.sh, Nat.le_trans o.dp hk, Nat.le_trans o.ln hL⟩
theorem vLen_t {ds : List PyData} : vLen [.tuple ds] = some (.d (.int ds.length)) := rfl
theorem vLen_l {ds : List PyData} : vLen [.list ds] = some (.d (.int ds.length)) := rfl
theorem vTup_t {ds : List PyData} : vTupleB [.tuple ds] = some (.d (.tuple ds)) := rfl
theorem vTup_l {ds : List PyData} : vTupleB [.list ds] = some (.d (.tuple ds)) := rfl
theorem vList_t {ds : List PyData} : vListB [.tuple ds] = some (.fr ds) := rfl
theorem vList_l {ds : List PyData} : vListB [.list ds] = some (.fr ds) := rfl
theorem vInt_i {i : Int} : Vl.vInt [.int i] = some (.d (.int i)) := rfl
theorem vInt_b {b : Bool} : Vl.vInt [.bool b] = some (.d (.int (if b then 1 else 0))) := rfl
theorem vAbs_i {i : Int} : vAbs [.int i] = some (.d (.int (if i < 0 then -i else i))) := rfl
theorem vMin_ii {i j : Int} : vMin [.int i, .int j] = some (.d (.int (if j < i then j else i))) := rfl
theorem vMax_ii {i j : Int} : vMax [.int i, .int j] = some (.d (.int (if j > i then j else i))) := rfl
theorem vSl_t {ds : List PyData} {lo hi : Option Int} : vSlG (.tuple ds) lo hi = some (.d (.tuple (cutD ds lo hi))) := rfl
theorem vSl_l {ds : List PyData} {lo hi : Option Int} : vSlG (.list ds) lo hi = some (.fr (cutD ds lo hi)) := rfl
theorem vIs_n {p : PyData} : vIs p .none = some (.d (.bool (isNoneD p))) := rfl
theorem vIsNot_n {p : PyData} : vIsNot p .none = some (.d (.bool (!isNoneD p))) := rfl
theorem vAdd_ll' {a b : List PyData} : vAdd (.list a) (.list b) = if a.length + b.length ≤ 16777216 then some (.fr (a ++ b)) else none := rfl
theorem vAdd_tt' {a b : List PyData} : vAdd (.tuple a) (.tuple b) = if a.length + b.length ≤ 16777216 then some (.d (.tuple (a ++ b))) else none := rfl
theorem app' {ds : List PyData} {p : PyData} : lAppend ds [p] = if ds.length < sizeLine then some (ds ++ [p], .none) else none := rfl
theorem vIx_t' {ds : List PyData} {i : Int} : vIx (.tuple ds) (.int i) = (atI ds i).map .d := rfl
theorem vIx_l' {ds : List PyData} {i : Int} : vIx (.list ds) (.int i) = (atI ds i).map .d := rfl
theorem atI_c {α : Type} {xs : List α} {k : Nat} : atI xs (k : Int) = xs[k]? := by
  cases h : xs[k]? with
  | some x => exact atI_n h
  | none =>
    have := List.getElem?_eq_none_iff.mp h
    unfold atI ixN
    rw [if_pos (by omega), if_neg (by omega)]; rfl
theorem sIx_c {n d k : Nat} : HT.sIx n d (some (k : Int)) = min k n := HT.sIx_nat n d k
theorem cutD_c0 {ds : List PyData} {k : Nat} : cutD ds none (some (k : Int)) = ds.take k := by
  unfold cutD
  rw [HT.sIx_none, sIx_c, Nat.sub_zero, List.drop_zero]
  by_cases h : k ≤ ds.length
  · rw [Nat.min_eq_left h]
  · have e : ds.take k = ds := List.take_of_length_le (by omega)
    rw [Nat.min_eq_right (by omega), List.take_length]
    exact e.symm
theorem cutD_c1 {ds : List PyData} {k : Nat} : cutD ds (some (k : Int)) none = ds.drop k := by
  unfold cutD
  rw [HT.sIx_none, sIx_c]
  by_cases h : k ≤ ds.length
  · rw [Nat.min_eq_left h, List.take_of_length_le (by simp)]
  · have e : ds.drop k = [] := List.drop_eq_nil_of_le (by omega)
    rw [Nat.min_eq_right (by omega), Nat.sub_self, List.take_zero]
    exact e.symm
theorem cutD_c2 {ds : List PyData} {i j : Nat} : cutD ds (some (i : Int)) (some (j : Int)) = (ds.take j).drop i := by
  unfold cutD
  rw [sIx_c, sIx_c, List.drop_take]
  by_cases h : i ≤ ds.length
  · rw [Nat.min_eq_left h]
    by_cases h2 : j ≤ ds.length
    · rw [Nat.min_eq_left h2]
    · rw [Nat.min_eq_right (by omega), List.take_of_length_le (by simp), List.take_of_length_le (by simp; omega)]
  · have e : ds.drop i = [] := List.drop_eq_nil_of_le (by omega)
    have e2 : ds.drop (min i ds.length) = [] := List.drop_eq_nil_of_le (by omega)
    rw [e, e2, List.take_nil, List.take_nil]
theorem cutL_0 {ds : List PyData} : cutD ds none (some 0) = ds.take 0 := cutD_c0 (k := 0)
theorem cutR_0 {ds : List PyData} : cutD ds (some 0) none = ds.drop 0 := cutD_c1 (k := 0)
theorem cutL_1 {ds : List PyData} : cutD ds none (some 1) = ds.take 1 := cutD_c0 (k := 1)
theorem cutR_1 {ds : List PyData} : cutD ds (some 1) none = ds.drop 1 := cutD_c1 (k := 1)
theorem cutL_2 {ds : List PyData} : cutD ds none (some 2) = ds.take 2 := cutD_c0 (k := 2)
theorem cutR_2 {ds : List PyData} : cutD ds (some 2) none = ds.drop 2 := cutD_c1 (k := 2)
theorem cutL_3 {ds : List PyData} : cutD ds none (some 3) = ds.take 3 := cutD_c0 (k := 3)
theorem cutR_3 {ds : List PyData} : cutD ds (some 3) none = ds.drop 3 := cutD_c1 (k := 3)
theorem cutL_4 {ds : List PyData} : cutD ds none (some 4) = ds.take 4 := cutD_c0 (k := 4)
theorem cutR_4 {ds : List PyData} : cutD ds (some 4) none = ds.drop 4 := cutD_c1 (k := 4)
theorem cutL_5 {ds : List PyData} : cutD ds none (some 5) = ds.take 5 := cutD_c0 (k := 5)
theorem cutR_5 {ds : List PyData} : cutD ds (some 5) none = ds.drop 5 := cutD_c1 (k := 5)
theorem cutL_6 {ds : List PyData} : cutD ds none (some 6) = ds.take 6 := cutD_c0 (k := 6)
theorem cutR_6 {ds : List PyData} : cutD ds (some 6) none = ds.drop 6 := cutD_c1 (k := 6)
theorem cutL_7 {ds : List PyData} : cutD ds none (some 7) = ds.take 7 := cutD_c0 (k := 7)
theorem cutR_7 {ds : List PyData} : cutD ds (some 7) none = ds.drop 7 := cutD_c1 (k := 7)
theorem cutL_8 {ds : List PyData} : cutD ds none (some 8) = ds.take 8 := cutD_c0 (k := 8)
theorem cutR_8 {ds : List PyData} : cutD ds (some 8) none = ds.drop 8 := cutD_c1 (k := 8)
theorem cutL_9 {ds : List PyData} : cutD ds none (some 9) = ds.take 9 := cutD_c0 (k := 9)
theorem cutR_9 {ds : List PyData} : cutD ds (some 9) none = ds.drop 9 := cutD_c1 (k := 9)
theorem cutL_10 {ds : List PyData} : cutD ds none (some 10) = ds.take 10 := cutD_c0 (k := 10)
theorem cutR_10 {ds : List PyData} : cutD ds (some 10) none = ds.drop 10 := cutD_c1 (k := 10)
theorem cutL_11 {ds : List PyData} : cutD ds none (some 11) = ds.take 11 := cutD_c0 (k := 11)
theorem cutR_11 {ds : List PyData} : cutD ds (some 11) none = ds.drop 11 := cutD_c1 (k := 11)
theorem cutL_12 {ds : List PyData} : cutD ds none (some 12) = ds.take 12 := cutD_c0 (k := 12)
theorem cutR_12 {ds : List PyData} : cutD ds (some 12) none = ds.drop 12 := cutD_c1 (k := 12)
theorem cutL_13 {ds : List PyData} : cutD ds none (some 13) = ds.take 13 := cutD_c0 (k := 13)
theorem cutR_13 {ds : List PyData} : cutD ds (some 13) none = ds.drop 13 := cutD_c1 (k := 13)
theorem cutM_0_1 {ds : List PyData} : cutD ds (some 0) (some 1) = (ds.take 1).drop 0 := cutD_c2 (i := 0) (j := 1)
theorem cutM_0_2 {ds : List PyData} : cutD ds (some 0) (some 2) = (ds.take 2).drop 0 := cutD_c2 (i := 0) (j := 2)
theorem cutM_0_3 {ds : List PyData} : cutD ds (some 0) (some 3) = (ds.take 3).drop 0 := cutD_c2 (i := 0) (j := 3)
theorem cutM_0_4 {ds : List PyData} : cutD ds (some 0) (some 4) = (ds.take 4).drop 0 := cutD_c2 (i := 0) (j := 4)
theorem cutM_0_5 {ds : List PyData} : cutD ds (some 0) (some 5) = (ds.take 5).drop 0 := cutD_c2 (i := 0) (j := 5)
theorem cutM_0_6 {ds : List PyData} : cutD ds (some 0) (some 6) = (ds.take 6).drop 0 := cutD_c2 (i := 0) (j := 6)
theorem cutM_0_7 {ds : List PyData} : cutD ds (some 0) (some 7) = (ds.take 7).drop 0 := cutD_c2 (i := 0) (j := 7)
theorem cutM_0_8 {ds : List PyData} : cutD ds (some 0) (some 8) = (ds.take 8).drop 0 := cutD_c2 (i := 0) (j := 8)
theorem cutM_0_9 {ds : List PyData} : cutD ds (some 0) (some 9) = (ds.take 9).drop 0 := cutD_c2 (i := 0) (j := 9)
theorem cutM_0_10 {ds : List PyData} : cutD ds (some 0) (some 10) = (ds.take 10).drop 0 := cutD_c2 (i := 0) (j := 10)
theorem cutM_0_11 {ds : List PyData} : cutD ds (some 0) (some 11) = (ds.take 11).drop 0 := cutD_c2 (i := 0) (j := 11)
theorem cutM_0_12 {ds : List PyData} : cutD ds (some 0) (some 12) = (ds.take 12).drop 0 := cutD_c2 (i := 0) (j := 12)
theorem cutM_1_2 {ds : List PyData} : cutD ds (some 1) (some 2) = (ds.take 2).drop 1 := cutD_c2 (i := 1) (j := 2)
theorem cutM_1_3 {ds : List PyData} : cutD ds (some 1) (some 3) = (ds.take 3).drop 1 := cutD_c2 (i := 1) (j := 3)
theorem cutM_1_4 {ds : List PyData} : cutD ds (some 1) (some 4) = (ds.take 4).drop 1 := cutD_c2 (i := 1) (j := 4)
theorem cutM_1_5 {ds : List PyData} : cutD ds (some 1) (some 5) = (ds.take 5).drop 1 := cutD_c2 (i := 1) (j := 5)
theorem cutM_1_6 {ds : List PyData} : cutD ds (some 1) (some 6) = (ds.take 6).drop 1 := cutD_c2 (i := 1) (j := 6)
theorem cutM_1_7 {ds : List PyData} : cutD ds (some 1) (some 7) = (ds.take 7).drop 1 := cutD_c2 (i := 1) (j := 7)
theorem cutM_1_8 {ds : List PyData} : cutD ds (some 1) (some 8) = (ds.take 8).drop 1 := cutD_c2 (i := 1) (j := 8)
theorem cutM_1_9 {ds : List PyData} : cutD ds (some 1) (some 9) = (ds.take 9).drop 1 := cutD_c2 (i := 1) (j := 9)
theorem cutM_1_10 {ds : List PyData} : cutD ds (some 1) (some 10) = (ds.take 10).drop 1 := cutD_c2 (i := 1) (j := 10)
theorem cutM_1_11 {ds : List PyData} : cutD ds (some 1) (some 11) = (ds.take 11).drop 1 := cutD_c2 (i := 1) (j := 11)
theorem cutM_1_12 {ds : List PyData} : cutD ds (some 1) (some 12) = (ds.take 12).drop 1 := cutD_c2 (i := 1) (j := 12)
theorem cutM_2_3 {ds : List PyData} : cutD ds (some 2) (some 3) = (ds.take 3).drop 2 := cutD_c2 (i := 2) (j := 3)
theorem cutM_2_4 {ds : List PyData} : cutD ds (some 2) (some 4) = (ds.take 4).drop 2 := cutD_c2 (i := 2) (j := 4)
theorem cutM_2_5 {ds : List PyData} : cutD ds (some 2) (some 5) = (ds.take 5).drop 2 := cutD_c2 (i := 2) (j := 5)
theorem cutM_2_6 {ds : List PyData} : cutD ds (some 2) (some 6) = (ds.take 6).drop 2 := cutD_c2 (i := 2) (j := 6)
theorem cutM_2_7 {ds : List PyData} : cutD ds (some 2) (some 7) = (ds.take 7).drop 2 := cutD_c2 (i := 2) (j := 7)
theorem cutM_2_8 {ds : List PyData} : cutD ds (some 2) (some 8) = (ds.take 8).drop 2 := cutD_c2 (i := 2) (j := 8)
theorem cutM_2_9 {ds : List PyData} : cutD ds (some 2) (some 9) = (ds.take 9).drop 2 := cutD_c2 (i := 2) (j := 9)
theorem cutM_2_10 {ds : List PyData} : cutD ds (some 2) (some 10) = (ds.take 10).drop 2 := cutD_c2 (i := 2) (j := 10)
theorem cutM_2_11 {ds : List PyData} : cutD ds (some 2) (some 11) = (ds.take 11).drop 2 := cutD_c2 (i := 2) (j := 11)
theorem cutM_2_12 {ds : List PyData} : cutD ds (some 2) (some 12) = (ds.take 12).drop 2 := cutD_c2 (i := 2) (j := 12)
theorem cutM_3_4 {ds : List PyData} : cutD ds (some 3) (some 4) = (ds.take 4).drop 3 := cutD_c2 (i := 3) (j := 4)
theorem cutM_3_5 {ds : List PyData} : cutD ds (some 3) (some 5) = (ds.take 5).drop 3 := cutD_c2 (i := 3) (j := 5)
theorem cutM_3_6 {ds : List PyData} : cutD ds (some 3) (some 6) = (ds.take 6).drop 3 := cutD_c2 (i := 3) (j := 6)
theorem cutM_3_7 {ds : List PyData} : cutD ds (some 3) (some 7) = (ds.take 7).drop 3 := cutD_c2 (i := 3) (j := 7)
theorem cutM_3_8 {ds : List PyData} : cutD ds (some 3) (some 8) = (ds.take 8).drop 3 := cutD_c2 (i := 3) (j := 8)
theorem cutM_3_9 {ds : List PyData} : cutD ds (some 3) (some 9) = (ds.take 9).drop 3 := cutD_c2 (i := 3) (j := 9)
theorem cutM_3_10 {ds : List PyData} : cutD ds (some 3) (some 10) = (ds.take 10).drop 3 := cutD_c2 (i := 3) (j := 10)
theorem cutM_3_11 {ds : List PyData} : cutD ds (some 3) (some 11) = (ds.take 11).drop 3 := cutD_c2 (i := 3) (j := 11)
theorem cutM_3_12 {ds : List PyData} : cutD ds (some 3) (some 12) = (ds.take 12).drop 3 := cutD_c2 (i := 3) (j := 12)
theorem cutM_4_5 {ds : List PyData} : cutD ds (some 4) (some 5) = (ds.take 5).drop 4 := cutD_c2 (i := 4) (j := 5)
theorem cutM_4_6 {ds : List PyData} : cutD ds (some 4) (some 6) = (ds.take 6).drop 4 := cutD_c2 (i := 4) (j := 6)
theorem cutM_4_7 {ds : List PyData} : cutD ds (some 4) (some 7) = (ds.take 7).drop 4 := cutD_c2 (i := 4) (j := 7)
theorem cutM_4_8 {ds : List PyData} : cutD ds (some 4) (some 8) = (ds.take 8).drop 4 := cutD_c2 (i := 4) (j := 8)
theorem cutM_4_9 {ds : List PyData} : cutD ds (some 4) (some 9) = (ds.take 9).drop 4 := cutD_c2 (i := 4) (j := 9)
theorem cutM_4_10 {ds : List PyData} : cutD ds (some 4) (some 10) = (ds.take 10).drop 4 := cutD_c2 (i := 4) (j := 10)
theorem cutM_4_11 {ds : List PyData} : cutD ds (some 4) (some 11) = (ds.take 11).drop 4 := cutD_c2 (i := 4) (j := 11)
theorem cutM_4_12 {ds : List PyData} : cutD ds (some 4) (some 12) = (ds.take 12).drop 4 := cutD_c2 (i := 4) (j := 12)
theorem cutM_5_6 {ds : List PyData} : cutD ds (some 5) (some 6) = (ds.take 6).drop 5 := cutD_c2 (i := 5) (j := 6)
theorem cutM_5_7 {ds : List PyData} : cutD ds (some 5) (some 7) = (ds.take 7).drop 5 := cutD_c2 (i := 5) (j := 7)
theorem cutM_5_8 {ds : List PyData} : cutD ds (some 5) (some 8) = (ds.take 8).drop 5 := cutD_c2 (i := 5) (j := 8)
theorem cutM_5_9 {ds : List PyData} : cutD ds (some 5) (some 9) = (ds.take 9).drop 5 := cutD_c2 (i := 5) (j := 9)
theorem cutM_5_10 {ds : List PyData} : cutD ds (some 5) (some 10) = (ds.take 10).drop 5 := cutD_c2 (i := 5) (j := 10)
theorem cutM_5_11 {ds : List PyData} : cutD ds (some 5) (some 11) = (ds.take 11).drop 5 := cutD_c2 (i := 5) (j := 11)
theorem cutM_5_12 {ds : List PyData} : cutD ds (some 5) (some 12) = (ds.take 12).drop 5 := cutD_c2 (i := 5) (j := 12)
theorem cutM_6_7 {ds : List PyData} : cutD ds (some 6) (some 7) = (ds.take 7).drop 6 := cutD_c2 (i := 6) (j := 7)
theorem cutM_6_8 {ds : List PyData} : cutD ds (some 6) (some 8) = (ds.take 8).drop 6 := cutD_c2 (i := 6) (j := 8)
theorem cutM_6_9 {ds : List PyData} : cutD ds (some 6) (some 9) = (ds.take 9).drop 6 := cutD_c2 (i := 6) (j := 9)
theorem cutM_6_10 {ds : List PyData} : cutD ds (some 6) (some 10) = (ds.take 10).drop 6 := cutD_c2 (i := 6) (j := 10)
theorem cutM_6_11 {ds : List PyData} : cutD ds (some 6) (some 11) = (ds.take 11).drop 6 := cutD_c2 (i := 6) (j := 11)
theorem cutM_6_12 {ds : List PyData} : cutD ds (some 6) (some 12) = (ds.take 12).drop 6 := cutD_c2 (i := 6) (j := 12)
theorem cutM_7_8 {ds : List PyData} : cutD ds (some 7) (some 8) = (ds.take 8).drop 7 := cutD_c2 (i := 7) (j := 8)
theorem cutM_7_9 {ds : List PyData} : cutD ds (some 7) (some 9) = (ds.take 9).drop 7 := cutD_c2 (i := 7) (j := 9)
theorem cutM_7_10 {ds : List PyData} : cutD ds (some 7) (some 10) = (ds.take 10).drop 7 := cutD_c2 (i := 7) (j := 10)
theorem cutM_7_11 {ds : List PyData} : cutD ds (some 7) (some 11) = (ds.take 11).drop 7 := cutD_c2 (i := 7) (j := 11)
theorem cutM_7_12 {ds : List PyData} : cutD ds (some 7) (some 12) = (ds.take 12).drop 7 := cutD_c2 (i := 7) (j := 12)
theorem cutM_8_9 {ds : List PyData} : cutD ds (some 8) (some 9) = (ds.take 9).drop 8 := cutD_c2 (i := 8) (j := 9)
theorem cutM_8_10 {ds : List PyData} : cutD ds (some 8) (some 10) = (ds.take 10).drop 8 := cutD_c2 (i := 8) (j := 10)
theorem cutM_8_11 {ds : List PyData} : cutD ds (some 8) (some 11) = (ds.take 11).drop 8 := cutD_c2 (i := 8) (j := 11)
theorem cutM_8_12 {ds : List PyData} : cutD ds (some 8) (some 12) = (ds.take 12).drop 8 := cutD_c2 (i := 8) (j := 12)
theorem cutM_9_10 {ds : List PyData} : cutD ds (some 9) (some 10) = (ds.take 10).drop 9 := cutD_c2 (i := 9) (j := 10)
theorem cutM_9_11 {ds : List PyData} : cutD ds (some 9) (some 11) = (ds.take 11).drop 9 := cutD_c2 (i := 9) (j := 11)
theorem cutM_9_12 {ds : List PyData} : cutD ds (some 9) (some 12) = (ds.take 12).drop 9 := cutD_c2 (i := 9) (j := 12)
theorem cutM_10_11 {ds : List PyData} : cutD ds (some 10) (some 11) = (ds.take 11).drop 10 := cutD_c2 (i := 10) (j := 11)
theorem cutM_10_12 {ds : List PyData} : cutD ds (some 10) (some 12) = (ds.take 12).drop 10 := cutD_c2 (i := 10) (j := 12)
theorem cutM_11_12 {ds : List PyData} : cutD ds (some 11) (some 12) = (ds.take 12).drop 11 := cutD_c2 (i := 11) (j := 12)
theorem atI_0 {α : Type} {xs : List α} : atI xs 0 = xs[0]? := atI_c (k := 0)
theorem atI_1 {α : Type} {xs : List α} : atI xs 1 = xs[1]? := atI_c (k := 1)
theorem atI_2 {α : Type} {xs : List α} : atI xs 2 = xs[2]? := atI_c (k := 2)
theorem atI_3 {α : Type} {xs : List α} : atI xs 3 = xs[3]? := atI_c (k := 3)
theorem atI_4 {α : Type} {xs : List α} : atI xs 4 = xs[4]? := atI_c (k := 4)
theorem atI_5 {α : Type} {xs : List α} : atI xs 5 = xs[5]? := atI_c (k := 5)
theorem atI_6 {α : Type} {xs : List α} : atI xs 6 = xs[6]? := atI_c (k := 6)
theorem atI_7 {α : Type} {xs : List α} : atI xs 7 = xs[7]? := atI_c (k := 7)
theorem atI_8 {α : Type} {xs : List α} : atI xs 8 = xs[8]? := atI_c (k := 8)
theorem atI_9 {α : Type} {xs : List α} : atI xs 9 = xs[9]? := atI_c (k := 9)
theorem atI_10 {α : Type} {xs : List α} : atI xs 10 = xs[10]? := atI_c (k := 10)
theorem atI_11 {α : Type} {xs : List α} : atI xs 11 = xs[11]? := atI_c (k := 11)
theorem atI_12 {α : Type} {xs : List α} : atI xs 12 = xs[12]? := atI_c (k := 12)
theorem atI_13 {α : Type} {xs : List α} : atI xs 13 = xs[13]? := atI_c (k := 13)
theorem atI_14 {α : Type} {xs : List α} : atI xs 14 = xs[14]? := atI_c (k := 14)
theorem atI_15 {α : Type} {xs : List α} : atI xs 15 = xs[15]? := atI_c (k := 15)
theorem atI_16 {α : Type} {xs : List α} : atI xs 16 = xs[16]? := atI_c (k := 16)
theorem atI_17 {α : Type} {xs : List α} : atI xs 17 = xs[17]? := atI_c (k := 17)
theorem atI_18 {α : Type} {xs : List α} : atI xs 18 = xs[18]? := atI_c (k := 18)
theorem atI_19 {α : Type} {xs : List α} : atI xs 19 = xs[19]? := atI_c (k := 19)
theorem inV_cons (x y : L2.V) (ys : List L2.V) : inV x (y :: ys) = (eqV y x || inV x ys) := rfl
theorem inV_nil (x : L2.V) : inV x [] = false := rfl
theorem eqV_ss (a b : Str) : eqV (.str a) (.str b) = (a == b) := rfl
theorem eqV_ii (a b : Int) : eqV (.int a) (.int b) = (a == b) := rfl
theorem eqV_ni (b : Int) : eqV .non (.int b) = false := rfl
theorem eqV_in (b : Int) : eqV (.int b) .non = false := rfl
theorem sz_le {n : Nat} (h : n ≤ 16777216) : n ≤ sizeLine := by rw [sizeLine_eq]; exact h
/-! tests that only look -/
def PT (t : VT) (e : VEnv) (b : Bool) : Prop := ∀ Q, t e Q = Q e b
def PB (v : V) (e : VEnv) (b : Bool) : Prop := ∀ Q : VQ, v e Q = Q e (.d (.bool b))
theorem PT.or {t u : VT} {e : VEnv} {a b : Bool} (h1 : PT t e a) (h2 : PT u e b) : PT (vOrT t u) e (a || b) := fun Q => by
  unfold vOrT
  rw [h1]
  cases a
  · exact h2 Q
  · rfl
theorem PT.and {t u : VT} {e : VEnv} {a b : Bool} (h1 : PT t e a) (h2 : PT u e b) : PT (vAndT t u) e (a && b) := fun Q => by
  unfold vAndT
  rw [h1]
  cases a
  · rfl
  · exact h2 Q
theorem PT.not {t : VT} {e : VEnv} {a : Bool} (h1 : PT t e a) : PT (vNot t) e (!a) := fun Q => by
  unfold vNot
  rw [h1]
theorem PT.ofB {v : V} {e : VEnv} {a : Bool} (h1 : PB v e a) : PT (vB v) e a := fun Q => by
  unfold vB
  rw [h1]; rfl
theorem PT.ofTru {v : V} {e : VEnv} {a : Bool} (h1 : PB v e a) : PT (vTru v) e a := fun Q => by
  unfold vTru
  rw [h1]; rfl
theorem PB.or {t u : V} {e : VEnv} {a b : Bool} (h1 : PB t e a) (h2 : PB u e b) : PB (vOr t u) e (a || b) := fun Q => by
  unfold vOr
  rw [h1]
  cases a
  · exact h2 Q
  · rfl
theorem PB.and {t u : V} {e : VEnv} {a b : Bool} (h1 : PB t e a) (h2 : PB u e b) : PB (vAnd t u) e (a && b) := fun Q => by
  unfold vAnd
  rw [h1]
  cases a
  · rfl
  · exact h2 Q
theorem PB.not {t : V} {e : VEnv} {a : Bool} (h1 : PB t e a) : PB (vNotV t) e (!a) := fun Q => by
  unfold vNotV
  rw [h1]; rfl
theorem if_go {t : VT} {x y : VS} {e : VEnv} {D : VEnds} {b : Bool} (h : PT t e b) (h1 : b = true → x e D) (h2 : b = false → y e D) : vIfS t x y e D := by
  unfold vIfS
  rw [h]
  cases b
  · exact h2 rfl
  · exact h1 rfl
theorem if_sq {t : VT} {x y z : VS} {e : VEnv} {D : VEnds} {b : Bool} (h : PT t e b) (h1 : b = true → vSq x z e D) (h2 : b = false → vSq y z e D) : vSq (vIfS t x y) z e D := by
  unfold vSq at *
  exact if_go h h1 h2
theorem set_sq {i : Nat} {v : V} {z : VS} {e : VEnv} {D : VEnds} {b : Bool} (h : PB v e b) (h1 : z (e.put i (some (.d (.bool b)))) D) : vSq (vSet i v) z e D := by
  unfold vSq vSet
  rw [h]
  exact h1
theorem ret_b {v : V} {e : VEnv} {D : VEnds} {b : Bool} (h : PB v e b) (h1 : D.rt (.d (.bool b)) e.n) : vRet v e D := by
  unfold vRet
  rw [h]
  exact h1
/-- a statement that goes on by one way -/
theorem sq_mid {x y : VS} {e : VEnv} {D : VEnds} (I : VEnv → Prop) (h : ∀ N : VEnv → Prop, (∀ e', I e' → N e') → x e { D with nx := N }) (h2 : ∀ e', I e' → y e' D) : vSq x y e D := h _ fun e' he => h2 e' he
theorem if_ret {t : VT} {p : PyData} {z : VS} {e : VEnv} {D : VEnds} {b : Bool} (h : PT t e b) (h1 : b = true → D.rt (.d p) e.n) (h2 : b = false → z e D) : vSq (vIfS t (vRet (vC p)) vNx) z e D := by
  unfold vSq
  exact if_go h h1 h2
theorem if_retL {t : VT} {p : PyData} {e : VEnv} {D : VEnds} {b : Bool} (h : PT t e b) (h1 : b = true → D.rt (.d p) e.n) (h2 : b = false → D.nx e) : vIfS t (vRet (vC p)) vNx e D := if_go h h1 h2
end Vl
set_option Elab.async false
set_option linter.all false
set_option maxRecDepth 100000
/-! Vt10: books: twelve words. -/
namespace Vl
open PySem PySem.Spec PyProof.Rows L2 Lt
open TL (tl)
def allWords : List Str := ["none", "perhaps", "sure", "marked", "unraised", "never", "answer", "check", "work", "values", "mark", "first", "last", "between", "ahead", "behind", "unless", "struck", "kept", "one", "any"]
abbrev bP (ss : List Str) : PyData := .tuple (ss.map .str)
structure Bk (ss : List Str) : Prop where
  len : ss.length = 12
  wd : ∀ s ∈ ss, s ∈ allWords
def Asc (x : Str) : Prop := ∀ c ∈ tl x, c < 128
theorem word_ok {s : Str} (h : s ∈ allWords) : s.length ≤ 10 ∧ Asc s := by
  have key : ∀ s ∈ allWords, s.length ≤ 10 ∧ ∀ c ∈ tl s, c < 128 := by decide +kernel
  exact key s h
theorem okd_str {x : Str} {n : Nat} (h : Asc x) (hl : x.length ≤ n) : Okd 0 (10 * n + 2) (.str x) := by
  refine ⟨by simp [PyData.hasDict], by simp [PyData.showable], by simp [PyData.depth], ?_, ?_⟩
  · have := StrLaws.reprText_len x fun c hc => Nat.lt_trans (h c hc) (by decide)
    show (reprText x).length ≤ _
    omega
  · simp only [PyData.canLay0, PyData.strOk]
    rw [← Array.all_toList, List.all_eq_true]
    exact fun c hc => decide_eq_true (Nat.lt_trans (h c hc) (by decide))
theorem okd_word {s : Str} (h : s ∈ allWords) : Okd 0 102 (.str s) := okd_str (word_ok h).2 (word_ok h).1
theorem okd_words {ss : List Str} (h : ∀ s ∈ ss, s ∈ allWords) : Okd 1 (ss.length * 104 + 3) (bP ss) := by
  have := Okd.tup (k := 0) (L := 102) (ds := ss.map .str) fun d hd => by
    obtain ⟨y, hy, rfl⟩ := List.mem_map.mp hd
    exact okd_word (h y hy)
  rwa [List.length_map] at this
theorem Bk.okd {ss : List Str} (h : Bk ss) : Okd 1 1300 (bP ss) := (okd_words h.wd).mono (by decide) (by rw [h.len]; decide)
theorem Bk.repr {ss : List Str} (h : Bk ss) : ReprOk (bP ss) := .of h.okd (by decide) (by decide)
theorem Bk.set {ss : List Str} (h : Bk ss) {k : Nat} {s : Str} (hs : s ∈ allWords) : Bk (ss.set k s) :=
  ⟨by rw [List.length_set]; exact h.len, fun t ht => (List.mem_or_eq_of_mem_set ht).elim (h.wd t) fun e => by rw [e]; exact hs⟩
theorem b12 {ss : List Str} (h : ss.length = 12) : ∃ a0 a1 a2 a3 a4 a5 a6 a7 a8 a9 a10 a11, ss = [a0, a1, a2, a3, a4, a5, a6, a7, a8, a9, a10, a11] := by
  match ss, h with
  | [a0, a1, a2, a3, a4, a5, a6, a7, a8, a9, a10, a11], _ => exact ⟨_, _, _, _, _, _, _, _, _, _, _, _, rfl⟩
theorem set_cut {ss : List Str} {k : Nat} {s : Str} (h : k < ss.length) : ((ss.map PyData.str).take k ++ [PyData.str s]) ++ (ss.map PyData.str).drop (k + 1) = (ss.set k s).map .str := by
  rw [List.set_eq_take_append_cons_drop, if_pos h]
  simp
theorem okd_bool (b : Bool) : Okd 0 5 (.bool b) := by
  cases b <;> exact ⟨by simp [PyData.hasDict], by simp [PyData.showable], by simp [PyData.depth], by decide, by simp [PyData.canLay0]⟩
theorem okd_none : Okd 0 5 .none := ⟨by simp [PyData.hasDict], by simp [PyData.showable], by simp [PyData.depth], by decide, by simp [PyData.canLay0]⟩
theorem vlen_seq {p : PyData} {ds : List PyData} (h : seqD p = some ds) : vLen [p] = some (.d (.int ds.length)) := by
  unfold seqD at h
  split at h <;> cases h <;> rfl
theorem vix_seq {p : PyData} {ds : List PyData} {j : Nat} {x : PyData} (h : seqD p = some ds) (hx : ds[j]? = some x) : vIx p (.int j) = some (.d x) := by
  unfold seqD at h
  split at h <;> cases h
  · exact vIx_l hx
  · exact vIx_t hx
/-- one of some items is drawn -/
def cPick (ct : Bool) : VCon := fun us n Q => ∃ p ds, us = [.tok 0, .d p] ∧ seqD p = some ds ∧ 0 < ds.length ∧ ds.length < 1000000 ∧ n < 2 ^ 60 ∧ ∀ x ∈ ds, Q (.d x) (if ct then n + 1 else n)
end Vl
set_option Elab.async false
set_option linter.all false
set_option maxRecDepth 100000
/-! Vt11: values of all kinds among texts; upper. -/
namespace Vl
open PySem PySem.Spec PyProof.Rows L2 Lt
open TL (tl)
section
variable {A : Around} {s : Shared}
theorem dict_eq_declines_str (l : Addr) (es : Array DictEntry) (n : Nat) (b : Str) (u : PySem.Tok) :
    Meets (Builtin.«dict.__eq__» ⟨[.ref l, .str b u], []⟩) (fun _ R s => s.heap.get? l = some { cls := .type "dict", dict := none, data := .dict es n, slots := #[] } ∧ R (.ok (.ret .notImplemented)) s) :=
  .of_wp fun prog w A R s h => by obtain ⟨hp, g, d, tk, os⟩ := s; obtain ⟨hl, h⟩ := h; have f1 := PySem.F.sub_str_dict; wp_walk using wpAny_loadPart' hl; exact ⟨_, rfl, h⟩
theorem str_eq_declines_dict (b : Str) (u : PySem.Tok) (l : Addr) (es : Array DictEntry) (n : Nat) :
    Meets (Builtin.«str.__eq__» ⟨[.str b u, .ref l], []⟩) (fun _ R s => s.heap.get? l = some { cls := .type "dict", dict := none, data := .dict es n, slots := #[] } ∧ R (.ok (.ret .notImplemented)) s) :=
  .of_wp fun prog w A R s h => by obtain ⟨hp, g, d, tk, os⟩ := s; obtain ⟨hl, h⟩ := h; wp_walk using wpAny_loadPart' hl, wpAny_load hl; exact ⟨_, rfl, h⟩
theorem rc_str_dict {l : Addr} {es : Array DictEntry} {n : Nat} (b : Str) (u : PySem.Tok) (ho : s.heap.get? l = some { cls := .type "dict", dict := none, data := .dict es n, slots := #[] }) (hu : A.units < cLine) : SeqAt.RcAt A s (.str b u) (.ref l) false := fun prog w E Q h => by
  exact SeqAt.rc_eq_decline_or (k := false) (typeIs_str s b u) ⟨_, ho, rfl⟩ (by decide) PySem.F.sub_dict_str PySem.F.slot_str_eq PySem.F.slot_dict_eq_refl
    (fun _ hq => call_meets PySem.F.slot_str_eq (typeIs_str s b u) PySem.F.entry_str_eq (PySem.F.args_str_eq_2 _ _) (str_eq_declines_dict b u l es n) ⟨ho, hq⟩)
    (fun _ hq => call_meets PySem.F.slot_dict_eq_refl ⟨_, ho, rfl⟩ PySem.F.entry_dict_eq (PySem.F.args_dict_eq_2 _ _) (dict_eq_declines_str l es n b u) ⟨ho, hq⟩)
    (fun _ hq => wpAny_of_eq (rfl : isSame (.str b u) (.ref l) = pure false) hq) (.inr hu) h
theorem eq_str_dict {l : Addr} {es : Array DictEntry} {n : Nat} (b : Str) (u : PySem.Tok) (ho : s.heap.get? l = some { cls := .type "dict", dict := none, data := .dict es n, slots := #[] }) (hu : A.units < cLine) : SeqAt.EqAt A s (.str b u) (.ref l) false := fun prog w E Q h => by
  unfold eqBool
  refine wpAny_holding ?_
  refine wpAny_ite_split (fun hab => absurd (eq_of_beq hab) nofun) (fun _ => ?_)
  exact wpAny_bind (rc_str_dict b u ho hu prog w E _ (wpAny_truthy_bool h))
end
/-- a tuple, a list, a dict -/
def bigP : PV → Store → Bool
  | .tup _, _ => true
  | .ref n, S => (S[n]?).isSome
  | _, _ => false
theorem big_eq {X : Cx} {pins : List (Addr × Obj)} {σ : L2.St} {H : Hp} {s : Shared} {ι : List Addr} {S : Store} {x : PV} {u : L2.V} {uu : Value} (I : L2.Inv X pins σ H s) (rs : RS X.K ι H S) (r : RV X.K ι H x u) (ru : RelV u uu) (h : bigP x S = true)
    (hu : X.A.in1.units < cLine) (b : Str) (t : PySem.Tok) : SeqAt.EqAt X.A.in1 s (.str b t) uu false := by
  cases r with
  | tup sq q =>
    cases ru
    obtain ⟨its, rv, pl, _⟩ := I.tuple sq
    exact SeqAt.EqAt.str_tuple b t pl hu
  | @ref n a ha =>
    cases ru
    have h' : (S[n]?).isSome = true := h
    obtain ⟨c, hc⟩ := Option.isSome_iff_exists.mp h'
    have lst : ∀ {xs : List PV}, c.items = some xs → SeqAt.EqAt X.A.in1 s (.str b t) (.ref a) false := fun {xs} hx => by
      obtain ⟨us, hq, q⟩ := at_seq rs hc hx ha
      obtain ⟨its, rv, pl, _⟩ := I.list hq
      exact SeqAt.EqAt.str_list b t pl.isList hu
    cases c with
    | lst xs => exact lst rfl
    | ro xs => exact lst rfl
    | dic kvs =>
      obtain ⟨us, hd, q⟩ := at_dic rs hc ha
      obtain ⟨_, _, vs, _, ⟨cls, dd, data, sl⟩, es, ep, ho, ⟨hx1, hx2, hx3⟩, hdat, _⟩ := dk_of I.hok hd
      simp only at hx1 hx2 hx3 hdat
      subst hx1 hx2 hx3 hdat
      exact eq_str_dict b t ho hu
  | _ => cases h
def fInY (neg : Bool) : F2 := fun x y S => match pvV x with
  | some _ => fInF neg x y S
  | none => if bigP x S = true then match seqOf y S with
    | some ys => match allStr ys with
      | some _ => some (.bl neg, S)
      | none => none
    | none => none
    else none
theorem strs_all {xs : List L2.V} {ys : List Str} {its : List Value} (h : xs = ys.map L2.V.str) (r : L2.Vals xs its) : ∀ w ∈ its, ∃ b t, w = Value.str b t := by
  subst h
  induction ys generalizing its with
  | nil => cases r; intro w hw; cases hw
  | cons y ys ih =>
    cases r with
    | cons r1 r2 =>
      intro w hw
      rcases List.mem_cons.mp hw with rfl | hw
      · obtain ⟨t, rfl⟩ := r1; exact ⟨_, t, rfl⟩
      · exact ih r2 w hw
theorem op_fInY {X : Cx} (hu : X.A.units + 64 < cLine) : OpR X (compareOp .In) (rOp X.K (fInY false)) := by
  intro pins s σ H u v uu vv Q I ru rv ⟨ι, S, x, y, P, rs, rx, ry, hf, hP⟩
  unfold fInY at hf
  split at hf
  · exact op_fInP hu pins s σ H u v uu vv Q I ru rv ⟨ι, S, x, y, P, rs, rx, ry, hf, hP⟩
  · split at hf
    · rename_i hb
      split at hf
      · rename_i ys hy
        split at hf
        · rename_i zs hz
          obtain ⟨a, us, rfl, sq, q⟩ := seqOf_of rs ry hy
          have hs := allStr_of hz q
          cases rv
          have one : ∀ t b, SeqAt.EqAt X.A.in1 s (.str b t) uu false := fun t b => big_eq I rs rx ru hb (by show X.A.units + 1 < cLine; omega) b t
          rcases sq with sq | sq
          · obtain ⟨its, r, pl, hz⟩ := I.list sq
            refine SeqAt.in_listAt (fun _ => false) pl.isList (fun w hw => ?_) ⟨.bl _, H, I, rfl, ?_⟩
            · obtain ⟨b, t, rfl⟩ := strs_all hs r w (by simpa using hw)
              exact one t b
            · rw [show its.toArray.any (fun _ => false) = false by simp]
              exact hP _ _ hf ι H _ .refl rs (.bl _)
          · obtain ⟨its, r, pl, hz⟩ := I.tuple sq
            refine SeqAt.in_tupleAt (fun _ => false) pl (fun w hw => ?_) ⟨.bl _, H, I, rfl, ?_⟩
            · obtain ⟨b, t, rfl⟩ := strs_all hs r w (by simpa using hw)
              exact one t b
            · rw [show its.toArray.any (fun _ => false) = false by simp]
              exact hP _ _ hf ι H _ .refl rs (.bl _)
        · exact hf.elim
      · exact hf.elim
    · exact hf.elim
theorem op_fNotInY {X : Cx} (hu : X.A.units + 64 < cLine) : OpR X (compareOp .NotIn) (rOp X.K (fInY true)) := by
  intro pins s σ H u v uu vv Q I ru rv ⟨ι, S, x, y, P, rs, rx, ry, hf, hP⟩
  unfold fInY at hf
  split at hf
  · exact op_fNotInP hu pins s σ H u v uu vv Q I ru rv ⟨ι, S, x, y, P, rs, rx, ry, hf, hP⟩
  · split at hf
    · rename_i hb
      split at hf
      · rename_i ys hy
        split at hf
        · rename_i zs hz
          obtain ⟨a, us, rfl, sq, q⟩ := seqOf_of rs ry hy
          have hs := allStr_of hz q
          cases rv
          have one : ∀ t b, SeqAt.EqAt X.A.in1 s (.str b t) uu false := fun t b => big_eq I rs rx ru hb (by show X.A.units + 1 < cLine; omega) b t
          rcases sq with sq | sq
          · obtain ⟨its, r, pl, hz⟩ := I.list sq
            refine SeqAt.notIn_listAt (fun _ => false) pl.isList (fun w hw => ?_) ⟨.bl _, H, I, rfl, ?_⟩
            · obtain ⟨b, t, rfl⟩ := strs_all hs r w (by simpa using hw)
              exact one t b
            · rw [show its.toArray.any (fun _ => false) = false by simp]
              exact hP _ _ hf ι H _ .refl rs (.bl _)
          · obtain ⟨its, r, pl, hz⟩ := I.tuple sq
            refine SeqAt.notIn_tupleAt (fun _ => false) pl (fun w hw => ?_) ⟨.bl _, H, I, rfl, ?_⟩
            · obtain ⟨b, t, rfl⟩ := strs_all hs r w (by simpa using hw)
              exact one t b
            · rw [show its.toArray.any (fun _ => false) = false by simp]
              exact hP _ _ hf ι H _ .refl rs (.bl _)
        · exact hf.elim
      · exact hf.elim
    · exact hf.elim
/-! data -/
def strD : List PyData → Bool
  | [] => true
  | .str _ :: r => strD r
  | _ :: _ => false
theorem strD_of {E : List Nat} {S : Store} : ∀ {ds : List PyData} {xs : List PV}, Rps E S ds xs → strD ds = true → ∃ ys, allStr xs = some ys
  | [], _, .nil, _ => ⟨[], rfl⟩
  | d :: ds, _, .cons r t, h => by
    cases d with
    | str y =>
      cases r
      obtain ⟨ys, hy⟩ := strD_of t h
      exact ⟨y :: ys, by show (allStr _).map _ = _; rw [hy]; rfl⟩
    | _ => cases h
def bigD : PyData → Bool
  | .list _ => true
  | .tuple _ => true
  | .dict _ => true
  | _ => false
def inY (p q : PyData) : Option Bool := if bigD p = true then match seqD q with
    | some ds => if strD ds = true then some false else none
    | none => none
  else inD p q
def vInY : G2 := fun p q => (inY p q).map fun b => .d (.bool b)
def vNotInY : G2 := fun p q => (inY p q).map fun b => .d (.bool (!b))
theorem inY_of {E : List Nat} {S : Store} {neg : Bool} {x y : PV} {p q : PyData} {b : Bool} (hx : Rq E S p x) (hy : Rq E S q y) (h : inY p q = some b) : fInY neg x y S = some (.bl (if neg then !b else b), S) := by
  unfold inY at h
  split at h
  · rename_i hb
    split at h
    · rename_i ds hd
      split at h
      · rename_i hs
        cases h
        obtain ⟨ys, g1, g2⟩ := hy.seq hd
        obtain ⟨zs, hz⟩ := strD_of g2 hs
        have : pvV x = none ∧ bigP x S = true := by
          cases hx.rp0 with
          | tup _ => exact ⟨rfl, rfl⟩
          | lst _ hs _ => exact ⟨rfl, by show (S[_]?).isSome = true; rw [hs]; rfl⟩
          | dic _ hs _ => exact ⟨rfl, by show (S[_]?).isSome = true; rw [hs]; rfl⟩
          | _ => cases hb
        unfold fInY
        simp only [this.1, this.2, g1, hz]
        cases neg <;> rfl
      · cases h
    · cases h
  · have := inD_of (neg := neg) hx hy h
    unfold fInY
    split
    · exact this
    · rename_i hn
      unfold fInF at this
      rw [hn] at this
      cases this
theorem sim_inY : SimOp (fInY false) vInY := by
  intro E S x y p q r hx hy h
  obtain ⟨b, hb, rfl⟩ := Option.map_eq_some_iff.mp h
  exact ⟨_, _, inY_of hx hy hb, .data (.bl _)⟩
theorem sim_notInY : SimOp (fInY true) vNotInY := by
  intro E S x y p q r hx hy h
  obtain ⟨b, hb, rfl⟩ := Option.map_eq_some_iff.mp h
  exact ⟨_, _, inY_of hx hy hb, .data (.bl _)⟩
/-! upper -/
def mUpper : FM := fun x args S => match x, args with
  | .str a, [] => if a.length ≤ 5592405 then some (.str (Txt.upper a), S) else none
  | _, _ => none
theorem mt_mUpper {X : Cx} : MtR X "str.upper" (rM X.K mUpper) := by
  intro pins s σ H u us v vs Q I ru rus ⟨ι, S, x, xs, P, rs, rx, rxs, hf, hP⟩
  unfold mUpper at hf
  split at hf
  · rename_i a
    cases str_of rx
    cases rxs
    obtain ⟨c, h⟩ := opt_ite hf
    exact L2.mt_upper pins s σ H _ _ _ _ Q I ru rus ⟨a, rfl, rfl, c, hP _ _ h ι H _ .refl rs (.str _)⟩
  · exact hf.elim
def vUpper : PyData → List PyData → Option VV
  | .str a, [] => if a.length ≤ 5592405 then some (.d (.str (Txt.upper a))) else none
  | _, _ => none
theorem sim_upper : SimM mUpper vUpper := by
  intro E S x xs p ps r hx hxs h
  unfold vUpper at h
  split at h
  · cases hx.str
    cases hxs
    obtain ⟨c, rfl⟩ := ite_some' h
    exact ⟨_, _, if_pos c, .data (.str _)⟩
  · cases h
theorem sim_ms0 {T : Vl.Tok} {f : FM} {g : PyData → List PyData → Option VV} {wa : W} {va : V} (ho : SimM f g) (ha : Sim T wa va) : Sim T (wM0 "str" f wa) (vMs g va vN) := by
  refine ⟨fun G S0 vals venv env S P Q st hv hP => ?_⟩
  have := (sim_ms (T := T) ho ha simA_nil).run G S0 vals venv env S P Q st hv hP
  exact this
end Vl
set_option Elab.async false
set_option linter.all false
set_option maxRecDepth 100000
/-! Vt12: books by place; what is told of them. -/
namespace Vl
open PySem PySem.Spec PyProof.Rows L2 Lt
open TL (tl)
section
variable {T : Tok} {ws : WA} {vs : VA}
def vPar3 (i j l : Nat) (vs : VA) : VS := fun e D => vs e fun e1 us => match us with
  | [u, v, w] => setV u fun p => setV v fun q => setV w fun r => D.nx (((e1.put i (some p)).put j (some q)).put l (some r))
  | _ => False
theorem sim_par3 (i j l : Nat) (h : SimA T ws vs) : SimS T (wPar3 i j l ws) (vPar3 i j l vs) := by
  refine ⟨fun G S0 l venv env S D VD st hv he => h.run G S0 _ venv env S _ _ st hv fun e1 us xs S1 h1 hl st1 => ?_⟩
  split at h1
  · rename_i u1 u2 u3
    obtain ⟨p1, p2, p3, rfl⟩ := len3 hl
    obtain ⟨O, hc, hvs⟩ := st1
    obtain ⟨x1, q1, r1, n1⟩ := rx_set (hvs (u1, p1) (by simp)) h1
    obtain ⟨x2, q2, r2, n2⟩ := rx_set (hvs (u2, p2) (by simp)) q1
    obtain ⟨x3, q3, r3, n3⟩ := rx_set (hvs (u3, p3) (by simp)) q2
    exact he.nx _ _ _ q3 ⟨O, ((hc.put r1 fun ds z => (n1 ds z).elim).put r2 fun ds z => (n2 ds z).elim).put r3 fun ds z => (n3 ds z).elim, pd_mem (vals_tail hvs)⟩
  · exact h1.elim
end
theorem vInY_s {s : Str} {q : PyData} : vInY (.str s) q = vIn (.str s) q := rfl
theorem vInY_it {k : Int} {d : PyData} {ds : List PyData} : vInY (.int k) (.tuple (d :: ds)) = vIn (.int k) (.tuple (d :: ds)) := rfl
theorem vInY_il {k : Int} {d : PyData} {ds : List PyData} : vInY (.int k) (.list (d :: ds)) = vIn (.int k) (.list (d :: ds)) := rfl
theorem vInY_n {q : PyData} : vInY .none q = vIn .none q := rfl
theorem vNotInY_s {s : Str} {q : PyData} : vNotInY (.str s) q = vNotIn (.str s) q := rfl
theorem vNotInY_it {k : Int} {d : PyData} {ds : List PyData} : vNotInY (.int k) (.tuple (d :: ds)) = vNotIn (.int k) (.tuple (d :: ds)) := rfl
theorem vNotInY_il {k : Int} {d : PyData} {ds : List PyData} : vNotInY (.int k) (.list (d :: ds)) = vNotIn (.int k) (.list (d :: ds)) := rfl
theorem vNotInY_n {q : PyData} : vNotInY .none q = vNotIn .none q := rfl
theorem sq_if {t : VT} {x z : VS} {e : VEnv} {D : VEnds} {b : Bool} (h : PT t e b) (h1 : b = true → x e { D with nx := fun e' => z e' D }) (h2 : b = false → z e D) : vSq (vIfS t x vNx) z e D := by
  unfold vSq
  exact if_go h h1 h2
/-! words by place -/
def wordsS : List (List Str) := [["none", "perhaps", "sure"], ["none", "perhaps", "sure"], ["marked", "unraised", "never"], ["answer", "check", "work"], ["answer", "check", "work"], ["values", "mark"], ["none", "sure"],
  ["first", "last", "between"], ["ahead", "behind", "unless"], ["ahead", "behind"], ["struck", "kept"], ["one", "any"]]
theorem wordsS_len : wordsS.length = 12 := rfl
theorem wordsS_at {i : Nat} (hi : i < 12) : ∃ ws, wordsS[i]? = some ws ∧ 0 < ws.length ∧ ws.length ≤ 3 ∧ ∀ s ∈ ws, s ∈ allWords := by
  have key : ∀ ws ∈ wordsS, 0 < ws.length ∧ ws.length ≤ 3 ∧ ∀ s ∈ ws, s ∈ allWords := by decide
  obtain ⟨ws, h⟩ : ∃ ws, wordsS[i]? = some ws := ⟨_, List.getElem?_eq_getElem (by rw [wordsS_len]; exact hi)⟩
  obtain ⟨a, b, c⟩ := key ws (List.mem_of_getElem? h)
  exact ⟨ws, h, a, b, c⟩
/-- a word that may stand at a place -/
def WAt (k : Nat) (s : Str) : Prop := ∃ ws, wordsS[k]? = some ws ∧ s ∈ ws
theorem WAt.all {k : Nat} {s : Str} (h : WAt k s) : s ∈ allWords := by
  obtain ⟨ws, h1, h2⟩ := h
  have hk := (List.getElem?_eq_some_iff.mp h1).1
  obtain ⟨ws', a, _, _, b⟩ := wordsS_at hk
  rw [h1] at a; cases a
  exact b s h2
structure Bw (ss : List Str) : Prop where
  len : ss.length = 12
  at_ : ∀ k s, ss[k]? = some s → WAt k s
theorem Bw.bk {ss : List Str} (h : Bw ss) : Bk ss := ⟨h.len, fun s hs => by
  obtain ⟨k, hk⟩ := List.mem_iff_getElem?.mp hs
  exact (h.at_ k s hk).all⟩
theorem Bw.set {ss : List Str} (h : Bw ss) {k : Nat} {s : Str} (hs : WAt k s) : Bw (ss.set k s) := ⟨by rw [List.length_set]; exact h.len, fun j t ht => by
  rw [List.getElem?_set] at ht
  split at ht
  · rename_i e; subst e
    split at ht
    · cases ht; exact hs
    · cases ht
  · exact h.at_ j t ht⟩
theorem Bw.of {a0 a1 a2 a3 a4 a5 a6 a7 a8 a9 a10 a11 : Str} (h0 : WAt 0 a0) (h1 : WAt 1 a1) (h2 : WAt 2 a2) (h3 : WAt 3 a3) (h4 : WAt 4 a4) (h5 : WAt 5 a5) (h6 : WAt 6 a6) (h7 : WAt 7 a7) (h8 : WAt 8 a8) (h9 : WAt 9 a9) (h10 : WAt 10 a10) (h11 : WAt 11 a11) :
    Bw [a0, a1, a2, a3, a4, a5, a6, a7, a8, a9, a10, a11] := ⟨rfl, fun k s hs => by
  match k, hs with
  | 0, hs => cases hs; exact h0
  | 1, hs => cases hs; exact h1
  | 2, hs => cases hs; exact h2
  | 3, hs => cases hs; exact h3
  | 4, hs => cases hs; exact h4
  | 5, hs => cases hs; exact h5
  | 6, hs => cases hs; exact h6
  | 7, hs => cases hs; exact h7
  | 8, hs => cases hs; exact h8
  | 9, hs => cases hs; exact h9
  | 10, hs => cases hs; exact h10
  | 11, hs => cases hs; exact h11⟩
theorem w3_of {k : Nat} {s a b c : Str} (h : WAt k s) (hk : wordsS[k]? = some [a, b, c]) : s = a ∨ s = b ∨ s = c := by
  obtain ⟨ws, h1, h2⟩ := h
  rw [hk] at h1; cases h1
  simpa using h2
theorem w2_of {k : Nat} {s a b : Str} (h : WAt k s) (hk : wordsS[k]? = some [a, b]) : s = a ∨ s = b := by
  obtain ⟨ws, h1, h2⟩ := h
  rw [hk] at h1; cases h1
  simpa using h2
theorem wat {k : Nat} {s : Str} {ws : List Str} (hk : wordsS[k]? = some ws) (hs : s ∈ ws) : WAt k s := ⟨ws, hk, hs⟩
/-! what is told of a book -/
def pe : List Str → Bool
  | [a0, a1, _, _, _, _, _, _, _, _, _, _] => a0 == "perhaps" || a1 == "perhaps"
  | _ => false
def su : List Str → Bool
  | [a0, a1, _, _, _, _, a6, _, _, _, _, _] => a0 == "sure" || (a1 == "sure" || a6 == "sure")
  | _ => false
def mnB : List Str → Bool
  | [a0, a1, _, _, _, _, _, _, _, _, _, _] => a0 == "none" || a1 == "none"
  | _ => false
def amB : List Str → Bool
  | ss@([_, _, _, a3, a4, _, _, _, _, _, _, _]) => (pe ss && a3 == "answer") || (su ss && a4 == "answer")
  | _ => false
def rdB : List Str → Bool
  | ss@([a0, _, _, a3, _, a5, a6, _, _, _, _, _]) => pe ss && (a3 == "check" && (a5 == "mark" && (!(a0 == "sure") || !(a6 == "sure"))))
  | _ => false
def stB : List Str → Bool
  | ss@([_, _, _, _, a4, a5, _, _, a8, _, _, _]) => su ss && (a4 == "check" && (a5 == "mark" && a8 == "ahead"))
  | _ => false
def lmB : List Str → Bool
  | [_, _, a2, _, _, _, a6, _, a8, a9, a10, _] => (a6 == "sure" && !(a2 == "never")) && (a8 == "unless" || ((a8 == "ahead" && a9 == "behind") || (a8 == "behind" && a10 == "kept")))
  | _ => false
def cmB : List Str → Bool
  | [_, _, a2, _, _, _, _, _, a8, _, _, _] => a8 == "behind" || (a8 == "unless" && !(a2 == "never"))
  | _ => false
def a7B : List Str → Bool
  | [_, _, _, _, _, _, _, a7, _, _, _, _] => a7 == "last"
  | _ => false
def a9B : List Str → Bool
  | [_, _, _, _, _, _, _, _, _, a9, _, _] => a9 == "behind"
  | _ => false
def a11B : List Str → Bool
  | [_, _, _, _, _, _, _, _, _, _, _, a11] => a11 == "any"
  | _ => false
/-- the first of the numbers 1 to 4, 0 if there is none -/
def four (ss : List Str) : Nat := bif mnB ss then 1 else bif amB ss then 2 else bif rdB ss then 3 else bif stB ss then 4 else 0
def aloneN (ss : List Str) : Nat := bif mnB ss then 1 else bif amB ss then 2 else bif rdB ss then 3 else bif stB ss then 4 else bif lmB ss then 5 else 0
def slipN (ss : List Str) : Nat := bif mnB ss then 1 else bif amB ss then 2 else bif rdB ss then 3 else bif stB ss then 4 else bif a7B ss then 6 else bif a9B ss then 7 else bif a11B ss then 8 else bif cmB ss then 9 else 0
def nD (k : Nat) : PyData := if k = 0 then .none else .int k
def stand (x1 x2 : Bool) : List PyData := (bif x1 then [.int 1] else []) ++ (bif x2 then [.int 2] else [])
theorem vInY_st1 {x1 x2 : Bool} : vInY (.int 1) (.tuple (stand x1 x2)) = some (.d (.bool x1)) := by cases x1 <;> cases x2 <;> rfl
theorem vInY_st2 {x1 x2 : Bool} : vInY (.int 2) (.tuple (stand x1 x2)) = some (.d (.bool x2)) := by cases x1 <;> cases x2 <;> rfl
theorem vNotInY_st1 {x1 x2 : Bool} : vNotInY (.int 1) (.tuple (stand x1 x2)) = some (.d (.bool (!x1))) := by cases x1 <;> cases x2 <;> rfl
theorem vNotInY_st2 {x1 x2 : Bool} : vNotInY (.int 2) (.tuple (stand x1 x2)) = some (.d (.bool (!x2))) := by cases x1 <;> cases x2 <;> rfl
theorem isNone_n : isNoneD .none = true := rfl
theorem isNone_i {k : Int} : isNoneD (.int k) = false := rfl
theorem isNone_s {k : Str} : isNoneD (.str k) = false := rfl
theorem isNone_b {k : Bool} : isNoneD (.bool k) = false := rfl
theorem isNone_t {k : List PyData} : isNoneD (.tuple k) = false := rfl
theorem isNone_l {k : List PyData} : isNoneD (.list k) = false := rfl
theorem nD_pos {k : Nat} (h : k ≠ 0) : nD k = .int k := if_neg h
theorem nD_0 : nD 0 = .none := rfl
theorem isNone_nD (k : Nat) : isNoneD (nD k) = (k == 0) := by unfold nD; split <;> rename_i h <;> simp [isNoneD, h]
theorem alone0 {ss : List Str} : aloneN ss = 0 ↔ mnB ss = false ∧ amB ss = false ∧ rdB ss = false ∧ stB ss = false ∧ lmB ss = false := by
  unfold aloneN
  cases mnB ss <;> cases amB ss <;> cases rdB ss <;> cases stB ss <;> cases lmB ss <;> decide
theorem slip0 {ss : List Str} : slipN ss = 0 ↔ mnB ss = false ∧ amB ss = false ∧ rdB ss = false ∧ stB ss = false ∧ a7B ss = false ∧ a9B ss = false ∧ a11B ss = false ∧ cmB ss = false := by
  unfold slipN
  cases mnB ss <;> cases amB ss <;> cases rdB ss <;> cases stB ss <;> cases a7B ss <;> cases a9B ss <;> cases a11B ss <;> cases cmB ss <;> decide
theorem lm_of {ss : List Str} (h : Bw ss) (h9 : a9B ss = false) (hc : cmB ss = false) : lmB ss = false := by
  obtain ⟨a0, a1, a2, a3, a4, a5, a6, a7, a8, a9, a10, a11, rfl⟩ := b12 h.len
  simp only [a9B, cmB, lmB] at *
  revert hc
  rw [h9]
  cases (a2 == Str.ofString "never") <;> cases (a8 == Str.ofString "unless") <;> cases (a8 == Str.ofString "behind") <;> cases (a6 == Str.ofString "sure") <;> cases (a8 == Str.ofString "ahead") <;> cases (a10 == Str.ofString "kept") <;> decide
theorem pair_of {ss : List Str} (h : Bw ss) : (slipN ss = aloneN ss ∧ 1 ≤ slipN ss ∧ slipN ss ≤ 4) ∨ ((mnB ss = false ∧ amB ss = false ∧ rdB ss = false ∧ stB ss = false) ∧ ((slipN ss = 0 ∧ aloneN ss = 0) ∨ (6 ≤ slipN ss ∧ slipN ss ≤ 9 ∧ (aloneN ss = 0 ∨ aloneN ss = 5)))) := by
  have h1 := lm_of h
  unfold slipN aloneN
  cases mnB ss
  case true => exact .inl ⟨rfl, by simp only [cond_true, cond_false]; decide, by simp only [cond_true, cond_false]; decide⟩
  cases amB ss
  case true => exact .inl ⟨rfl, by simp only [cond_true, cond_false]; decide, by simp only [cond_true, cond_false]; decide⟩
  cases rdB ss
  case true => exact .inl ⟨rfl, by simp only [cond_true, cond_false]; decide, by simp only [cond_true, cond_false]; decide⟩
  cases stB ss
  case true => exact .inl ⟨rfl, by simp only [cond_true, cond_false]; decide, by simp only [cond_true, cond_false]; decide⟩
  refine .inr ⟨by decide, ?_⟩
  revert h1
  cases a7B ss <;> cases a9B ss <;> cases a11B ss <;> cases cmB ss <;> cases lmB ss <;> decide
end Vl
set_option Elab.async false
set_option linter.all false
set_option maxRecDepth 100000
/-! Vx1: what raises, over data. -/
namespace Vl
open PySem PySem.Spec PyProof.Rows L2 Lt
def bangV : VV → Bool
  | .ty n => n == "!"
  | _ => false
abbrev bngV : VV := .ty "!"
theorem bang_d {p : PyData} : bangV (.d p) = false := rfl
theorem bang_fr {p : List PyData} : bangV (.fr p) = false := rfl
theorem bang_ow {i : Nat} : bangV (.ow i) = false := rfl
theorem bang_tok {i : Nat} : bangV (.tok i) = false := rfl
theorem bang_b : bangV (.ty "!") = true := by decide
section
variable {T : Tok} {G : Gd T} {S0 S : Store} {venv : VEnv} {env : PEnv} {vals : Vals} {wa : W} {va : V}
theorem bang_of {r : VV} {x : PV} (h : Res G S0 vals venv env S r x) (hb : bangV r = true) : r = bngV ∧ x = bang := by
  obtain ⟨O, hc, hv, hd⟩ := h
  cases r with
  | ty n =>
    have e : n = "!" := by simpa [bangV] using hb
    subst e
    exact ⟨rfl, hd⟩
  | _ => cases hb
theorem no_bang {r : VV} {x : PV} (h : Res G S0 vals venv env S r x) (hb : bangV r = false) : x ≠ bang := by
  obtain ⟨O, hc, hv, hd⟩ := h
  intro e
  subst e
  cases r with
  | ty n =>
    have e : PV.ty "!" = PV.ty n := hd
    cases e
    exact absurd hb (by decide)
  | d p => cases (show Rp _ _ p (.ty "!") from hd)
  | tok j => obtain ⟨n, fs, _, z⟩ := hd; cases z
  | ow i => obtain ⟨n, z, _⟩ := hd; cases z
  | fr ds => obtain ⟨n, xs, z, _⟩ := hd; cases z
def vRaise : VS := fun e D => D.rt bngV e.n
theorem sim_raise : SimS T wRaise vRaise := ⟨fun G S0 l venv env S D VD st hv he => by
  obtain ⟨O, hc, _⟩ := st
  exact he.rt _ _ _ _ hv ⟨hc.inv, hc.kp, rfl⟩⟩
def vSetX (i : Nat) (va : V) : VS := fun e D => va e fun e1 r => match bangV r with
  | true => D.rt bngV e1.n
  | false => setV r fun u => D.nx (e1.put i (some u))
theorem sim_setX (i : Nat) (h : Sim T wa va) : SimS T (wSetX i wa) (vSetX i va) := by
  refine ⟨fun G S0 l venv env S D VD st hv he => h.run G S0 _ venv env S _ _ st hv fun e1 r p S1 h1 r1 => ?_⟩
  cases hb : bangV r with
  | true =>
    rw [hb] at h1
    obtain ⟨rfl, rfl⟩ := bang_of r1 hb
    obtain ⟨O, hc, _⟩ := r1
    exact ⟨fun _ => he.rt _ _ _ _ h1 ⟨hc.inv, hc.kp, rfl⟩, fun z => absurd rfl z⟩
  | false =>
    rw [hb] at h1
    refine ⟨fun z => absurd z (no_bang r1 hb), fun _ => ?_⟩
    cases r with
    | d q => exact he.nx _ _ _ h1 (.put r1 fun Q z => z)
    | fr q => exact he.nx _ _ _ h1 (.put r1 fun Q z => z)
    | ty q => exact he.nx _ _ _ h1 (.put r1 fun Q z => z)
    | tok q => exact he.nx _ _ _ h1 (.put r1 fun Q z => z)
    | ow q => exact h1.elim
def vTry (i : Nat) (y : Str) (va : V) : VS := fun e D => i < e.s.length ∧ va e fun e1 r => match bangV r with
  | true => D.rt (.fr [.str y, .bool true]) e1.n
  | false => retV e1 r fun u => D.rt u e1.n
theorem sim_try (i : Nat) {y : Str} (h : Sim T wa va) : SimS T (wTry i y wa) (vTry i y va) := by
  refine ⟨fun G S0 l venv env S D VD st hv he => ?_⟩
  obtain ⟨hl, hv⟩ := hv
  refine ⟨?_, ?_⟩
  · obtain ⟨O, hc, _⟩ := st
    rw [← hc.len]; exact hl
  refine h.run G S0 _ venv env S _ _ st hv fun e1 r p S1 h1 r1 => ?_
  cases hb : bangV r with
  | true =>
    rw [hb] at h1
    obtain ⟨rfl, rfl⟩ := bang_of r1 hb
    obtain ⟨O, hc, _⟩ := r1
    refine ⟨fun _ => ?_, fun z => absurd rfl z⟩
    have k : Kp [] S1 (S1 ++ [Cell.lst [.str y, .bl true]]) := .push
    have ninv := G.kp hc.inv k
    refine he.rt _ _ _ _ h1 ⟨?_, hc.kp.trans (kp_of_nil k), S1.length, [.str y, .bl true], rfl, ?_, ?_, at_new _ _, ?_⟩
    · exact ninv
    · exact hc.kp.le
    · exact fun z => by have := G.dom _ _ hc.inv _ z; omega
    · exact .cons (.str _) (.cons (.bl _) .nil)
  | false =>
    rw [hb] at h1
    refine ⟨fun z => absurd z (no_bang r1 hb), fun _ => ?_⟩
    obtain ⟨r', h2, h3⟩ := out_of r1 h1
    exact he.rt _ _ _ _ h2 h3
/-- e is None, e raising -/
def vIsX (va : V) : V := fun e Q => va e fun e1 r => match bangV r with
  | true => Q e1 bngV
  | false => match r with
    | .d p => Q e1 (.d (.bool (isNoneD p)))
    | _ => False
theorem sim_isX (h : Sim T wa va) : Sim T (wIsX wa) (vIsX va) := by
  refine ⟨fun G S0 l venv env S P Q st hv hP => h.run G S0 _ venv env S _ _ st hv fun e1 r p S1 h1 r1 => ?_⟩
  cases hb : bangV r with
  | true =>
    rw [hb] at h1
    obtain ⟨rfl, rfl⟩ := bang_of r1 hb
    exact ⟨fun _ => hP _ _ _ _ h1 r1, fun z => absurd rfl z⟩
  | false =>
    rw [hb] at h1
    refine ⟨fun z => absurd z (no_bang r1 hb), fun _ => ?_⟩
    cases r with
    | d q =>
      obtain ⟨O, hc, hv, hd⟩ := r1
      have e : isNon p = isNoneD q := isNon_of hd
      rw [e]
      exact hP _ _ _ _ h1 ⟨O, hc, hv, .bl _⟩
    | _ => exact h1.elim
/-- ['..', e], e raising -/
def vLstX (y : Str) (va : V) : V := fun e Q => va e fun e1 r => match bangV r with
  | true => Q e1 bngV
  | false => match r with
    | .d p => Q e1 (.fr [.str y, p])
    | _ => False
theorem sim_lstX {y : Str} (h : Sim T wa va) : Sim T (wLstX y wa) (vLstX y va) := by
  refine ⟨fun G S0 l venv env S P Q st hv hP => h.run G S0 _ venv env S _ _ st hv fun e1 r p S1 h1 r1 => ?_⟩
  cases hb : bangV r with
  | true =>
    rw [hb] at h1
    obtain ⟨rfl, rfl⟩ := bang_of r1 hb
    exact ⟨fun _ => hP _ _ _ _ h1 r1, fun z => absurd rfl z⟩
  | false =>
    rw [hb] at h1
    refine ⟨fun z => absurd z (no_bang r1 hb), fun _ => ?_⟩
    cases r with
    | d q =>
      obtain ⟨O, hc, hv, hd⟩ := r1
      refine hP _ _ _ _ h1 (op_res hc hv (.new (.cons (.str y) (.cons hd .nil))))
    | _ => exact h1.elim
end
end Vl
set_option Elab.async false
set_option linter.all false
set_option maxRecDepth 100000
/-! Vx2: a value of any kind == a text. -/
namespace Vl
open PySem PySem.Spec PyProof.Rows L2 Lt
theorem rc_dict_str {A : Around} {s : Shared} {l : Addr} {es : Array DictEntry} {n : Nat} (b : Str) (u : PySem.Tok) (ho : s.heap.get? l = some { cls := .type "dict", dict := none, data := .dict es n, slots := #[] }) (hu : A.units < cLine) : SeqAt.RcAt A s (.ref l) (.str b u) false := fun prog w E Q h => by
  exact SeqAt.rc_eq_decline_or (k := false) ⟨_, ho, rfl⟩ (typeIs_str s b u) (by decide) PySem.F.sub_str_dict PySem.F.slot_dict_eq PySem.F.slot_str_eq_refl
    (fun _ hq => call_meets PySem.F.slot_dict_eq ⟨_, ho, rfl⟩ PySem.F.entry_dict_eq (PySem.F.args_dict_eq_2 _ _) (dict_eq_declines_str l es n b u) ⟨ho, hq⟩)
    (fun _ hq => call_meets PySem.F.slot_str_eq_refl (typeIs_str s b u) PySem.F.entry_str_eq (PySem.F.args_str_eq_2 _ _) (str_eq_declines_dict b u l es n) ⟨ho, hq⟩)
    (fun _ hq => wpAny_of_eq (rfl : isSame (.ref l) (.str b u) = pure false) hq) (.inr hu) h
theorem big_rc {X : Cx} {pins : List (Addr × Obj)} {σ : L2.St} {H : Hp} {s : Shared} {ι : List Addr} {S : Store} {x : PV} {u : L2.V} {uu : Value} (I : L2.Inv X pins σ H s) (rs : RS X.K ι H S) (r : RV X.K ι H x u) (ru : RelV u uu) (h : bigP x S = true)
    (hu : X.A.units < cLine) (b : Str) (t : PySem.Tok) : SeqAt.RcAt X.A s uu (.str b t) false := by
  cases r with
  | tup sq q =>
    cases ru
    obtain ⟨its, rv, pl, _⟩ := I.tuple sq
    exact SeqAt.RcAt.tuple_str b t pl hu
  | @ref n a ha =>
    cases ru
    have h' : (S[n]?).isSome = true := h
    obtain ⟨c, hc⟩ := Option.isSome_iff_exists.mp h'
    have lst : ∀ {xs : List PV}, c.items = some xs → SeqAt.RcAt X.A s (.ref a) (.str b t) false := fun {xs} hx => by
      obtain ⟨us, hq, q⟩ := at_seq rs hc hx ha
      obtain ⟨its, rv, pl, _⟩ := I.list hq
      exact SeqAt.RcAt.list_str b t pl.isList hu
    cases c with
    | lst xs => exact lst rfl
    | ro xs => exact lst rfl
    | dic kvs =>
      obtain ⟨us, hd, q⟩ := at_dic rs hc ha
      obtain ⟨_, _, vs, _, ⟨cls, dd, data, sl⟩, es, ep, ho, ⟨hx1, hx2, hx3⟩, hdat, _⟩ := dk_of I.hok hd
      simp only at hx1 hx2 hx3 hdat
      subst hx1 hx2 hx3 hdat
      exact rc_dict_str b t ho hu
  | _ => cases h
/-- x == y, y a text: x of any kind -/
def fEqY : F2 := fun x y S => match y with
  | .str _ => if bigP x S = true then some (.bl false, S) else fEq x y S
  | _ => fEq x y S
theorem op_fEqY {X : Cx} (hu : X.A.units + 64 < cLine) : OpR X (compareOp .Eq) (rOp X.K fEqY) := by
  intro pins s σ H u v uu vv Q I ru rv ⟨ι, S, x, y, P, rs, rx, ry, hf, hP⟩
  unfold fEqY at hf
  split at hf
  · split at hf
    · rename_i b hb
      cases str_of ry
      obtain ⟨t, rfl⟩ := rv
      exact big_rc I rs rx ru hb (by omega) _ t _ _ _ _ ⟨.bl false, H, I, rfl, hP _ _ hf ι H _ .refl rs (.bl _)⟩
    · exact op_fEq hu pins s σ H u v uu vv Q I ru rv ⟨ι, S, x, _, P, rs, rx, ry, hf, hP⟩
  · exact op_fEq hu pins s σ H u v uu vv Q I ru rv ⟨ι, S, x, y, P, rs, rx, ry, hf, hP⟩
def eqY (p q : PyData) : Option Bool := match q with
  | .str _ => if bigD p = true then some false else eqD p q
  | _ => eqD p q
def vEqY : G2 := fun p q => (eqY p q).map fun b => .d (.bool b)
theorem eqY_of {E : List Nat} {S : Store} {x y : PV} {p q : PyData} {b : Bool} (hx : Rq E S p x) (hy : Rq E S q y) (h : eqY p q = some b) : fEqY x y S = some (.bl b, S) := by
  have old : eqD p q = some b → fEq x y S = some (.bl b, S) := fun hb => by show (eqP x y S).map _ = _; rw [eqP_eqD hx hy hb]; rfl
  cases q with
  | str c =>
    have ey : y = .str c := by cases hy.rp0; rfl
    subst ey
    unfold eqY at h
    dsimp only at h
    unfold fEqY
    dsimp only
    cases hp : bigD p with
    | true =>
      rw [hp, if_pos rfl] at h
      cases h
      have : bigP x S = true := by
        cases hx.rp0 with
        | tup _ => rfl
        | lst _ hs _ => show (S[_]?).isSome = true; rw [hs]; rfl
        | dic _ hs _ => show (S[_]?).isSome = true; rw [hs]; rfl
        | _ => cases hp
      rw [if_pos this]
    | false =>
      rw [hp, if_neg (by decide)] at h
      have : bigP x S = false := by
        cases hx.rp0 with
        | tup _ => cases hp
        | lst _ hs _ => cases hp
        | dic _ hs _ => cases hp
        | _ => rfl
      rw [if_neg (by rw [this]; decide)]
      exact old h
  | _ =>
    have h' : fEqY x y S = fEq x y S := by
      unfold fEqY
      cases hy.rp0 <;> rfl
    rw [h']
    exact old h
theorem sim_eqY : SimOp fEqY vEqY := by
  intro E S x y p q r hx hy h
  obtain ⟨b, hb, rfl⟩ := Option.map_eq_some_iff.mp h
  exact ⟨_, _, eqY_of hx hy hb, .data (.bl _)⟩
/-- what the text is -/
def isS (d : PyData) (s : Str) : Bool := match d with
  | .str t => decide (t = s)
  | _ => false
theorem vEqY_s {d : PyData} {s : Str} (hs : SeqAt.shaped (.str s) = true) : vEqY d (.str s) = some (.d (.bool (isS d s))) := by
  have key : ∀ {d : PyData}, eqD d (.str s) = (if SeqAt.shaped d = true ∧ SeqAt.shaped (.str s) = true then some (PyData.eqv d (.str s)) else none) → bigD d = false → SeqAt.shaped d = true → PyData.eqv d (.str s) = false → vEqY d (.str s) = some (.d (.bool false)) := by
    intro d h1 h2 h3 h4
    show (eqY d (.str s)).map _ = _
    unfold eqY
    dsimp only
    rw [h2, if_neg (by decide), h1, if_pos ⟨h3, hs⟩, h4]
    rfl
  cases d with
  | str t => rfl
  | none => exact key rfl rfl rfl rfl
  | bool b => exact key rfl rfl rfl rfl
  | int b => exact key rfl rfl rfl rfl
  | list ds => rfl
  | tuple ds => rfl
  | dict ds => rfl
end Vl
set_option Elab.async false
set_option linter.all false
set_option maxRecDepth 100000
/-! Vx3: D[x], D a dict of the text. -/
namespace Vl
open PySem PySem.Spec PyProof.Rows L2 Lt
def kvsD : List (Str × PV) → Option (List (Str × PyData))
  | [] => some []
  | (z, c) :: r => match pvD c, kvsD r with
    | some d, some ds => some ((z, d) :: ds)
    | _, _ => none
theorem kvsD_at : ∀ {kvs : List (Str × PV)} {dvs : List (Str × PyData)} {z : Str} {d : PyData}, kvsD kvs = some dvs → dvs.lookup z = some d → ∃ c, kvs.lookup z = some c ∧ pvD c = some d
  | [], _, _, _, h, e => by cases h; cases e
  | (y, c) :: r, dvs, z, d, h, e => by
    unfold kvsD at h
    split at h
    · rename_i d1 ds h1 h2
      cases h
      rw [List.lookup_cons] at e
      split at e
      · rename_i hz
        cases e
        exact ⟨c, by rw [List.lookup_cons, hz], h1⟩
      · rename_i hz
        obtain ⟨c', g1, g2⟩ := kvsD_at h2 e
        exact ⟨c', by rw [List.lookup_cons, hz]; exact g1, g2⟩
    · cases h
def vKd (dvs : List (Str × PyData)) (vi : V) : V := fun e Q => vi e fun e1 r => match dat e1 r with
  | some (.str z) => match dvs.lookup z with
    | some d => Q e1 (.d d)
    | none => False
  | _ => False
theorem sim_kd {T : Tok} {kvs : List (Str × PV)} {dvs : List (Str × PyData)} {wi : W} {vi : V} (hk : kvsD kvs = some dvs) (h : Sim T wi vi) : Sim T (wKd kvs wi) (vKd dvs vi) := by
  refine ⟨fun G S0 vals venv env S P Q st hv hP => h.run G S0 vals venv env S _ _ st hv fun e1 r x S1 h1 r1 => ?_⟩
  split at h1
  · rename_i z hz
    split at h1
    · rename_i d hd
      obtain ⟨c, g1, g2⟩ := kvsD_at hk hd
      obtain ⟨O, hc, hvs⟩ := r1.pend
      have rx := dat_rq hc (hvs (pl r, x) (by simp)) (by rw [dat_pl]; exact hz)
      have ex : x = .str z := by cases rx.rp0; rfl
      subst ex
      show (match kvs.lookup z with | some c => P c S1 | none => False)
      rw [g1]
      exact hP _ _ _ _ h1 (op_res hc (fun v hv => hvs v (by simp [hv])) (.data (pvD_rp g2)))
    · exact h1.elim
  · exact h1.elim
end Vl
set_option Elab.async false
set_option linter.all false
set_option maxRecDepth 100000
set_option maxHeartbeats 1000000
/-! Vx4: (a, b, ..).index(x), the tuple written out. -/
namespace Vl
open PySem PySem.Spec PySem.Calls PyProof.Rows L2 Lt
def mIndexT : List PV → List PV → Store → Option (PV × Store) := fun xs args S => match args with
  | [.str z] => match allStr xs with
    | some ys => (idxS z ys).map fun j => (.int (j : Nat), S)
    | none => none
  | _ => none
def wTIx (wa we : WA) : W := fun env S P => wa env S fun xs S1 => xs.length ≤ sizeLine ∧ we env S1 fun ys S2 => opt (mIndexT xs ys S2) P
theorem re_tix {X : Cx} {es : List Expr} {e : Expr} {wa we : WA} {k : Nat} {tp apos cpos : Pos} (ha : RA X es wa) (he : RA X [e] we)
    (hbase : attributeBase (.Tuple es k tp) "index" X.env (eval (.Tuple es k tp) X.env) = eval (.Tuple es k tp) X.env := by rfl)
    (hfew : ((backTo cpos (starEach [e] X.env)).all (fun x => !x.1) && (backToKw cpos (keywordEach [] X.env)).all (fun x => x.1.isSome)
      && decide ([e].length + ([] : List Keyword).length + (if ([] : List Keyword).isEmpty then 0 else 1) < 30)) = true := by rfl)
    (hline : (apos.endLine == cpos.line) = true := by rfl) (hs : starEach [e] X.env = (false, eval e X.env) :: starEach [] X.env := by rfl) (hplain : (backTo cpos (starEach [] X.env)).any (·.1) = false := by rfl) :
    RE X (.Call (.Attribute (.Tuple es k tp) "index" apos) [e] [] cpos) (wTIx wa we) := by
  refine ⟨⟨fun pins s σ H Q I ⟨ι, env, S, P, re, rs, hw, hP⟩ => ?_⟩⟩
  refine wpAny_Call_method_late hbase hfew hline rfl ?_
  refine wpAny_Tuple_spliced (thn (ha.pa.run tp pins s σ H (fun vs H1 => ∃ ι1 S1 xs, Ext ι ι1 H H1 ∧ RS X.K ι1 H1 S1 ∧ RVs X.K ι1 H1 xs vs ∧ xs.length ≤ sizeLine ∧ we env S1 fun ys S2 => opt (mIndexT xs ys S2) P) I ⟨ι, env, S, _, re, rs, hw, fun xs S1 hx ι1 H1 vs e1 rs1 rx => ⟨ι1, S1, xs, e1, rs1, rx, hx⟩⟩) fun us s1 ⟨vs, H1, I1, r, ι1, S1, xs, e1, rs1, rx, hz, h1⟩ => ⟨by rw [← r.length, ← rx.length]; exact hz, ?_⟩)
  have hf : H1 s1.heap.objs.size = none := I1.hok.fresh (Nat.le_refl _)
  have hz' : vs.length ≤ sizeLine := by rw [← rx.length]; exact hz
  have I2 : Inv X pins σ (upd H1 s1.heap.objs.size (.tup vs)) { s1 with heap := s1.heap.push { cls := Value.type "tuple", data := Data.seq us.toArray }, toks := s1.toks } := by
    refine I1.laid (t' := s1.toks) (fun b u e => Heap.get?_push_of_some _ e) (Nat.le_refl _) ?_
    exact ⟨hz', us, r, ⟨_, Heap.get?_push_size _ rfl, rfl, _, rfl⟩⟩
  have E2 : Ext ι1 ι1 H1 (upd H1 s1.heap.objs.size (.tup vs)) := by have := ext_new (ι := ι1) (o := .tup vs) (l := []) hf; rwa [List.append_nil] at this
  refine ⟨"tuple", "tuple.index", PySem.F.plainAttrs_tuple, PySem.F.slot_tuple_index, PySem.F.type_tuple_index, ⟨_, Heap.get?_push_size _ rfl, rfl⟩, fun a e => by cases e; exact ⟨_, Heap.get?_push_size _ rfl, rfl⟩, ?_⟩
  have hA := he.pa.run cpos pins _ σ _ (fun ws H3 => ∃ ι2 S2 ys, Ext ι1 ι2 (upd H1 s1.heap.objs.size (.tup vs)) H3 ∧ RS X.K ι2 H3 S2 ∧ RVs X.K ι2 H3 ys ws ∧ opt (mIndexT xs ys S2) P) I2 ⟨ι1, env, S1, _, (re.mono e1).mono E2, rs1.tup hf, h1, fun ys S2 hy ι2 H2 ws e2 rs2 ry => ⟨ι2, S2, ys, e2, rs2, ry, hy⟩⟩
  rw [hs] at hA ⊢
  refine Calls.callWith_builtin (by show (false || (backTo cpos (starEach [] X.env)).any (·.1)) = false; rw [hplain] <;> rfl) (Calls.evalArgs_plain ?_)
  refine thn hA fun us2 s2 ⟨ws, H3, I3, r2, ι2, S2, ys, e2, rs2, ry, h2⟩ => ?_
  unfold mIndexT at h2
  split at h2
  · rename_i z
    obtain ⟨t, rfl, q⟩ := rvs1 ry
    cases str_of q
    split at h2
    · rename_i zs hzs
      have ez := allStr_of hzs rx
      obtain ⟨j, hj, h⟩ := opt_map' h2
      obtain ⟨g1, g2⟩ := idxS_of hj
      refine L2.mt_tup_index pins s2 σ H3 (.ref s1.heap.objs.size) _ _ _ Q I3 rfl r2 ⟨_, zs, z, j, rfl, rfl, ?_, g1, fun m hm => g2 m hm, hP _ _ h ι2 H3 _ ((e1.trans E2).trans e2) rs2 (.int _)⟩
      subst ez
      exact e2.sqT (SqT.of upd_same)
    · exact h2.elim
  · exact h2.elim
def vTIx (va ve : VA) : V := fun e Q => va e fun e1 us => someD (allS us) fun ds => ds.length ≤ sizeLine ∧ ve e1 fun e2 ws => match strsD ds, ws with
  | some ys, [.d (.str z)] => match idxS z ys with
    | some j => Q e2 (.d (.int (j : Nat)))
    | none => False
  | _, _ => False
theorem sim_tix {T : Tok} {wa we : WA} {va ve : VA} (ha : SimA T wa va) (he : SimA T we ve) : Sim T (wTIx wa we) (vTIx va ve) := by
  refine ⟨fun G S0 vals venv env S P Q st hv hP => ?_⟩
  refine ha.run G S0 vals venv env S _ _ st hv fun e1 us xs S1 h1 hl st1 => ?_
  obtain ⟨ds, hd, hle, hq⟩ := someD_of h1
  obtain ⟨O1, hc1, hvs1⟩ := st1
  have r1 := allS_rps hvs1 hl hd
  refine ⟨by rw [← r1.length]; exact hle, ?_⟩
  refine he.run G S0 vals e1 env S1 _ _ ⟨O1, hc1, vals_tail hvs1⟩ hq fun e2 ws ys S2 h2 hl2 st2 => ?_
  obtain ⟨O, hc, hvs⟩ := st2
  split at h2
  · rename_i zs z hzs
    obtain ⟨y, rfl⟩ := len1 hl2
    cases (show y = .str z from by cases (show Rp _ _ _ _ from hvs (.d (.str z), y) (by simp)); rfl)
    split at h2
    · rename_i j hj
      show opt (mIndexT xs [.str z] S2) P
      unfold mIndexT
      simp only [strsD_of r1 hzs, hj]
      exact hP _ _ _ _ h2 (op_res hc (fun v hv => hvs v (by simp [hv])) (.data (.int _)))
    · exact h2.elim
  · exact h2.elim
end Vl
set_option Elab.async false
set_option linter.all false
set_option maxRecDepth 100000
set_option maxHeartbeats 1000000
/-! Vx5: max of three. -/
namespace Vl
open PySem PySem.Spec PySem.Calls PyProof.Rows L2 Lt
def mx (i j : Int) : Int := if j > i then j else i
def bMax3 : FB
  | [.int i, .int j, .int k], S => some (.int (mx (mx i j) k), S)
  | _, _ => none
theorem nu2 {i j : Int} : nuMax2 (.int i) (.int j) = some (.int (mx i j)) := by
  show some (if decide (i < j) = true then L2.V.int j else L2.V.int i) = _
  unfold mx
  by_cases h : i < j <;> simp [h]
theorem nu3 {i j k : Int} : nuMax3 (.int i) (.int j) (.int k) = some (.int (mx (mx i j) k)) := by
  show (nuMax2 (.int i) (.int j)).bind (fun m => nuMax2 m (.int k)) = _
  rw [nu2]
  exact nu2
theorem call_bMax3 {X : Cx} (hc : X.calm = true) : CallR X (.builtin "max") (rB X.K bMax3) := by
  intro pins s σ H vs us Q I r ⟨ι, S, xs, P, rs, rx, hf, hP⟩
  unfold bMax3 at hf
  split at hf
  · obtain ⟨u, v, w, rfl, q, q', q2⟩ := rvs3 rx
    cases int_of q; cases int_of q'; cases int_of q2
    exact call_max3Nu hc pins s σ H _ _ Q I r ⟨_, _, _, _, rfl, nu3, hP _ _ hf ι H _ .refl rs (.int _)⟩
  · exact hf.elim
theorem rqs3 {E : List Nat} {S : Store} {p q r : PyData} {xs : List PV} (h : Rqs E S [p, q, r] xs) : ∃ x y z, xs = [x, y, z] ∧ Rq E S p x ∧ Rq E S q y ∧ Rq E S r z := by
  cases h with
  | cons h t => obtain ⟨y, z, rfl, h2, h3⟩ := rqs2 t; exact ⟨_, y, z, rfl, h, h2, h3⟩
def vMax3 : GB
  | [.int i, .int j, .int k] => some (.d (.int (mx (mx i j) k)))
  | _ => none
theorem sim_max3 : SimB bMax3 vMax3 := by
  intro E S xs ps r hx h
  unfold vMax3 at h
  split at h
  · obtain ⟨x, y, z, rfl, q, q', q2⟩ := rqs3 hx
    cases q.int; cases q'.int; cases q2.int; cases h
    exact ⟨_, _, rfl, .data (.int _)⟩
  · cases h
theorem vMax3_i {i j k : Int} : vMax3 [.int i, .int j, .int k] = some (.d (.int (mx (mx i j) k))) := rfl
end Vl
set_option Elab.async false
set_option linter.all false
set_option maxRecDepth 100000
set_option maxHeartbeats 4000000
namespace Lw
open PySem PySem.Spec PyProof.Rows L2 Lt Vl
def topS (i : Nat) : Stmt := PySem.Challenge.pw_keptmarks_k46_whole_situations_in_which.main.body.getD i (.Pass ⟨0, 0, 0, 0⟩)
abbrev c_CHANGE : PV := .int 6
abbrev d_CHANGE : PyData := .int 6
theorem k_CHANGE : pvD c_CHANGE = some d_CHANGE := by rfl
abbrev c_CHECK : PV := .int 5
abbrev d_CHECK : PyData := .int 5
theorem k_CHECK : pvD c_CHECK = some d_CHECK := by rfl
abbrev c_ENTER : PV := .int 9
abbrev d_ENTER : PyData := .int 9
theorem k_ENTER : pvD c_ENTER = some d_ENTER := by rfl
abbrev c_FURTHER : PV := .int 1
abbrev d_FURTHER : PyData := .int 1
theorem k_FURTHER : pvD c_FURTHER = some d_FURTHER := by rfl
abbrev c_OLD : PV := .int 10
abbrev d_OLD : PyData := .int 10
theorem k_OLD : pvD c_OLD = some d_OLD := by rfl
abbrev c_PERHAPS : PV := .int 3
abbrev d_PERHAPS : PyData := .int 3
theorem k_PERHAPS : pvD c_PERHAPS = some d_PERHAPS := by rfl
abbrev c_READERS : PV := .int 0
abbrev d_READERS : PyData := .int 0
theorem k_READERS : pvD c_READERS = some d_READERS := by rfl
abbrev c_STOP : PV := .int 2
abbrev d_STOP : PyData := .int 2
theorem k_STOP : pvD c_STOP = some d_STOP := by rfl
abbrev c_STRIKE : PV := .int 8
abbrev d_STRIKE : PyData := .int 8
theorem k_STRIKE : pvD c_STRIKE = some d_STRIKE := by rfl
abbrev c_SURE : PV := .int 4
abbrev d_SURE : PyData := .int 4
theorem k_SURE : pvD c_SURE = some d_SURE := by rfl
/-- what the text finds at its names -/
structure Txt (K : PySem.W.Frag) (mg : Str → Option Value) : Prop where
  n_abs : mg "abs" = none
  n_int : mg "int" = none
  n_isinstance : mg "isinstance" = none
  n_len : mg "len" = none
  n_list : mg "list" = none
  n_max : mg "max" = none
  n_range : mg "range" = none
  n_repr : mg "repr" = none
  n_tuple : mg "tuple" = none
  c_CHANGE : ∀ {X : Cx}, X.K = K → X.mg = mg → GC X "CHANGE" c_CHANGE
  c_CHECK : ∀ {X : Cx}, X.K = K → X.mg = mg → GC X "CHECK" c_CHECK
  c_ENTER : ∀ {X : Cx}, X.K = K → X.mg = mg → GC X "ENTER" c_ENTER
  c_FURTHER : ∀ {X : Cx}, X.K = K → X.mg = mg → GC X "FURTHER" c_FURTHER
  c_OLD : ∀ {X : Cx}, X.K = K → X.mg = mg → GC X "OLD" c_OLD
  c_PERHAPS : ∀ {X : Cx}, X.K = K → X.mg = mg → GC X "PERHAPS" c_PERHAPS
  c_READERS : ∀ {X : Cx}, X.K = K → X.mg = mg → GC X "READERS" c_READERS
  c_STOP : ∀ {X : Cx}, X.K = K → X.mg = mg → GC X "STOP" c_STOP
  c_STRIKE : ∀ {X : Cx}, X.K = K → X.mg = mg → GC X "STRIKE" c_STRIKE
  c_SURE : ∀ {X : Cx}, X.K = K → X.mg = mg → GC X "SURE" c_SURE
abbrev kv_MARKS : List (Str × PV) := [("none", .int 0), ("perhaps", .int 1), ("sure", .int 2)]
abbrev dv_MARKS : List (Str × PyData) := [("none", .int 0), ("perhaps", .int 1), ("sure", .int 2)]
theorem kd_MARKS : kvsD kv_MARKS = some dv_MARKS := by rfl
/-- the text's dicts -/
structure DctF (w : World) (K : PySem.W.Frag) (mg : Str → Option Value) : Prop where
  m_MARKS : GDk w K mg "MARKS" kv_MARKS
abbrev s_can_stand : Stmt := topS 15
abbrev N_can_stand : List Str := ["book", "marks"]
abbrev P_can_stand : List Str := ["book"]
abbrev s_slip_alone : Stmt := topS 17
abbrev N_slip_alone : List Str := ["book"]
abbrev P_slip_alone : List Str := ["book"]
abbrev s_safe_alone : Stmt := topS 18
abbrev N_safe_alone : List Str := ["book"]
abbrev P_safe_alone : List Str := ["book"]
abbrev s_marks_nobody : Stmt := topS 19
abbrev N_marks_nobody : List Str := ["book"]
abbrev P_marks_nobody : List Str := ["book"]
abbrev s_answers_mark : Stmt := topS 20
abbrev N_answers_mark : List Str := ["book", "stand"]
abbrev P_answers_mark : List Str := ["book"]
abbrev s_raises_no_direct_reader : Stmt := topS 21
abbrev N_raises_no_direct_reader : List Str := ["book"]
abbrev P_raises_no_direct_reader : List Str := ["book"]
abbrev s_strikes_what_it_asks_for : Stmt := topS 22
abbrev N_strikes_what_it_asks_for : List Str := ["book"]
abbrev P_strikes_what_it_asks_for : List Str := ["book"]
abbrev s_leaves_marks_below_clean : Stmt := topS 23
abbrev N_leaves_marks_below_clean : List Str := ["book"]
abbrev P_leaves_marks_below_clean : List Str := ["book"]
abbrev s_is_quiet : Stmt := topS 25
abbrev N_is_quiet : List Str := ["book"]
abbrev P_is_quiet : List Str := ["book"]
abbrev s_hasty : Stmt := topS 26
abbrev N_hasty : List Str := ["book", "name", "mark"]
abbrev P_hasty : List Str := ["book"]
abbrev s_never_more : Stmt := topS 27
abbrev N_never_more : List Str := ["one", "other"]
abbrev P_never_more : List Str := ["one", "other"]
abbrev s_marks_of_situations : Stmt := topS 28
abbrev N_marks_of_situations : List Str := ["book", "readers", "further", "change"]
abbrev P_marks_of_situations : List Str := ["book"]
abbrev s_works_at : Stmt := topS 29
abbrev N_works_at : List Str := ["book", "mark", "word"]
abbrev P_works_at : List Str := ["book", "mark"]
abbrev s_more_situation : Stmt := topS 30
abbrev N_more_situation : List Str := ["one", "other", "hasty_of_one", "hasty_of_other", "name"]
abbrev P_more_situation : List Str := ["one", "other"]
abbrev s_law_bag : Stmt := topS 32
abbrev N_law_bag : List Str := ["script", "cells", "stirred", "cell"]
abbrev P_law_bag : List Str := ["script"]
abbrev s_law_draw : Stmt := topS 33
abbrev N_law_draw : List Str := ["bag", "many", "far", "turn", "mixed", "whole"]
abbrev P_law_draw : List Str := ["bag", "many"]
abbrev s_law_pick : Stmt := topS 34
abbrev N_law_pick : List Str := ["bag", "row"]
abbrev P_law_pick : List Str := ["bag", "row"]
abbrev s_law_words : Stmt := topS 35
abbrev N_law_words : List Str := ["marks", "ways", "found"]
abbrev P_law_words : List Str := []
abbrev s_law_mark : Stmt := topS 36
abbrev N_law_mark : List Str := ["word"]
abbrev P_law_mark : List Str := ["word"]
abbrev s_law_any_book : Stmt := topS 37
abbrev N_law_any_book : List Str := ["bag", "row"]
abbrev P_law_any_book : List Str := ["bag"]
abbrev s_law_can_stand : Stmt := topS 38
abbrev N_law_can_stand : List Str := ["book"]
abbrev P_law_can_stand : List Str := ["book"]
abbrev s_law_number : Stmt := topS 39
abbrev N_law_number : List Str := ["book", "has_perhaps", "has_sure", "strike", "enter", "old", "is_left"]
abbrev P_law_number : List Str := ["book"]
abbrev s_law_turned : Stmt := topS 40
abbrev N_law_turned : List Str := ["book", "spot", "word"]
abbrev P_law_turned : List Str := ["book", "spot", "word"]
abbrev s_law_safe_book : Stmt := topS 41
abbrev N_law_safe_book : List Str := ["bag", "book", "spot", "has_perhaps", "has_sure"]
abbrev P_law_safe_book : List Str := ["bag"]
abbrev s_law_is_calm : Stmt := topS 42
abbrev N_law_is_calm : List Str := ["book"]
abbrev P_law_is_calm : List Str := ["book"]
abbrev s_law_calm_book : Stmt := topS 43
abbrev N_law_calm_book : List Str := ["bag", "book"]
abbrev P_law_calm_book : List Str := ["bag"]
abbrev s_law_rash : Stmt := topS 44
abbrev N_law_rash : List Str := ["book", "readers", "further", "change", "rows", "found", "name", "mark"]
abbrev P_law_rash : List Str := ["book"]
abbrev s_law_heard : Stmt := topS 45
abbrev N_law_heard : List Str := ["book", "is_named", "refused"]
abbrev P_law_heard : List Str := ["book", "is_named"]
abbrev s_law_compared : Stmt := topS 46
abbrev N_law_compared : List Str := ["one", "other", "is_named", "refused"]
abbrev P_law_compared : List Str := ["one", "other", "is_named"]
abbrev s_law_is_right : Stmt := topS 47
abbrev N_law_is_right : List Str := ["book", "due"]
abbrev P_law_is_right : List Str := ["book"]
abbrev s_law_is_pair_right : Stmt := topS 48
abbrev N_law_is_pair_right : List Str := ["one", "other", "due", "there", "name"]
abbrev P_law_is_pair_right : List Str := ["one", "other"]
abbrev s_law : Stmt := topS 49
abbrev N_law : List Str := ["script", "bag", "some", "turn", "known", "book", "spot", "near", "one", "other"]
abbrev P_law : List Str := ["script"]
/-! can_stand -/
theorem sc_can_stand : FnScope N_can_stand P_can_stand (defScope s_can_stand) := ⟨rfl, rfl, rfl, by decide +kernel, rfl, by decide +kernel, by decide +kernel⟩
def b_can_stand : WS :=
  (wSq (wSet 1 (wLst wNil))
    (wSq (wIfS (wB (wOp (fInY false) (wC (.str "perhaps")) (wTup (wCons (wOp fIx (wVar 0) (wC c_READERS)) (wCons (wOp fIx (wVar 0) (wC c_FURTHER)) wNil))))) (wDrop (wM "list" (onL gAppend) (wVar 1) (wCons (wC (.int 1)) wNil))) wNx)
    (wSq (wIfS (wB (wOp (fInY false) (wC (.str "sure")) (wTup (wCons (wOp fIx (wVar 0) (wC c_READERS)) (wCons (wOp fIx (wVar 0) (wC c_FURTHER)) (wCons (wOp fIx (wVar 0) (wC c_CHANGE)) wNil)))))) (wDrop (wM "list" (onL gAppend) (wVar 1) (wCons (wC (.int 2)) wNil))) wNx)
    (wRet (wCall bTuple (wCons (wVar 1) wNil))))))
theorem jb_can_stand {P : Program} {w : World} {K : PySem.W.Frag} {mg : Str → Option Value} {base : Heap} (T : Txt K mg) (hS : SM base) {k : Nat}
    (f : Addr) (cdv : Value) (A : Around) (outer : List Env) (s : Shared) (H : Hp) (E : XK) (hr : Room k (A.deeper (envOfC "can_stand" (defScope s_can_stand) s.heap.objs.size f cdv))) (hgd : A.guards = some []) :
    JB (cxOf CX0 P w K mg base N_can_stand "can_stand" (defScope s_can_stand) f cdv A outer s H E).nox (defBody s_can_stand) (b_can_stand) := by
  have scND := sc_can_stand.nd
  exact (jb_cons (js_set 1 scND (re_lst ra_nil))
    (jb_cons (js_if (rt_cmp (op_fInY hr.units) re_str (re_tup (ra_cons (re_ix (re_var 0) (re_glob (T.c_READERS rfl rfl) rfl)) (ra_cons (re_ix (re_var 0) (re_glob (T.c_FURTHER rfl rfl) rfl)) ra_nil))) (by rfl)) (jb_one (js_expr (re_m PySem.F.plainAttrs_list PySem.F.slot_list_append PySem.F.type_list_append mt_gAppend (re_var 1) (ra_cons re_int ra_nil)))) jb_nil)
    (jb_cons (js_if (rt_cmp (op_fInY hr.units) re_str (re_tup (ra_cons (re_ix (re_var 0) (re_glob (T.c_READERS rfl rfl) rfl)) (ra_cons (re_ix (re_var 0) (re_glob (T.c_FURTHER rfl rfl) rfl)) (ra_cons (re_ix (re_var 0) (re_glob (T.c_CHANGE rfl rfl) rfl)) ra_nil)))) (by rfl)) (jb_one (js_expr (re_m PySem.F.plainAttrs_list PySem.F.slot_list_append PySem.F.type_list_append mt_gAppend (re_var 1) (ra_cons re_int ra_nil)))) jb_nil)
    (jb_one (js_ret (re_callTy call_bTuple rfl T.n_tuple bt_tuple (ra_cons (re_var 1) ra_nil)))))))
def v_can_stand : VS :=
  (vSq (vSetO 1 (vLst vN))
    (vSq (vIfS (vB (vOp vInY (vC (.str "perhaps")) (vTup (vCons (vOp vIx (vVar 0) (vC d_READERS)) (vCons (vOp vIx (vVar 0) (vC d_FURTHER)) vN))))) (vDrop (vMo lAppend 1 (vCons (vC (.int 1)) vN))) vNx)
    (vSq (vIfS (vB (vOp vInY (vC (.str "sure")) (vTup (vCons (vOp vIx (vVar 0) (vC d_READERS)) (vCons (vOp vIx (vVar 0) (vC d_FURTHER)) (vCons (vOp vIx (vVar 0) (vC d_CHANGE)) vN)))))) (vDrop (vMo lAppend 1 (vCons (vC (.int 2)) vN))) vNx)
    (vRet (vCall vTupleB (vCons (vVar 1) vN))))))
theorem sim_can_stand (T : Vl.Tok) : SimS T (b_can_stand) (v_can_stand) :=
  (sim_sq (sim_setO 1 (sim_lst simA_nil))
    (sim_sq (sim_ifS (sim_B (sim_op sim_inY sim_str (sim_tup (simA_cons (sim_op sim_ix (sim_var 0) (sim_k k_READERS)) (simA_cons (sim_op sim_ix (sim_var 0) (sim_k k_FURTHER)) simA_nil))))) (sim_drop (sim_mo 1 sim_append (simA_cons sim_int simA_nil))) sim_nx)
    (sim_sq (sim_ifS (sim_B (sim_op sim_inY sim_str (sim_tup (simA_cons (sim_op sim_ix (sim_var 0) (sim_k k_READERS)) (simA_cons (sim_op sim_ix (sim_var 0) (sim_k k_FURTHER)) (simA_cons (sim_op sim_ix (sim_var 0) (sim_k k_CHANGE)) simA_nil)))))) (sim_drop (sim_mo 1 sim_append (simA_cons sim_int simA_nil))) sim_nx)
    (sim_ret (sim_call sim_tupleB (simA_cons (sim_var 1) simA_nil))))))
theorem C_can_stand {P : Program} {w : World} {K : PySem.W.Frag} {mg : Str → Option Value} {base : Heap} {T : Vl.Tok} (D : Txt K mg) (hS : SM base) (d : Def K mg "can_stand" P_can_stand s_can_stand) {k : Nat} {c : VCon} (hlen : ∀ us m Q, c us m Q → us.length = 1)
    (hv : ∀ us m Q, c us m Q → v_can_stand ⟨us.map toX ++ List.replicate (2 - us.length) none, m⟩ (vEnd Q)) : Callee P w K mg base "can_stand" P_can_stand s_can_stand (k + 1) (conV T c) :=
  callee_of d sc_can_stand (fun xs S0 P h => conV_len hlen xs S0 P h) (jb_can_stand D hS) (pl_of (sim_can_stand T) hv)
/-! slip_alone -/
theorem sc_slip_alone : FnScope N_slip_alone P_slip_alone (defScope s_slip_alone) := ⟨rfl, rfl, rfl, by decide +kernel, rfl, by decide +kernel, by decide +kernel⟩
def b_slip_alone (c_marks_nobody : Con) (c_answers_mark : Con) (c_raises_no_direct_reader : Con) (c_strikes_what_it_asks_for : Con) (c_leaves_marks_below_clean : Con) : WS :=
  (wSq (wIfS (wTru (wF c_marks_nobody (wCons (wVar 0) wNil))) (wRet (wC (.int 1))) wNx)
    (wSq (wIfS (wTru (wF c_answers_mark (wCons (wVar 0) wNil))) (wRet (wC (.int 2))) wNx)
    (wSq (wIfS (wTru (wF c_raises_no_direct_reader (wCons (wVar 0) wNil))) (wRet (wC (.int 3))) wNx)
    (wSq (wIfS (wTru (wF c_strikes_what_it_asks_for (wCons (wVar 0) wNil))) (wRet (wC (.int 4))) wNx)
    (wSq (wIfS (wTru (wF c_leaves_marks_below_clean (wCons (wVar 0) wNil))) (wRet (wC (.int 5))) wNx)
    (wRet (wC .non)))))))
theorem jb_slip_alone {P : Program} {w : World} {K : PySem.W.Frag} {mg : Str → Option Value} {base : Heap} (T : Txt K mg) (hS : SM base) {k : Nat} {c_marks_nobody : Con} {k_marks_nobody : Nat} (C_marks_nobody : Callee P w K mg base "marks_nobody" P_marks_nobody s_marks_nobody k_marks_nobody c_marks_nobody) (l_marks_nobody : k_marks_nobody ≤ k) {c_answers_mark : Con} {k_answers_mark : Nat} (C_answers_mark : Callee P w K mg base "answers_mark" P_answers_mark s_answers_mark k_answers_mark c_answers_mark) (l_answers_mark : k_answers_mark ≤ k) {c_raises_no_direct_reader : Con} {k_raises_no_direct_reader : Nat} (C_raises_no_direct_reader : Callee P w K mg base "raises_no_direct_reader" P_raises_no_direct_reader s_raises_no_direct_reader k_raises_no_direct_reader c_raises_no_direct_reader) (l_raises_no_direct_reader : k_raises_no_direct_reader ≤ k) {c_strikes_what_it_asks_for : Con} {k_strikes_what_it_asks_for : Nat} (C_strikes_what_it_asks_for : Callee P w K mg base "strikes_what_it_asks_for" P_strikes_what_it_asks_for s_strikes_what_it_asks_for k_strikes_what_it_asks_for c_strikes_what_it_asks_for) (l_strikes_what_it_asks_for : k_strikes_what_it_asks_for ≤ k) {c_leaves_marks_below_clean : Con} {k_leaves_marks_below_clean : Nat} (C_leaves_marks_below_clean : Callee P w K mg base "leaves_marks_below_clean" P_leaves_marks_below_clean s_leaves_marks_below_clean k_leaves_marks_below_clean c_leaves_marks_below_clean) (l_leaves_marks_below_clean : k_leaves_marks_below_clean ≤ k)
    (f : Addr) (cdv : Value) (A : Around) (outer : List Env) (s : Shared) (H : Hp) (E : XK) (hr : Room k (A.deeper (envOfC "slip_alone" (defScope s_slip_alone) s.heap.objs.size f cdv))) (hgd : A.guards = some []) :
    JB (cxOf CX0 P w K mg base N_slip_alone "slip_alone" (defScope s_slip_alone) f cdv A outer s H E).nox (defBody s_slip_alone) (b_slip_alone c_marks_nobody c_answers_mark c_raises_no_direct_reader c_strikes_what_it_asks_for c_leaves_marks_below_clean) := by
  have scND := sc_slip_alone.nd
  exact (jb_cons (js_if (rt_tru (re_callee C_marks_nobody (hr.mono l_marks_nobody) hgd (ra_cons (re_var 0) ra_nil) pass0)) (jb_one (js_ret re_int)) jb_nil)
    (jb_cons (js_if (rt_tru (re_callee C_answers_mark (hr.mono l_answers_mark) hgd (ra_cons (re_var 0) ra_nil) pass0)) (jb_one (js_ret re_int)) jb_nil)
    (jb_cons (js_if (rt_tru (re_callee C_raises_no_direct_reader (hr.mono l_raises_no_direct_reader) hgd (ra_cons (re_var 0) ra_nil) pass0)) (jb_one (js_ret re_int)) jb_nil)
    (jb_cons (js_if (rt_tru (re_callee C_strikes_what_it_asks_for (hr.mono l_strikes_what_it_asks_for) hgd (ra_cons (re_var 0) ra_nil) pass0)) (jb_one (js_ret re_int)) jb_nil)
    (jb_cons (js_if (rt_tru (re_callee C_leaves_marks_below_clean (hr.mono l_leaves_marks_below_clean) hgd (ra_cons (re_var 0) ra_nil) pass0)) (jb_one (js_ret re_int)) jb_nil)
    (jb_one (js_ret re_non)))))))
def v_slip_alone (c_marks_nobody : VCon) (c_answers_mark : VCon) (c_raises_no_direct_reader : VCon) (c_strikes_what_it_asks_for : VCon) (c_leaves_marks_below_clean : VCon) : VS :=
  (vSq (vIfS (vTru (vF c_marks_nobody (vCons (vVar 0) vN))) (vRet (vC (.int 1))) vNx)
    (vSq (vIfS (vTru (vF c_answers_mark (vCons (vVar 0) vN))) (vRet (vC (.int 2))) vNx)
    (vSq (vIfS (vTru (vF c_raises_no_direct_reader (vCons (vVar 0) vN))) (vRet (vC (.int 3))) vNx)
    (vSq (vIfS (vTru (vF c_strikes_what_it_asks_for (vCons (vVar 0) vN))) (vRet (vC (.int 4))) vNx)
    (vSq (vIfS (vTru (vF c_leaves_marks_below_clean (vCons (vVar 0) vN))) (vRet (vC (.int 5))) vNx)
    (vRet (vC .none)))))))
theorem sim_slip_alone (T : Vl.Tok) (c_marks_nobody : VCon) (c_answers_mark : VCon) (c_raises_no_direct_reader : VCon) (c_strikes_what_it_asks_for : VCon) (c_leaves_marks_below_clean : VCon) : SimS T (b_slip_alone (conV T c_marks_nobody) (conV T c_answers_mark) (conV T c_raises_no_direct_reader) (conV T c_strikes_what_it_asks_for) (conV T c_leaves_marks_below_clean)) (v_slip_alone c_marks_nobody c_answers_mark c_raises_no_direct_reader c_strikes_what_it_asks_for c_leaves_marks_below_clean) :=
  (sim_sq (sim_ifS (sim_tru (sim_F (simA_cons (sim_var 0) simA_nil))) (sim_ret sim_int) sim_nx)
    (sim_sq (sim_ifS (sim_tru (sim_F (simA_cons (sim_var 0) simA_nil))) (sim_ret sim_int) sim_nx)
    (sim_sq (sim_ifS (sim_tru (sim_F (simA_cons (sim_var 0) simA_nil))) (sim_ret sim_int) sim_nx)
    (sim_sq (sim_ifS (sim_tru (sim_F (simA_cons (sim_var 0) simA_nil))) (sim_ret sim_int) sim_nx)
    (sim_sq (sim_ifS (sim_tru (sim_F (simA_cons (sim_var 0) simA_nil))) (sim_ret sim_int) sim_nx)
    (sim_ret sim_non))))))
theorem C_slip_alone {P : Program} {w : World} {K : PySem.W.Frag} {mg : Str → Option Value} {base : Heap} {T : Vl.Tok} (D : Txt K mg) (hS : SM base) (d : Def K mg "slip_alone" P_slip_alone s_slip_alone) {k : Nat} {c_marks_nobody : VCon} {k_marks_nobody : Nat} (C_marks_nobody : Callee P w K mg base "marks_nobody" P_marks_nobody s_marks_nobody k_marks_nobody (conV T c_marks_nobody)) (l_marks_nobody : k_marks_nobody ≤ k) {c_answers_mark : VCon} {k_answers_mark : Nat} (C_answers_mark : Callee P w K mg base "answers_mark" P_answers_mark s_answers_mark k_answers_mark (conV T c_answers_mark)) (l_answers_mark : k_answers_mark ≤ k) {c_raises_no_direct_reader : VCon} {k_raises_no_direct_reader : Nat} (C_raises_no_direct_reader : Callee P w K mg base "raises_no_direct_reader" P_raises_no_direct_reader s_raises_no_direct_reader k_raises_no_direct_reader (conV T c_raises_no_direct_reader)) (l_raises_no_direct_reader : k_raises_no_direct_reader ≤ k) {c_strikes_what_it_asks_for : VCon} {k_strikes_what_it_asks_for : Nat} (C_strikes_what_it_asks_for : Callee P w K mg base "strikes_what_it_asks_for" P_strikes_what_it_asks_for s_strikes_what_it_asks_for k_strikes_what_it_asks_for (conV T c_strikes_what_it_asks_for)) (l_strikes_what_it_asks_for : k_strikes_what_it_asks_for ≤ k) {c_leaves_marks_below_clean : VCon} {k_leaves_marks_below_clean : Nat} (C_leaves_marks_below_clean : Callee P w K mg base "leaves_marks_below_clean" P_leaves_marks_below_clean s_leaves_marks_below_clean k_leaves_marks_below_clean (conV T c_leaves_marks_below_clean)) (l_leaves_marks_below_clean : k_leaves_marks_below_clean ≤ k) {c : VCon} (hlen : ∀ us m Q, c us m Q → us.length = 1)
    (hv : ∀ us m Q, c us m Q → v_slip_alone c_marks_nobody c_answers_mark c_raises_no_direct_reader c_strikes_what_it_asks_for c_leaves_marks_below_clean ⟨us.map toX ++ List.replicate (1 - us.length) none, m⟩ (vEnd Q)) : Callee P w K mg base "slip_alone" P_slip_alone s_slip_alone (k + 1) (conV T c) :=
  callee_of d sc_slip_alone (fun xs S0 P h => conV_len hlen xs S0 P h) (jb_slip_alone D hS C_marks_nobody l_marks_nobody C_answers_mark l_answers_mark C_raises_no_direct_reader l_raises_no_direct_reader C_strikes_what_it_asks_for l_strikes_what_it_asks_for C_leaves_marks_below_clean l_leaves_marks_below_clean) (pl_of (sim_slip_alone T _ _ _ _ _) hv)
/-! safe_alone -/
theorem sc_safe_alone : FnScope N_safe_alone P_safe_alone (defScope s_safe_alone) := ⟨rfl, rfl, rfl, by decide +kernel, rfl, by decide +kernel, by decide +kernel⟩
def b_safe_alone (c_slip_alone : Con) : WS :=
  (wRet (wOp fIs (wF c_slip_alone (wCons (wVar 0) wNil)) (wC .non)))
theorem jb_safe_alone {P : Program} {w : World} {K : PySem.W.Frag} {mg : Str → Option Value} {base : Heap} (T : Txt K mg) (hS : SM base) {k : Nat} {c_slip_alone : Con} {k_slip_alone : Nat} (C_slip_alone : Callee P w K mg base "slip_alone" P_slip_alone s_slip_alone k_slip_alone c_slip_alone) (l_slip_alone : k_slip_alone ≤ k)
    (f : Addr) (cdv : Value) (A : Around) (outer : List Env) (s : Shared) (H : Hp) (E : XK) (hr : Room k (A.deeper (envOfC "safe_alone" (defScope s_safe_alone) s.heap.objs.size f cdv))) (hgd : A.guards = some []) :
    JB (cxOf CX0 P w K mg base N_safe_alone "safe_alone" (defScope s_safe_alone) f cdv A outer s H E).nox (defBody s_safe_alone) (b_safe_alone c_slip_alone) := by
  have scND := sc_safe_alone.nd
  exact (jb_one (js_ret (re_cmp op_fIs (re_callee C_slip_alone (hr.mono l_slip_alone) hgd (ra_cons (re_var 0) ra_nil) pass0) re_non (by rfl))))
def v_safe_alone (c_slip_alone : VCon) : VS :=
  (vRet (vOp vIs (vF c_slip_alone (vCons (vVar 0) vN)) (vC .none)))
theorem sim_safe_alone (T : Vl.Tok) (c_slip_alone : VCon) : SimS T (b_safe_alone (conV T c_slip_alone)) (v_safe_alone c_slip_alone) :=
  (sim_ret (sim_op sim_is (sim_F (simA_cons (sim_var 0) simA_nil)) sim_non))
theorem C_safe_alone {P : Program} {w : World} {K : PySem.W.Frag} {mg : Str → Option Value} {base : Heap} {T : Vl.Tok} (D : Txt K mg) (hS : SM base) (d : Def K mg "safe_alone" P_safe_alone s_safe_alone) {k : Nat} {c_slip_alone : VCon} {k_slip_alone : Nat} (C_slip_alone : Callee P w K mg base "slip_alone" P_slip_alone s_slip_alone k_slip_alone (conV T c_slip_alone)) (l_slip_alone : k_slip_alone ≤ k) {c : VCon} (hlen : ∀ us m Q, c us m Q → us.length = 1)
    (hv : ∀ us m Q, c us m Q → v_safe_alone c_slip_alone ⟨us.map toX ++ List.replicate (1 - us.length) none, m⟩ (vEnd Q)) : Callee P w K mg base "safe_alone" P_safe_alone s_safe_alone (k + 1) (conV T c) :=
  callee_of d sc_safe_alone (fun xs S0 P h => conV_len hlen xs S0 P h) (jb_safe_alone D hS C_slip_alone l_slip_alone) (pl_of (sim_safe_alone T _) hv)
/-! marks_nobody -/
theorem sc_marks_nobody : FnScope N_marks_nobody P_marks_nobody (defScope s_marks_nobody) := ⟨rfl, rfl, rfl, by decide +kernel, rfl, by decide +kernel, by decide +kernel⟩
def b_marks_nobody : WS :=
  (wRet (wOr (wOp fEq (wOp fIx (wVar 0) (wC c_READERS)) (wC (.str "none"))) (wOp fEq (wOp fIx (wVar 0) (wC c_FURTHER)) (wC (.str "none")))))
theorem jb_marks_nobody {P : Program} {w : World} {K : PySem.W.Frag} {mg : Str → Option Value} {base : Heap} (T : Txt K mg) (hS : SM base) {k : Nat}
    (f : Addr) (cdv : Value) (A : Around) (outer : List Env) (s : Shared) (H : Hp) (E : XK) (hr : Room k (A.deeper (envOfC "marks_nobody" (defScope s_marks_nobody) s.heap.objs.size f cdv))) (hgd : A.guards = some []) :
    JB (cxOf CX0 P w K mg base N_marks_nobody "marks_nobody" (defScope s_marks_nobody) f cdv A outer s H E).nox (defBody s_marks_nobody) (b_marks_nobody) := by
  have scND := sc_marks_nobody.nd
  exact (jb_one (js_ret (re_or (re_cmp (op_fEq hr.units) (re_ix (re_var 0) (re_glob (T.c_READERS rfl rfl) rfl)) re_str (by rfl)) (re_one (re_cmp (op_fEq hr.units) (re_ix (re_var 0) (re_glob (T.c_FURTHER rfl rfl) rfl)) re_str (by rfl))))))
def v_marks_nobody : VS :=
  (vRet (vOr (vOp vEq (vOp vIx (vVar 0) (vC d_READERS)) (vC (.str "none"))) (vOp vEq (vOp vIx (vVar 0) (vC d_FURTHER)) (vC (.str "none")))))
theorem sim_marks_nobody (T : Vl.Tok) : SimS T (b_marks_nobody) (v_marks_nobody) :=
  (sim_ret (sim_or (sim_op sim_eq (sim_op sim_ix (sim_var 0) (sim_k k_READERS)) sim_str) (sim_op sim_eq (sim_op sim_ix (sim_var 0) (sim_k k_FURTHER)) sim_str)))
theorem C_marks_nobody {P : Program} {w : World} {K : PySem.W.Frag} {mg : Str → Option Value} {base : Heap} {T : Vl.Tok} (D : Txt K mg) (hS : SM base) (d : Def K mg "marks_nobody" P_marks_nobody s_marks_nobody) {k : Nat} {c : VCon} (hlen : ∀ us m Q, c us m Q → us.length = 1)
    (hv : ∀ us m Q, c us m Q → v_marks_nobody ⟨us.map toX ++ List.replicate (1 - us.length) none, m⟩ (vEnd Q)) : Callee P w K mg base "marks_nobody" P_marks_nobody s_marks_nobody (k + 1) (conV T c) :=
  callee_of d sc_marks_nobody (fun xs S0 P h => conV_len hlen xs S0 P h) (jb_marks_nobody D hS) (pl_of (sim_marks_nobody T) hv)
/-! answers_mark -/
theorem sc_answers_mark : FnScope N_answers_mark P_answers_mark (defScope s_answers_mark) := ⟨rfl, rfl, rfl, by decide +kernel, rfl, by decide +kernel, by decide +kernel⟩
def b_answers_mark (c_can_stand : Con) : WS :=
  (wSq (wSet 1 (wF c_can_stand (wCons (wVar 0) wNil)))
    (wRet (wOr (wAnd (wOp (fInY false) (wC (.int 1)) (wVar 1)) (wOp fEq (wOp fIx (wVar 0) (wC c_PERHAPS)) (wC (.str "answer")))) (wAnd (wOp (fInY false) (wC (.int 2)) (wVar 1)) (wOp fEq (wOp fIx (wVar 0) (wC c_SURE)) (wC (.str "answer")))))))
theorem jb_answers_mark {P : Program} {w : World} {K : PySem.W.Frag} {mg : Str → Option Value} {base : Heap} (T : Txt K mg) (hS : SM base) {k : Nat} {c_can_stand : Con} {k_can_stand : Nat} (C_can_stand : Callee P w K mg base "can_stand" P_can_stand s_can_stand k_can_stand c_can_stand) (l_can_stand : k_can_stand ≤ k)
    (f : Addr) (cdv : Value) (A : Around) (outer : List Env) (s : Shared) (H : Hp) (E : XK) (hr : Room k (A.deeper (envOfC "answers_mark" (defScope s_answers_mark) s.heap.objs.size f cdv))) (hgd : A.guards = some []) :
    JB (cxOf CX0 P w K mg base N_answers_mark "answers_mark" (defScope s_answers_mark) f cdv A outer s H E).nox (defBody s_answers_mark) (b_answers_mark c_can_stand) := by
  have scND := sc_answers_mark.nd
  exact (jb_cons (js_set 1 scND (re_callee C_can_stand (hr.mono l_can_stand) hgd (ra_cons (re_var 0) ra_nil) pass0))
    (jb_one (js_ret (re_or (re_and (re_cmp (op_fInY hr.units) re_int (re_var 1) (by rfl)) (re_one (re_cmp (op_fEq hr.units) (re_ix (re_var 0) (re_glob (T.c_PERHAPS rfl rfl) rfl)) re_str (by rfl)))) (re_one (re_and (re_cmp (op_fInY hr.units) re_int (re_var 1) (by rfl)) (re_one (re_cmp (op_fEq hr.units) (re_ix (re_var 0) (re_glob (T.c_SURE rfl rfl) rfl)) re_str (by rfl)))))))))
def v_answers_mark (c_can_stand : VCon) : VS :=
  (vSq (vSet 1 (vF c_can_stand (vCons (vVar 0) vN)))
    (vRet (vOr (vAnd (vOp vInY (vC (.int 1)) (vVar 1)) (vOp vEq (vOp vIx (vVar 0) (vC d_PERHAPS)) (vC (.str "answer")))) (vAnd (vOp vInY (vC (.int 2)) (vVar 1)) (vOp vEq (vOp vIx (vVar 0) (vC d_SURE)) (vC (.str "answer")))))))
theorem sim_answers_mark (T : Vl.Tok) (c_can_stand : VCon) : SimS T (b_answers_mark (conV T c_can_stand)) (v_answers_mark c_can_stand) :=
  (sim_sq (sim_set 1 (sim_F (simA_cons (sim_var 0) simA_nil)))
    (sim_ret (sim_or (sim_and (sim_op sim_inY sim_int (sim_var 1)) (sim_op sim_eq (sim_op sim_ix (sim_var 0) (sim_k k_PERHAPS)) sim_str)) (sim_and (sim_op sim_inY sim_int (sim_var 1)) (sim_op sim_eq (sim_op sim_ix (sim_var 0) (sim_k k_SURE)) sim_str)))))
theorem C_answers_mark {P : Program} {w : World} {K : PySem.W.Frag} {mg : Str → Option Value} {base : Heap} {T : Vl.Tok} (D : Txt K mg) (hS : SM base) (d : Def K mg "answers_mark" P_answers_mark s_answers_mark) {k : Nat} {c_can_stand : VCon} {k_can_stand : Nat} (C_can_stand : Callee P w K mg base "can_stand" P_can_stand s_can_stand k_can_stand (conV T c_can_stand)) (l_can_stand : k_can_stand ≤ k) {c : VCon} (hlen : ∀ us m Q, c us m Q → us.length = 1)
    (hv : ∀ us m Q, c us m Q → v_answers_mark c_can_stand ⟨us.map toX ++ List.replicate (2 - us.length) none, m⟩ (vEnd Q)) : Callee P w K mg base "answers_mark" P_answers_mark s_answers_mark (k + 1) (conV T c) :=
  callee_of d sc_answers_mark (fun xs S0 P h => conV_len hlen xs S0 P h) (jb_answers_mark D hS C_can_stand l_can_stand) (pl_of (sim_answers_mark T _) hv)
/-! raises_no_direct_reader -/
theorem sc_raises_no_direct_reader : FnScope N_raises_no_direct_reader P_raises_no_direct_reader (defScope s_raises_no_direct_reader) := ⟨rfl, rfl, rfl, by decide +kernel, rfl, by decide +kernel, by decide +kernel⟩
def b_raises_no_direct_reader (c_can_stand : Con) : WS :=
  (wSq (wIfS (wOrT (wB (wOp (fInY true) (wC (.int 1)) (wF c_can_stand (wCons (wVar 0) wNil)))) (wOrT (wB (wOp fNe (wOp fIx (wVar 0) (wC c_PERHAPS)) (wC (.str "check")))) (wB (wOp fNe (wOp fIx (wVar 0) (wC c_CHECK)) (wC (.str "mark")))))) (wRet (wC (.bl false))) wNx)
    (wRet (wOr (wOp fNe (wOp fIx (wVar 0) (wC c_READERS)) (wC (.str "sure"))) (wOp fNe (wOp fIx (wVar 0) (wC c_CHANGE)) (wC (.str "sure"))))))
theorem jb_raises_no_direct_reader {P : Program} {w : World} {K : PySem.W.Frag} {mg : Str → Option Value} {base : Heap} (T : Txt K mg) (hS : SM base) {k : Nat} {c_can_stand : Con} {k_can_stand : Nat} (C_can_stand : Callee P w K mg base "can_stand" P_can_stand s_can_stand k_can_stand c_can_stand) (l_can_stand : k_can_stand ≤ k)
    (f : Addr) (cdv : Value) (A : Around) (outer : List Env) (s : Shared) (H : Hp) (E : XK) (hr : Room k (A.deeper (envOfC "raises_no_direct_reader" (defScope s_raises_no_direct_reader) s.heap.objs.size f cdv))) (hgd : A.guards = some []) :
    JB (cxOf CX0 P w K mg base N_raises_no_direct_reader "raises_no_direct_reader" (defScope s_raises_no_direct_reader) f cdv A outer s H E).nox (defBody s_raises_no_direct_reader) (b_raises_no_direct_reader c_can_stand) := by
  have scND := sc_raises_no_direct_reader.nd
  exact (jb_cons (js_if (RW.rt (rw_or (rt_cmp (op_fNotInY hr.units) re_int (re_callee C_can_stand (hr.mono l_can_stand) hgd (ra_cons (re_var 0) ra_nil) pass0) (by rfl)) (rw_or (rt_cmp (op_fNe hr.units) (re_ix (re_var 0) (re_glob (T.c_PERHAPS rfl rfl) rfl)) re_str (by rfl)) (rw_or1 (rt_cmp (op_fNe hr.units) (re_ix (re_var 0) (re_glob (T.c_CHECK rfl rfl) rfl)) re_str (by rfl)))))) (jb_one (js_ret re_bl)) jb_nil)
    (jb_one (js_ret (re_or (re_cmp (op_fNe hr.units) (re_ix (re_var 0) (re_glob (T.c_READERS rfl rfl) rfl)) re_str (by rfl)) (re_one (re_cmp (op_fNe hr.units) (re_ix (re_var 0) (re_glob (T.c_CHANGE rfl rfl) rfl)) re_str (by rfl)))))))
def v_raises_no_direct_reader (c_can_stand : VCon) : VS :=
  (vSq (vIfS (vOrT (vB (vOp vNotInY (vC (.int 1)) (vF c_can_stand (vCons (vVar 0) vN)))) (vOrT (vB (vOp vNe (vOp vIx (vVar 0) (vC d_PERHAPS)) (vC (.str "check")))) (vB (vOp vNe (vOp vIx (vVar 0) (vC d_CHECK)) (vC (.str "mark")))))) (vRet (vC (.bool false))) vNx)
    (vRet (vOr (vOp vNe (vOp vIx (vVar 0) (vC d_READERS)) (vC (.str "sure"))) (vOp vNe (vOp vIx (vVar 0) (vC d_CHANGE)) (vC (.str "sure"))))))
theorem sim_raises_no_direct_reader (T : Vl.Tok) (c_can_stand : VCon) : SimS T (b_raises_no_direct_reader (conV T c_can_stand)) (v_raises_no_direct_reader c_can_stand) :=
  (sim_sq (sim_ifS (sim_orT (sim_B (sim_op sim_notInY sim_int (sim_F (simA_cons (sim_var 0) simA_nil)))) (sim_orT (sim_B (sim_op sim_ne (sim_op sim_ix (sim_var 0) (sim_k k_PERHAPS)) sim_str)) (sim_B (sim_op sim_ne (sim_op sim_ix (sim_var 0) (sim_k k_CHECK)) sim_str)))) (sim_ret sim_bl) sim_nx)
    (sim_ret (sim_or (sim_op sim_ne (sim_op sim_ix (sim_var 0) (sim_k k_READERS)) sim_str) (sim_op sim_ne (sim_op sim_ix (sim_var 0) (sim_k k_CHANGE)) sim_str))))
theorem C_raises_no_direct_reader {P : Program} {w : World} {K : PySem.W.Frag} {mg : Str → Option Value} {base : Heap} {T : Vl.Tok} (D : Txt K mg) (hS : SM base) (d : Def K mg "raises_no_direct_reader" P_raises_no_direct_reader s_raises_no_direct_reader) {k : Nat} {c_can_stand : VCon} {k_can_stand : Nat} (C_can_stand : Callee P w K mg base "can_stand" P_can_stand s_can_stand k_can_stand (conV T c_can_stand)) (l_can_stand : k_can_stand ≤ k) {c : VCon} (hlen : ∀ us m Q, c us m Q → us.length = 1)
    (hv : ∀ us m Q, c us m Q → v_raises_no_direct_reader c_can_stand ⟨us.map toX ++ List.replicate (1 - us.length) none, m⟩ (vEnd Q)) : Callee P w K mg base "raises_no_direct_reader" P_raises_no_direct_reader s_raises_no_direct_reader (k + 1) (conV T c) :=
  callee_of d sc_raises_no_direct_reader (fun xs S0 P h => conV_len hlen xs S0 P h) (jb_raises_no_direct_reader D hS C_can_stand l_can_stand) (pl_of (sim_raises_no_direct_reader T _) hv)
/-! strikes_what_it_asks_for -/
theorem sc_strikes_what_it_asks_for : FnScope N_strikes_what_it_asks_for P_strikes_what_it_asks_for (defScope s_strikes_what_it_asks_for) := ⟨rfl, rfl, rfl, by decide +kernel, rfl, by decide +kernel, by decide +kernel⟩
def b_strikes_what_it_asks_for (c_can_stand : Con) : WS :=
  (wSq (wIfS (wOrT (wB (wOp (fInY true) (wC (.int 2)) (wF c_can_stand (wCons (wVar 0) wNil)))) (wOrT (wB (wOp fNe (wOp fIx (wVar 0) (wC c_SURE)) (wC (.str "check")))) (wB (wOp fNe (wOp fIx (wVar 0) (wC c_CHECK)) (wC (.str "mark")))))) (wRet (wC (.bl false))) wNx)
    (wRet (wOp fEq (wOp fIx (wVar 0) (wC c_STRIKE)) (wC (.str "ahead")))))
theorem jb_strikes_what_it_asks_for {P : Program} {w : World} {K : PySem.W.Frag} {mg : Str → Option Value} {base : Heap} (T : Txt K mg) (hS : SM base) {k : Nat} {c_can_stand : Con} {k_can_stand : Nat} (C_can_stand : Callee P w K mg base "can_stand" P_can_stand s_can_stand k_can_stand c_can_stand) (l_can_stand : k_can_stand ≤ k)
    (f : Addr) (cdv : Value) (A : Around) (outer : List Env) (s : Shared) (H : Hp) (E : XK) (hr : Room k (A.deeper (envOfC "strikes_what_it_asks_for" (defScope s_strikes_what_it_asks_for) s.heap.objs.size f cdv))) (hgd : A.guards = some []) :
    JB (cxOf CX0 P w K mg base N_strikes_what_it_asks_for "strikes_what_it_asks_for" (defScope s_strikes_what_it_asks_for) f cdv A outer s H E).nox (defBody s_strikes_what_it_asks_for) (b_strikes_what_it_asks_for c_can_stand) := by
  have scND := sc_strikes_what_it_asks_for.nd
  exact (jb_cons (js_if (RW.rt (rw_or (rt_cmp (op_fNotInY hr.units) re_int (re_callee C_can_stand (hr.mono l_can_stand) hgd (ra_cons (re_var 0) ra_nil) pass0) (by rfl)) (rw_or (rt_cmp (op_fNe hr.units) (re_ix (re_var 0) (re_glob (T.c_SURE rfl rfl) rfl)) re_str (by rfl)) (rw_or1 (rt_cmp (op_fNe hr.units) (re_ix (re_var 0) (re_glob (T.c_CHECK rfl rfl) rfl)) re_str (by rfl)))))) (jb_one (js_ret re_bl)) jb_nil)
    (jb_one (js_ret (re_cmp (op_fEq hr.units) (re_ix (re_var 0) (re_glob (T.c_STRIKE rfl rfl) rfl)) re_str (by rfl)))))
def v_strikes_what_it_asks_for (c_can_stand : VCon) : VS :=
  (vSq (vIfS (vOrT (vB (vOp vNotInY (vC (.int 2)) (vF c_can_stand (vCons (vVar 0) vN)))) (vOrT (vB (vOp vNe (vOp vIx (vVar 0) (vC d_SURE)) (vC (.str "check")))) (vB (vOp vNe (vOp vIx (vVar 0) (vC d_CHECK)) (vC (.str "mark")))))) (vRet (vC (.bool false))) vNx)
    (vRet (vOp vEq (vOp vIx (vVar 0) (vC d_STRIKE)) (vC (.str "ahead")))))
theorem sim_strikes_what_it_asks_for (T : Vl.Tok) (c_can_stand : VCon) : SimS T (b_strikes_what_it_asks_for (conV T c_can_stand)) (v_strikes_what_it_asks_for c_can_stand) :=
  (sim_sq (sim_ifS (sim_orT (sim_B (sim_op sim_notInY sim_int (sim_F (simA_cons (sim_var 0) simA_nil)))) (sim_orT (sim_B (sim_op sim_ne (sim_op sim_ix (sim_var 0) (sim_k k_SURE)) sim_str)) (sim_B (sim_op sim_ne (sim_op sim_ix (sim_var 0) (sim_k k_CHECK)) sim_str)))) (sim_ret sim_bl) sim_nx)
    (sim_ret (sim_op sim_eq (sim_op sim_ix (sim_var 0) (sim_k k_STRIKE)) sim_str)))
theorem C_strikes_what_it_asks_for {P : Program} {w : World} {K : PySem.W.Frag} {mg : Str → Option Value} {base : Heap} {T : Vl.Tok} (D : Txt K mg) (hS : SM base) (d : Def K mg "strikes_what_it_asks_for" P_strikes_what_it_asks_for s_strikes_what_it_asks_for) {k : Nat} {c_can_stand : VCon} {k_can_stand : Nat} (C_can_stand : Callee P w K mg base "can_stand" P_can_stand s_can_stand k_can_stand (conV T c_can_stand)) (l_can_stand : k_can_stand ≤ k) {c : VCon} (hlen : ∀ us m Q, c us m Q → us.length = 1)
    (hv : ∀ us m Q, c us m Q → v_strikes_what_it_asks_for c_can_stand ⟨us.map toX ++ List.replicate (1 - us.length) none, m⟩ (vEnd Q)) : Callee P w K mg base "strikes_what_it_asks_for" P_strikes_what_it_asks_for s_strikes_what_it_asks_for (k + 1) (conV T c) :=
  callee_of d sc_strikes_what_it_asks_for (fun xs S0 P h => conV_len hlen xs S0 P h) (jb_strikes_what_it_asks_for D hS C_can_stand l_can_stand) (pl_of (sim_strikes_what_it_asks_for T _) hv)
/-! leaves_marks_below_clean -/
theorem sc_leaves_marks_below_clean : FnScope N_leaves_marks_below_clean P_leaves_marks_below_clean (defScope s_leaves_marks_below_clean) := ⟨rfl, rfl, rfl, by decide +kernel, rfl, by decide +kernel, by decide +kernel⟩
def b_leaves_marks_below_clean : WS :=
  (wSq (wIfS (wOrT (wB (wOp fNe (wOp fIx (wVar 0) (wC c_CHANGE)) (wC (.str "sure")))) (wB (wOp fEq (wOp fIx (wVar 0) (wC c_STOP)) (wC (.str "never"))))) (wRet (wC (.bl false))) wNx)
    (wSq (wIfS (wB (wOp fEq (wOp fIx (wVar 0) (wC c_STRIKE)) (wC (.str "unless")))) (wRet (wC (.bl true))) wNx)
    (wSq (wIfS (wB (wOp fEq (wOp fIx (wVar 0) (wC c_STRIKE)) (wC (.str "ahead")))) (wRet (wOp fEq (wOp fIx (wVar 0) (wC c_ENTER)) (wC (.str "behind")))) wNx)
    (wRet (wOp fEq (wOp fIx (wVar 0) (wC c_OLD)) (wC (.str "kept")))))))
theorem jb_leaves_marks_below_clean {P : Program} {w : World} {K : PySem.W.Frag} {mg : Str → Option Value} {base : Heap} (T : Txt K mg) (hS : SM base) {k : Nat}
    (f : Addr) (cdv : Value) (A : Around) (outer : List Env) (s : Shared) (H : Hp) (E : XK) (hr : Room k (A.deeper (envOfC "leaves_marks_below_clean" (defScope s_leaves_marks_below_clean) s.heap.objs.size f cdv))) (hgd : A.guards = some []) :
    JB (cxOf CX0 P w K mg base N_leaves_marks_below_clean "leaves_marks_below_clean" (defScope s_leaves_marks_below_clean) f cdv A outer s H E).nox (defBody s_leaves_marks_below_clean) (b_leaves_marks_below_clean) := by
  have scND := sc_leaves_marks_below_clean.nd
  exact (jb_cons (js_if (RW.rt (rw_or (rt_cmp (op_fNe hr.units) (re_ix (re_var 0) (re_glob (T.c_CHANGE rfl rfl) rfl)) re_str (by rfl)) (rw_or1 (rt_cmp (op_fEq hr.units) (re_ix (re_var 0) (re_glob (T.c_STOP rfl rfl) rfl)) re_str (by rfl))))) (jb_one (js_ret re_bl)) jb_nil)
    (jb_cons (js_if (rt_cmp (op_fEq hr.units) (re_ix (re_var 0) (re_glob (T.c_STRIKE rfl rfl) rfl)) re_str (by rfl)) (jb_one (js_ret re_bl)) jb_nil)
    (jb_cons (js_if (rt_cmp (op_fEq hr.units) (re_ix (re_var 0) (re_glob (T.c_STRIKE rfl rfl) rfl)) re_str (by rfl)) (jb_one (js_ret (re_cmp (op_fEq hr.units) (re_ix (re_var 0) (re_glob (T.c_ENTER rfl rfl) rfl)) re_str (by rfl)))) jb_nil)
    (jb_one (js_ret (re_cmp (op_fEq hr.units) (re_ix (re_var 0) (re_glob (T.c_OLD rfl rfl) rfl)) re_str (by rfl)))))))
def v_leaves_marks_below_clean : VS :=
  (vSq (vIfS (vOrT (vB (vOp vNe (vOp vIx (vVar 0) (vC d_CHANGE)) (vC (.str "sure")))) (vB (vOp vEq (vOp vIx (vVar 0) (vC d_STOP)) (vC (.str "never"))))) (vRet (vC (.bool false))) vNx)
    (vSq (vIfS (vB (vOp vEq (vOp vIx (vVar 0) (vC d_STRIKE)) (vC (.str "unless")))) (vRet (vC (.bool true))) vNx)
    (vSq (vIfS (vB (vOp vEq (vOp vIx (vVar 0) (vC d_STRIKE)) (vC (.str "ahead")))) (vRet (vOp vEq (vOp vIx (vVar 0) (vC d_ENTER)) (vC (.str "behind")))) vNx)
    (vRet (vOp vEq (vOp vIx (vVar 0) (vC d_OLD)) (vC (.str "kept")))))))
theorem sim_leaves_marks_below_clean (T : Vl.Tok) : SimS T (b_leaves_marks_below_clean) (v_leaves_marks_below_clean) :=
  (sim_sq (sim_ifS (sim_orT (sim_B (sim_op sim_ne (sim_op sim_ix (sim_var 0) (sim_k k_CHANGE)) sim_str)) (sim_B (sim_op sim_eq (sim_op sim_ix (sim_var 0) (sim_k k_STOP)) sim_str))) (sim_ret sim_bl) sim_nx)
    (sim_sq (sim_ifS (sim_B (sim_op sim_eq (sim_op sim_ix (sim_var 0) (sim_k k_STRIKE)) sim_str)) (sim_ret sim_bl) sim_nx)
    (sim_sq (sim_ifS (sim_B (sim_op sim_eq (sim_op sim_ix (sim_var 0) (sim_k k_STRIKE)) sim_str)) (sim_ret (sim_op sim_eq (sim_op sim_ix (sim_var 0) (sim_k k_ENTER)) sim_str)) sim_nx)
    (sim_ret (sim_op sim_eq (sim_op sim_ix (sim_var 0) (sim_k k_OLD)) sim_str)))))
theorem C_leaves_marks_below_clean {P : Program} {w : World} {K : PySem.W.Frag} {mg : Str → Option Value} {base : Heap} {T : Vl.Tok} (D : Txt K mg) (hS : SM base) (d : Def K mg "leaves_marks_below_clean" P_leaves_marks_below_clean s_leaves_marks_below_clean) {k : Nat} {c : VCon} (hlen : ∀ us m Q, c us m Q → us.length = 1)
    (hv : ∀ us m Q, c us m Q → v_leaves_marks_below_clean ⟨us.map toX ++ List.replicate (1 - us.length) none, m⟩ (vEnd Q)) : Callee P w K mg base "leaves_marks_below_clean" P_leaves_marks_below_clean s_leaves_marks_below_clean (k + 1) (conV T c) :=
  callee_of d sc_leaves_marks_below_clean (fun xs S0 P h => conV_len hlen xs S0 P h) (jb_leaves_marks_below_clean D hS) (pl_of (sim_leaves_marks_below_clean T) hv)
/-! is_quiet -/
theorem sc_is_quiet : FnScope N_is_quiet P_is_quiet (defScope s_is_quiet) := ⟨rfl, rfl, rfl, by decide +kernel, rfl, by decide +kernel, by decide +kernel⟩
def b_is_quiet (c_safe_alone : Con) : WS :=
  (wRet (wAnd (wF c_safe_alone (wCons (wVar 0) wNil)) (wAnd (wOp fEq (wOp fIx (wVar 0) (wC c_OLD)) (wC (.str "struck"))) (wOr (wOp fEq (wOp fIx (wVar 0) (wC c_CHANGE)) (wC (.str "none"))) (wOp fEq (wOp fIx (wVar 0) (wC c_STRIKE)) (wC (.str "behind")))))))
theorem jb_is_quiet {P : Program} {w : World} {K : PySem.W.Frag} {mg : Str → Option Value} {base : Heap} (T : Txt K mg) (hS : SM base) {k : Nat} {c_safe_alone : Con} {k_safe_alone : Nat} (C_safe_alone : Callee P w K mg base "safe_alone" P_safe_alone s_safe_alone k_safe_alone c_safe_alone) (l_safe_alone : k_safe_alone ≤ k)
    (f : Addr) (cdv : Value) (A : Around) (outer : List Env) (s : Shared) (H : Hp) (E : XK) (hr : Room k (A.deeper (envOfC "is_quiet" (defScope s_is_quiet) s.heap.objs.size f cdv))) (hgd : A.guards = some []) :
    JB (cxOf CX0 P w K mg base N_is_quiet "is_quiet" (defScope s_is_quiet) f cdv A outer s H E).nox (defBody s_is_quiet) (b_is_quiet c_safe_alone) := by
  have scND := sc_is_quiet.nd
  exact (jb_one (js_ret (re_and (re_callee C_safe_alone (hr.mono l_safe_alone) hgd (ra_cons (re_var 0) ra_nil) pass0) (re_and (re_cmp (op_fEq hr.units) (re_ix (re_var 0) (re_glob (T.c_OLD rfl rfl) rfl)) re_str (by rfl)) (re_one (re_or (re_cmp (op_fEq hr.units) (re_ix (re_var 0) (re_glob (T.c_CHANGE rfl rfl) rfl)) re_str (by rfl)) (re_one (re_cmp (op_fEq hr.units) (re_ix (re_var 0) (re_glob (T.c_STRIKE rfl rfl) rfl)) re_str (by rfl)))))))))
def v_is_quiet (c_safe_alone : VCon) : VS :=
  (vRet (vAnd (vF c_safe_alone (vCons (vVar 0) vN)) (vAnd (vOp vEq (vOp vIx (vVar 0) (vC d_OLD)) (vC (.str "struck"))) (vOr (vOp vEq (vOp vIx (vVar 0) (vC d_CHANGE)) (vC (.str "none"))) (vOp vEq (vOp vIx (vVar 0) (vC d_STRIKE)) (vC (.str "behind")))))))
theorem sim_is_quiet (T : Vl.Tok) (c_safe_alone : VCon) : SimS T (b_is_quiet (conV T c_safe_alone)) (v_is_quiet c_safe_alone) :=
  (sim_ret (sim_and (sim_F (simA_cons (sim_var 0) simA_nil)) (sim_and (sim_op sim_eq (sim_op sim_ix (sim_var 0) (sim_k k_OLD)) sim_str) (sim_or (sim_op sim_eq (sim_op sim_ix (sim_var 0) (sim_k k_CHANGE)) sim_str) (sim_op sim_eq (sim_op sim_ix (sim_var 0) (sim_k k_STRIKE)) sim_str)))))
theorem C_is_quiet {P : Program} {w : World} {K : PySem.W.Frag} {mg : Str → Option Value} {base : Heap} {T : Vl.Tok} (D : Txt K mg) (hS : SM base) (d : Def K mg "is_quiet" P_is_quiet s_is_quiet) {k : Nat} {c_safe_alone : VCon} {k_safe_alone : Nat} (C_safe_alone : Callee P w K mg base "safe_alone" P_safe_alone s_safe_alone k_safe_alone (conV T c_safe_alone)) (l_safe_alone : k_safe_alone ≤ k) {c : VCon} (hlen : ∀ us m Q, c us m Q → us.length = 1)
    (hv : ∀ us m Q, c us m Q → v_is_quiet c_safe_alone ⟨us.map toX ++ List.replicate (1 - us.length) none, m⟩ (vEnd Q)) : Callee P w K mg base "is_quiet" P_is_quiet s_is_quiet (k + 1) (conV T c) :=
  callee_of d sc_is_quiet (fun xs S0 P h => conV_len hlen xs S0 P h) (jb_is_quiet D hS C_safe_alone l_safe_alone) (pl_of (sim_is_quiet T _) hv)
/-! hasty -/
theorem sc_hasty : FnScope N_hasty P_hasty (defScope s_hasty) := ⟨rfl, rfl, rfl, by decide +kernel, rfl, by decide +kernel, by decide +kernel⟩
def b_hasty (c_is_quiet : Con) (c_marks_of_situations : Con) (c_works_at : Con) : WS :=
  (wSq (wIfS (wNot (wTru (wF c_is_quiet (wCons (wVar 0) wNil)))) wRaise wNx)
    (wRet (wCall bTuple (wCons (wLc (wSeqI (wF c_marks_of_situations (wCons (wVar 0) wNil))) (gT (gsC (gN 1) (gsC (gN 2) gsN))) (wTru (wF c_works_at (wCons (wVar 0) (wCons (wVar 2) wNil)))) (wVar 1) [1, 2]) wNil))))
theorem jb_hasty {P : Program} {w : World} {K : PySem.W.Frag} {mg : Str → Option Value} {base : Heap} (T : Txt K mg) (hS : SM base) (hX : XcF P K mg "Unfit" "MarkError") {k : Nat} (l0 : 1 ≤ k) {c_is_quiet : Con} {k_is_quiet : Nat} (C_is_quiet : Callee P w K mg base "is_quiet" P_is_quiet s_is_quiet k_is_quiet c_is_quiet) (l_is_quiet : k_is_quiet ≤ k) {c_marks_of_situations : Con} {k_marks_of_situations : Nat} (C_marks_of_situations : Callee P w K mg base "marks_of_situations" P_marks_of_situations s_marks_of_situations k_marks_of_situations c_marks_of_situations) (l_marks_of_situations : k_marks_of_situations ≤ k) {c_works_at : Con} {k_works_at : Nat} (C_works_at : Callee P w K mg base "works_at" P_works_at s_works_at k_works_at c_works_at) (l_works_at : k_works_at ≤ k)
    (f : Addr) (cdv : Value) (A : Around) (outer : List Env) (s : Shared) (H : Hp) (E : XK) (hr : Room k (A.deeper (envOfC "hasty" (defScope s_hasty) s.heap.objs.size f cdv))) (hgd : A.guards = some []) :
    JBX (cxOf (L2N.CX P w) P w K mg base N_hasty "hasty" (defScope s_hasty) f cdv A outer s H E) (E (.ref (adr (mg "Unfit"))) none) (defBody s_hasty) (b_hasty c_is_quiet c_marks_of_situations c_works_at) := by
  have scND := sc_hasty.nd
  exact (jbx_cons (jsx_if (rt_not (rt_tru (re_callee C_is_quiet (hr.mono l_is_quiet) hgd (ra_cons (re_var 0) ra_nil) pass0))) (jbx_one (jsx_raise hX.ox rfl takesD (hr.mono l0) rfl hX.g)) (jbx_of jb_nil))
    (jbx_one (jsx_of (js_ret (re_callTy call_bTuple rfl T.n_tuple bt_tuple (ra_cons (re_lc (own := [("name", 1), ("mark", 2)]) rfl scND (ri_seq (re_callee C_marks_of_situations (hr.mono l_marks_of_situations) hgd (ra_cons (re_var 0) ra_nil) pass0)) (blkOk_by (N := N_hasty) (sc := defScope s_hasty) (by decide +kernel)) (by decide) (fun _ _ _ _ _ => (rg_tup rfl (rgs_cons (rg_name 1 scND) (rgs_cons (rg_name 2 scND) rgs_nil)))) (fun _ _ _ _ _ => (rts_one (rt_tru (re_callee C_works_at (hr.mono l_works_at) hgd (ra_cons (re_var 0) (ra_cons (re_var 2) ra_nil)) pass0)))) (fun _ _ _ _ _ => (re_var 1))) ra_nil))))))
def v_hasty (c_is_quiet : VCon) (c_marks_of_situations : VCon) (c_works_at : VCon) : VS :=
  (vSq (vIfS (vNot (vTru (vF c_is_quiet (vCons (vVar 0) vN)))) vRaise vNx)
    (vRet (vCall vTupleB (vCons (vLc (vSeq (vF c_marks_of_situations (vCons (vVar 0) vN))) (hT (hsC (hN 1) (hsC (hN 2) hsN))) (vTru (vF c_works_at (vCons (vVar 0) (vCons (vVar 2) vN)))) (vVar 1) [1, 2]) vN))))
theorem sim_hasty (T : Vl.Tok) (c_is_quiet : VCon) (c_marks_of_situations : VCon) (c_works_at : VCon) : SimS T (b_hasty (conV T c_is_quiet) (conV T c_marks_of_situations) (conV T c_works_at)) (v_hasty c_is_quiet c_marks_of_situations c_works_at) :=
  (sim_sq (sim_ifS (sim_not (sim_tru (sim_F (simA_cons (sim_var 0) simA_nil)))) sim_raise sim_nx)
    (sim_ret (sim_call sim_tupleB (simA_cons (sim_lc (sim_seq (sim_F (simA_cons (sim_var 0) simA_nil))) (sim_gT (sim_gsC (sim_gN 1) (sim_gsC (sim_gN 2) sim_gsN))) (by decide) (sim_tru (sim_F (simA_cons (sim_var 0) (simA_cons (sim_var 2) simA_nil)))) (sim_var 1)) simA_nil))))
theorem C_hasty {P : Program} {w : World} {K : PySem.W.Frag} {mg : Str → Option Value} {base : Heap} {T : Vl.Tok} (D : Txt K mg) (hS : SM base) (hX : XcF P K mg "Unfit" "MarkError") (d : Def K mg "hasty" P_hasty s_hasty) {k : Nat} (l0 : 1 ≤ k) {c_is_quiet : VCon} {k_is_quiet : Nat} (C_is_quiet : Callee P w K mg base "is_quiet" P_is_quiet s_is_quiet k_is_quiet (conV T c_is_quiet)) (l_is_quiet : k_is_quiet ≤ k) {c_marks_of_situations : VCon} {k_marks_of_situations : Nat} (C_marks_of_situations : Callee P w K mg base "marks_of_situations" P_marks_of_situations s_marks_of_situations k_marks_of_situations (conV T c_marks_of_situations)) (l_marks_of_situations : k_marks_of_situations ≤ k) {c_works_at : VCon} {k_works_at : Nat} (C_works_at : Callee P w K mg base "works_at" P_works_at s_works_at k_works_at (conV T c_works_at)) (l_works_at : k_works_at ≤ k) {c : VCon} (hlen : ∀ us m Q, c us m Q → us.length = 1)
    (hv : ∀ us m Q, c us m Q → v_hasty c_is_quiet c_marks_of_situations c_works_at ⟨us.map toX ++ List.replicate (3 - us.length) none, m⟩ (vEnd Q)) : CalleeX P w K mg base (adr (mg "Unfit")) "hasty" P_hasty s_hasty (k + 1) (conV T c) :=
  calleeX_of d sc_hasty (fun xs S0 P h => conV_len hlen xs S0 P h) (jb_hasty D hS hX l0 C_is_quiet l_is_quiet C_marks_of_situations l_marks_of_situations C_works_at l_works_at) (pl_of (sim_hasty T _ _ _) hv)
/-! never_more -/
theorem sc_never_more : FnScope N_never_more P_never_more (defScope s_never_more) := ⟨rfl, rfl, rfl, by decide +kernel, rfl, by decide +kernel, by decide +kernel⟩
def b_never_more (c_more_situation : Con) : WS :=
  (wRet (wIsX (wF c_more_situation (wCons (wVar 0) (wCons (wVar 1) wNil)))))
theorem jb_never_more {P : Program} {w : World} {K : PySem.W.Frag} {mg : Str → Option Value} {base : Heap} (T : Txt K mg) (hS : SM base) (hX : XcF P K mg "Unfit" "MarkError") {k : Nat} (l0 : 1 ≤ k) {c_more_situation : Con} {k_more_situation : Nat} (C_more_situation : CalleeX P w K mg base (adr (mg "Unfit")) "more_situation" P_more_situation s_more_situation k_more_situation c_more_situation) (l_more_situation : k_more_situation ≤ k)
    (f : Addr) (cdv : Value) (A : Around) (outer : List Env) (s : Shared) (H : Hp) (E : XK) (hr : Room k (A.deeper (envOfC "never_more" (defScope s_never_more) s.heap.objs.size f cdv))) (hgd : A.guards = some []) :
    JBX (cxOf (L2N.CX P w) P w K mg base N_never_more "never_more" (defScope s_never_more) f cdv A outer s H E) (E (.ref (adr (mg "Unfit"))) none) (defBody s_never_more) (b_never_more c_more_situation) := by
  have scND := sc_never_more.nd
  exact (jbx_one (jsx_ret (rex_is (rex_call C_more_situation (hr.mono l_more_situation) hgd takesD (ra_cons (re_var 0) (ra_cons (re_var 1) ra_nil))))))
def v_never_more (c_more_situation : VCon) : VS :=
  (vRet (vIsX (vF c_more_situation (vCons (vVar 0) (vCons (vVar 1) vN)))))
theorem sim_never_more (T : Vl.Tok) (c_more_situation : VCon) : SimS T (b_never_more (conV T c_more_situation)) (v_never_more c_more_situation) :=
  (sim_ret (sim_isX (sim_F (simA_cons (sim_var 0) (simA_cons (sim_var 1) simA_nil)))))
theorem C_never_more {P : Program} {w : World} {K : PySem.W.Frag} {mg : Str → Option Value} {base : Heap} {T : Vl.Tok} (D : Txt K mg) (hS : SM base) (hX : XcF P K mg "Unfit" "MarkError") (d : Def K mg "never_more" P_never_more s_never_more) {k : Nat} (l0 : 1 ≤ k) {c_more_situation : VCon} {k_more_situation : Nat} (C_more_situation : CalleeX P w K mg base (adr (mg "Unfit")) "more_situation" P_more_situation s_more_situation k_more_situation (conV T c_more_situation)) (l_more_situation : k_more_situation ≤ k) {c : VCon} (hlen : ∀ us m Q, c us m Q → us.length = 2)
    (hv : ∀ us m Q, c us m Q → v_never_more c_more_situation ⟨us.map toX ++ List.replicate (2 - us.length) none, m⟩ (vEnd Q)) : CalleeX P w K mg base (adr (mg "Unfit")) "never_more" P_never_more s_never_more (k + 1) (conV T c) :=
  calleeX_of d sc_never_more (fun xs S0 P h => conV_len hlen xs S0 P h) (jb_never_more D hS hX l0 C_more_situation l_more_situation) (pl_of (sim_never_more T _) hv)
/-! marks_of_situations -/
theorem sc_marks_of_situations : FnScope N_marks_of_situations P_marks_of_situations (defScope s_marks_of_situations) := ⟨rfl, rfl, rfl, by decide +kernel, rfl, by decide +kernel, by decide +kernel⟩
def b_marks_of_situations : WS :=
  (wSq (wPar3 1 2 3 (wCons (wKd kv_MARKS (wOp fIx (wVar 0) (wC c_READERS))) (wCons (wKd kv_MARKS (wOp fIx (wVar 0) (wC c_FURTHER))) (wCons (wKd kv_MARKS (wOp fIx (wVar 0) (wC c_CHANGE))) wNil))))
    (wRet (wTup (wCons (wTup (wCons (wC (.str "written")) (wCons (wVar 1) wNil))) (wCons (wTup (wCons (wC (.str "further")) (wCons (wVar 2) wNil))) (wCons (wTup (wCons (wC (.str "both")) (wCons (wCall bMax (wCons (wVar 1) (wCons (wVar 2) wNil))) wNil))) (wCons (wTup (wCons (wC (.str "changed")) (wCons (wCall bMax (wCons (wVar 2) (wCons (wVar 3) wNil))) wNil))) (wCons (wTup (wCons (wC (.str "every")) (wCons (wCall bMax3 (wCons (wVar 1) (wCons (wVar 2) (wCons (wVar 3) wNil)))) wNil))) wNil))))))))
theorem jb_marks_of_situations {P : Program} {w : World} {K : PySem.W.Frag} {mg : Str → Option Value} {base : Heap} (T : Txt K mg) (hS : SM base) (hM : DctF w K mg) {k : Nat}
    (f : Addr) (cdv : Value) (A : Around) (outer : List Env) (s : Shared) (H : Hp) (E : XK) (hr : Room k (A.deeper (envOfC "marks_of_situations" (defScope s_marks_of_situations) s.heap.objs.size f cdv))) (hgd : A.guards = some []) :
    JB (cxOf CX0 P w K mg base N_marks_of_situations "marks_of_situations" (defScope s_marks_of_situations) f cdv A outer s H E).nox (defBody s_marks_of_situations) (b_marks_of_situations) := by
  have scND := sc_marks_of_situations.nd
  exact (jb_cons (js_par3 1 2 3 rfl scND (ra_cons (re_kd hM.m_MARKS rfl (re_ix (re_var 0) (re_glob (T.c_READERS rfl rfl) rfl))) (ra_cons (re_kd hM.m_MARKS rfl (re_ix (re_var 0) (re_glob (T.c_FURTHER rfl rfl) rfl))) (ra_cons (re_kd hM.m_MARKS rfl (re_ix (re_var 0) (re_glob (T.c_CHANGE rfl rfl) rfl))) ra_nil))))
    (jb_one (js_ret (re_tup (ra_cons (re_tup (ra_cons re_str (ra_cons (re_var 1) ra_nil))) (ra_cons (re_tup (ra_cons re_str (ra_cons (re_var 2) ra_nil))) (ra_cons (re_tup (ra_cons re_str (ra_cons (re_callB (call_bMax rfl) rfl T.n_max bt_max (ra_cons (re_var 1) (ra_cons (re_var 2) ra_nil))) ra_nil))) (ra_cons (re_tup (ra_cons re_str (ra_cons (re_callB (call_bMax rfl) rfl T.n_max bt_max (ra_cons (re_var 2) (ra_cons (re_var 3) ra_nil))) ra_nil))) (ra_cons (re_tup (ra_cons re_str (ra_cons (re_callB (call_bMax3 rfl) rfl T.n_max bt_max (ra_cons (re_var 1) (ra_cons (re_var 2) (ra_cons (re_var 3) ra_nil)))) ra_nil))) ra_nil)))))))))
def v_marks_of_situations : VS :=
  (vSq (vPar3 1 2 3 (vCons (vKd dv_MARKS (vOp vIx (vVar 0) (vC d_READERS))) (vCons (vKd dv_MARKS (vOp vIx (vVar 0) (vC d_FURTHER))) (vCons (vKd dv_MARKS (vOp vIx (vVar 0) (vC d_CHANGE))) vN))))
    (vRet (vTup (vCons (vTup (vCons (vC (.str "written")) (vCons (vVar 1) vN))) (vCons (vTup (vCons (vC (.str "further")) (vCons (vVar 2) vN))) (vCons (vTup (vCons (vC (.str "both")) (vCons (vCall vMax (vCons (vVar 1) (vCons (vVar 2) vN))) vN))) (vCons (vTup (vCons (vC (.str "changed")) (vCons (vCall vMax (vCons (vVar 2) (vCons (vVar 3) vN))) vN))) (vCons (vTup (vCons (vC (.str "every")) (vCons (vCall vMax3 (vCons (vVar 1) (vCons (vVar 2) (vCons (vVar 3) vN)))) vN))) vN))))))))
theorem sim_marks_of_situations (T : Vl.Tok) : SimS T (b_marks_of_situations) (v_marks_of_situations) :=
  (sim_sq (sim_par3 1 2 3 (simA_cons (sim_kd kd_MARKS (sim_op sim_ix (sim_var 0) (sim_k k_READERS))) (simA_cons (sim_kd kd_MARKS (sim_op sim_ix (sim_var 0) (sim_k k_FURTHER))) (simA_cons (sim_kd kd_MARKS (sim_op sim_ix (sim_var 0) (sim_k k_CHANGE))) simA_nil))))
    (sim_ret (sim_tup (simA_cons (sim_tup (simA_cons sim_str (simA_cons (sim_var 1) simA_nil))) (simA_cons (sim_tup (simA_cons sim_str (simA_cons (sim_var 2) simA_nil))) (simA_cons (sim_tup (simA_cons sim_str (simA_cons (sim_call sim_max (simA_cons (sim_var 1) (simA_cons (sim_var 2) simA_nil))) simA_nil))) (simA_cons (sim_tup (simA_cons sim_str (simA_cons (sim_call sim_max (simA_cons (sim_var 2) (simA_cons (sim_var 3) simA_nil))) simA_nil))) (simA_cons (sim_tup (simA_cons sim_str (simA_cons (sim_call sim_max3 (simA_cons (sim_var 1) (simA_cons (sim_var 2) (simA_cons (sim_var 3) simA_nil)))) simA_nil))) simA_nil))))))))
theorem C_marks_of_situations {P : Program} {w : World} {K : PySem.W.Frag} {mg : Str → Option Value} {base : Heap} {T : Vl.Tok} (D : Txt K mg) (hS : SM base) (hM : DctF w K mg) (d : Def K mg "marks_of_situations" P_marks_of_situations s_marks_of_situations) {k : Nat} {c : VCon} (hlen : ∀ us m Q, c us m Q → us.length = 1)
    (hv : ∀ us m Q, c us m Q → v_marks_of_situations ⟨us.map toX ++ List.replicate (4 - us.length) none, m⟩ (vEnd Q)) : Callee P w K mg base "marks_of_situations" P_marks_of_situations s_marks_of_situations (k + 1) (conV T c) :=
  callee_of d sc_marks_of_situations (fun xs S0 P h => conV_len hlen xs S0 P h) (jb_marks_of_situations D hS hM) (pl_of (sim_marks_of_situations T) hv)
/-! works_at -/
theorem sc_works_at : FnScope N_works_at P_works_at (defScope s_works_at) := ⟨rfl, rfl, rfl, by decide +kernel, rfl, by decide +kernel, by decide +kernel⟩
def b_works_at : WS :=
  (wSq (wSet 2 (wIf (wB (wOp fEq (wVar 1) (wC (.int 1)))) (wOp fIx (wVar 0) (wC c_PERHAPS)) (wOp fIx (wVar 0) (wC c_SURE))))
    (wRet (wOr (wOp fEq (wVar 2) (wC (.str "work"))) (wAnd (wOp fEq (wVar 1) (wC (.int 2))) (wAnd (wOp fEq (wVar 2) (wC (.str "check"))) (wOp fEq (wOp fIx (wVar 0) (wC c_CHECK)) (wC (.str "mark"))))))))
theorem jb_works_at {P : Program} {w : World} {K : PySem.W.Frag} {mg : Str → Option Value} {base : Heap} (T : Txt K mg) (hS : SM base) {k : Nat}
    (f : Addr) (cdv : Value) (A : Around) (outer : List Env) (s : Shared) (H : Hp) (E : XK) (hr : Room k (A.deeper (envOfC "works_at" (defScope s_works_at) s.heap.objs.size f cdv))) (hgd : A.guards = some []) :
    JB (cxOf CX0 P w K mg base N_works_at "works_at" (defScope s_works_at) f cdv A outer s H E).nox (defBody s_works_at) (b_works_at) := by
  have scND := sc_works_at.nd
  exact (jb_cons (js_set 2 scND (re_if (rt_cmp (op_fEq hr.units) (re_var 1) re_int (by rfl)) (re_ix (re_var 0) (re_glob (T.c_PERHAPS rfl rfl) rfl)) (re_ix (re_var 0) (re_glob (T.c_SURE rfl rfl) rfl))))
    (jb_one (js_ret (re_or (re_cmp (op_fEq hr.units) (re_var 2) re_str (by rfl)) (re_one (re_and (re_cmp (op_fEq hr.units) (re_var 1) re_int (by rfl)) (re_and (re_cmp (op_fEq hr.units) (re_var 2) re_str (by rfl)) (re_one (re_cmp (op_fEq hr.units) (re_ix (re_var 0) (re_glob (T.c_CHECK rfl rfl) rfl)) re_str (by rfl))))))))))
def v_works_at : VS :=
  (vSq (vSet 2 (vIf (vB (vOp vEq (vVar 1) (vC (.int 1)))) (vOp vIx (vVar 0) (vC d_PERHAPS)) (vOp vIx (vVar 0) (vC d_SURE))))
    (vRet (vOr (vOp vEq (vVar 2) (vC (.str "work"))) (vAnd (vOp vEq (vVar 1) (vC (.int 2))) (vAnd (vOp vEq (vVar 2) (vC (.str "check"))) (vOp vEq (vOp vIx (vVar 0) (vC d_CHECK)) (vC (.str "mark"))))))))
theorem sim_works_at (T : Vl.Tok) : SimS T (b_works_at) (v_works_at) :=
  (sim_sq (sim_set 2 (sim_if (sim_B (sim_op sim_eq (sim_var 1) sim_int)) (sim_op sim_ix (sim_var 0) (sim_k k_PERHAPS)) (sim_op sim_ix (sim_var 0) (sim_k k_SURE))))
    (sim_ret (sim_or (sim_op sim_eq (sim_var 2) sim_str) (sim_and (sim_op sim_eq (sim_var 1) sim_int) (sim_and (sim_op sim_eq (sim_var 2) sim_str) (sim_op sim_eq (sim_op sim_ix (sim_var 0) (sim_k k_CHECK)) sim_str))))))
theorem C_works_at {P : Program} {w : World} {K : PySem.W.Frag} {mg : Str → Option Value} {base : Heap} {T : Vl.Tok} (D : Txt K mg) (hS : SM base) (d : Def K mg "works_at" P_works_at s_works_at) {k : Nat} {c : VCon} (hlen : ∀ us m Q, c us m Q → us.length = 2)
    (hv : ∀ us m Q, c us m Q → v_works_at ⟨us.map toX ++ List.replicate (3 - us.length) none, m⟩ (vEnd Q)) : Callee P w K mg base "works_at" P_works_at s_works_at (k + 1) (conV T c) :=
  callee_of d sc_works_at (fun xs S0 P h => conV_len hlen xs S0 P h) (jb_works_at D hS) (pl_of (sim_works_at T) hv)
/-! more_situation -/
theorem sc_more_situation : FnScope N_more_situation P_more_situation (defScope s_more_situation) := ⟨rfl, rfl, rfl, by decide +kernel, rfl, by decide +kernel, by decide +kernel⟩
def b_more_situation (c_hasty : Con) : WS :=
  (wSq (wSetX 2 (wF c_hasty (wCons (wVar 0) wNil)))
    (wSq (wSetX 3 (wF c_hasty (wCons (wVar 1) wNil)))
    (wSq (wFor (wSeqI (wVar 2)) (gN 4) (wIfS (wB (wOp (fInY true) (wVar 4) (wVar 3))) (wRet (wVar 4)) wNx))
    (wRet (wC .non)))))
theorem jb_more_situation {P : Program} {w : World} {K : PySem.W.Frag} {mg : Str → Option Value} {base : Heap} (T : Txt K mg) (hS : SM base) (hX : XcF P K mg "Unfit" "MarkError") {k : Nat} (l0 : 1 ≤ k) {c_hasty : Con} {k_hasty : Nat} (C_hasty : CalleeX P w K mg base (adr (mg "Unfit")) "hasty" P_hasty s_hasty k_hasty c_hasty) (l_hasty : k_hasty ≤ k)
    (f : Addr) (cdv : Value) (A : Around) (outer : List Env) (s : Shared) (H : Hp) (E : XK) (hr : Room k (A.deeper (envOfC "more_situation" (defScope s_more_situation) s.heap.objs.size f cdv))) (hgd : A.guards = some []) :
    JBX (cxOf (L2N.CX P w) P w K mg base N_more_situation "more_situation" (defScope s_more_situation) f cdv A outer s H E) (E (.ref (adr (mg "Unfit"))) none) (defBody s_more_situation) (b_more_situation c_hasty) := by
  have scND := sc_more_situation.nd
  exact (jbx_cons (jsx_set 2 scND (rex_call C_hasty (hr.mono l_hasty) hgd takesD (ra_cons (re_var 0) ra_nil)))
    (jbx_cons (jsx_set 3 scND (rex_call C_hasty (hr.mono l_hasty) hgd takesD (ra_cons (re_var 1) ra_nil)))
    (jbx_cons (jsx_of (js_for PassesOwn.never rfl (ri_seq (re_var 2)) (rg_name 4 scND) (jb_one (js_if (rt_cmp (op_fNotInY hr.units) (re_var 4) (re_var 3) (by rfl)) (jb_one (js_ret (re_var 4))) jb_nil))))
    (jbx_one (jsx_of (js_ret re_non))))))
def v_more_situation (c_hasty : VCon) : VS :=
  (vSq (vSetX 2 (vF c_hasty (vCons (vVar 0) vN)))
    (vSq (vSetX 3 (vF c_hasty (vCons (vVar 1) vN)))
    (vSq (vFor (vSeq (vVar 2)) (hN 4) (vIfS (vB (vOp vNotInY (vVar 4) (vVar 3))) (vRet (vVar 4)) vNx))
    (vRet (vC .none)))))
theorem sim_more_situation (T : Vl.Tok) (c_hasty : VCon) : SimS T (b_more_situation (conV T c_hasty)) (v_more_situation c_hasty) :=
  (sim_sq (sim_setX 2 (sim_F (simA_cons (sim_var 0) simA_nil)))
    (sim_sq (sim_setX 3 (sim_F (simA_cons (sim_var 1) simA_nil)))
    (sim_sq (sim_for (sim_seq (sim_var 2)) (sim_gN 4) (sim_ifS (sim_B (sim_op sim_notInY (sim_var 4) (sim_var 3))) (sim_ret (sim_var 4)) sim_nx))
    (sim_ret sim_non))))
theorem C_more_situation {P : Program} {w : World} {K : PySem.W.Frag} {mg : Str → Option Value} {base : Heap} {T : Vl.Tok} (D : Txt K mg) (hS : SM base) (hX : XcF P K mg "Unfit" "MarkError") (d : Def K mg "more_situation" P_more_situation s_more_situation) {k : Nat} (l0 : 1 ≤ k) {c_hasty : VCon} {k_hasty : Nat} (C_hasty : CalleeX P w K mg base (adr (mg "Unfit")) "hasty" P_hasty s_hasty k_hasty (conV T c_hasty)) (l_hasty : k_hasty ≤ k) {c : VCon} (hlen : ∀ us m Q, c us m Q → us.length = 2)
    (hv : ∀ us m Q, c us m Q → v_more_situation c_hasty ⟨us.map toX ++ List.replicate (5 - us.length) none, m⟩ (vEnd Q)) : CalleeX P w K mg base (adr (mg "Unfit")) "more_situation" P_more_situation s_more_situation (k + 1) (conV T c) :=
  calleeX_of d sc_more_situation (fun xs S0 P h => conV_len hlen xs S0 P h) (jb_more_situation D hS hX l0 C_hasty l_hasty) (pl_of (sim_more_situation T _) hv)
/-! _law_bag -/
theorem sc_law_bag : FnScope N_law_bag P_law_bag (defScope s_law_bag) := ⟨rfl, rfl, rfl, by decide +kernel, rfl, by decide +kernel, by decide +kernel⟩
def b_law_bag : WS :=
  (wSq (wPar 1 2 (wCons (wLc (wSeqI (wSl (wVar 0) wNoP (wP (wC (.int 63))))) (gN 3) wYes (wOp fAdd (wOp (fI gMul) (wC (.int 2)) (wCall bAbs (wCons (wVar 3) wNil))) (wCall bInt (wCons (wOp fLt (wVar 3) (wC (.int 0))) wNil))) [3]) (wCons (wOp fAdd (wC (.int 15746)) (wCall bLen (wCons (wVar 0) wNil))) wNil)))
    (wSq (wFor (wSeqI (wVar 1)) (gN 3) (wSet 2 (wOp (fI gMod) (wCall bInt (wCons (wOp fAdd (wOp fAdd (wOp (fI gMul) (wVar 2) (wC (.int 48271))) (wVar 3)) (wC (.int 11))) wNil)) (wC (.int 4294967291)))))
    (wRet (wDict [((.inr "far"), (wLc (wSeqI (wVar 1)) (gN 3) (wB (wOp fGe (wVar 3) (wOp (fI gPow) (wC (.int 10)) (wC (.int 15))))) (wVar 3) [3])), ((.inr "stirred"), (wVar 2)), ((.inr "turn"), (wC (.int 0)))]))))
theorem jb_law_bag {P : Program} {w : World} {K : PySem.W.Frag} {mg : Str → Option Value} {base : Heap} (T : Txt K mg) (hS : SM base) {k : Nat}
    (f : Addr) (cdv : Value) (A : Around) (outer : List Env) (s : Shared) (H : Hp) (E : XK) (hr : Room k (A.deeper (envOfC "_law_bag" (defScope s_law_bag) s.heap.objs.size f cdv))) (hgd : A.guards = some []) :
    JB (cxOf CX0 P w K mg base N_law_bag "_law_bag" (defScope s_law_bag) f cdv A outer s H E).nox (defBody s_law_bag) (b_law_bag) := by
  have scND := sc_law_bag.nd
  exact (jb_cons (js_par 1 2 rfl scND (ra_cons (re_lc (own := [("cell", 3)]) rfl scND (ri_seq (re_slice (re_var 0) ro_none (ro_some re_int))) (blkOk_by (N := N_law_bag) (sc := defScope s_law_bag) (by decide +kernel)) (by decide) (fun _ _ _ _ _ => (rg_name 3 scND)) (fun _ _ _ _ _ => rts_nil) (fun _ _ _ _ _ => (re_bin op_fAdd (re_bin op_fMul re_int (re_callB call_bAbs rfl T.n_abs bt_abs (ra_cons (re_var 3) ra_nil))) (re_callTy call_bInt rfl T.n_int bt_int (ra_cons (re_cmp op_fLt (re_var 3) re_int (by rfl)) ra_nil))))) (ra_cons (re_bin op_fAdd re_int (re_callB call_bLen rfl T.n_len bt_len (ra_cons (re_var 0) ra_nil))) ra_nil)))
    (jb_cons (js_for PassesOwn.never rfl (ri_seq (re_var 1)) (rg_name 3 scND) (jb_one (js_set 2 scND (re_bin op_fMod (re_callTy call_bInt rfl T.n_int bt_int (ra_cons (re_bin op_fAdd (re_bin op_fAdd (re_bin op_fMul (re_var 2) re_int) (re_var 3)) re_int) ra_nil)) re_int))))
    (jb_one (js_ret (re_dict (RPs.cons (k := (.inr "far")) (re_lc (own := [("cell", 3)]) rfl scND (ri_seq (re_var 1)) (blkOk_by (N := N_law_bag) (sc := defScope s_law_bag) (by decide +kernel)) (by decide) (fun _ _ _ _ _ => (rg_name 3 scND)) (fun _ _ _ _ _ => (rts_one (rt_cmp op_fGe (re_var 3) (re_bin op_fPow re_int re_int) (by rfl)))) (fun _ _ _ _ _ => (re_var 3))) (RPs.cons (k := (.inr "stirred")) (re_var 2) (RPs.cons (k := (.inr "turn")) re_int RPs.nil))))))))
/-! _law_draw -/
theorem sc_law_draw : FnScope N_law_draw P_law_draw (defScope s_law_draw) := ⟨rfl, rfl, rfl, by decide +kernel, rfl, by decide +kernel, by decide +kernel⟩
def b_law_draw : WS :=
  (wSq (wSet 2 (wOp fGet (wVar 0) (wC (.str "far"))))
    (wSq (wIfS (wB (wOp fNe (wVar 2) (wLst wNil))) (wSq (wSet 5 (wM "list" (onL gPop) (wVar 2) (wCons (wC (.int 0)) wNil)))
    (wSq (wIfS (wB (wOp fGe (wVar 5) (wVar 1))) (wDrop (wM "list" (onL gInsert) (wVar 2) (wCons (wC (.int 0)) (wCons (wOp (fI gDiv) (wVar 5) (wVar 1)) wNil)))) wNx)
    (wRet (wOp (fI gMod) (wCall bInt (wCons (wVar 5) wNil)) (wVar 1))))) wNx)
    (wSq (wDPut (wVar 0) (wC (.str "turn")) (wOp fAdd (wOp fGet (wVar 0) (wC (.str "turn"))) (wC (.int 1))))
    (wSq (wSet 3 (wOp fGet (wVar 0) (wC (.str "turn"))))
    (wSq (wSet 4 (wOp (fI gMod) (wCall bInt (wCons (wOp fAdd (wOp fAdd (wOp (fI gMul) (wOp fGet (wVar 0) (wC (.str "stirred"))) (wC (.int 69621))) (wOp (fI gMul) (wOp (fI gMul) (wVar 3) (wVar 3)) (wC (.int 7)))) (wOp (fI gMul) (wC (.int 104729)) (wVar 3))) wNil)) (wC (.int 4294967279))))
    (wSq (wSet 4 (wOp (fI gMod) (wCall bInt (wCons (wOp fAdd (wOp (fI gMul) (wVar 4) (wC (.int 48271))) (wOp (fI gDiv) (wVar 4) (wC (.int 65536)))) wNil)) (wC (.int 4294967291))))
    (wSq (wDPut (wVar 0) (wC (.str "stirred")) (wVar 4))
    (wRet (wOp (fI gMod) (wCall bInt (wCons (wOp (fI gDiv) (wVar 4) (wC (.int 1024))) wNil)) (wVar 1))))))))))
theorem jb_law_draw {P : Program} {w : World} {K : PySem.W.Frag} {mg : Str → Option Value} {base : Heap} (T : Txt K mg) (hS : SM base) {k : Nat}
    (f : Addr) (cdv : Value) (A : Around) (outer : List Env) (s : Shared) (H : Hp) (E : XK) (hr : Room k (A.deeper (envOfC "_law_draw" (defScope s_law_draw) s.heap.objs.size f cdv))) (hgd : A.guards = some []) :
    JB (cxOf CX0 P w K mg base N_law_draw "_law_draw" (defScope s_law_draw) f cdv A outer s H E).nox (defBody s_law_draw) (b_law_draw) := by
  have scND := sc_law_draw.nd
  exact (jb_cons (js_set 2 scND (re_dget (hu_of hr) (re_var 0) re_str))
    (jb_cons (js_if (rt_cmp (op_fNe hr.units) (re_var 2) (re_lst ra_nil) (by rfl)) (jb_cons (js_set 5 scND (re_m PySem.F.plainAttrs_list PySem.F.slot_list_pop PySem.F.type_list_pop mt_gPop (re_var 2) (ra_cons re_int ra_nil)))
    (jb_cons (js_if (rt_cmp op_fGe (re_var 5) (re_var 1) (by rfl)) (jb_one (js_expr (re_m PySem.F.plainAttrs_list PySem.F.slot_list_insert PySem.F.type_list_insert mt_gInsert (re_var 2) (ra_cons re_int (ra_cons (re_bin op_fDiv (re_var 5) (re_var 1)) ra_nil))))) jb_nil)
    (jb_one (js_ret (re_bin op_fMod (re_callTy call_bInt rfl T.n_int bt_int (ra_cons (re_var 5) ra_nil)) (re_var 1)))))) jb_nil)
    (jb_cons (js_dput (hu_of hr) (re_bin op_fAdd (re_dget (hu_of hr) (re_var 0) re_str) re_int) (re_var 0) re_str)
    (jb_cons (js_set 3 scND (re_dget (hu_of hr) (re_var 0) re_str))
    (jb_cons (js_set 4 scND (re_bin op_fMod (re_callTy call_bInt rfl T.n_int bt_int (ra_cons (re_bin op_fAdd (re_bin op_fAdd (re_bin op_fMul (re_dget (hu_of hr) (re_var 0) re_str) re_int) (re_bin op_fMul (re_bin op_fMul (re_var 3) (re_var 3)) re_int)) (re_bin op_fMul re_int (re_var 3))) ra_nil)) re_int))
    (jb_cons (js_set 4 scND (re_bin op_fMod (re_callTy call_bInt rfl T.n_int bt_int (ra_cons (re_bin op_fAdd (re_bin op_fMul (re_var 4) re_int) (re_bin op_fDiv (re_var 4) re_int)) ra_nil)) re_int))
    (jb_cons (js_dput (hu_of hr) (re_var 4) (re_var 0) re_str)
    (jb_one (js_ret (re_bin op_fMod (re_callTy call_bInt rfl T.n_int bt_int (ra_cons (re_bin op_fDiv (re_var 4) re_int) ra_nil)) (re_var 1)))))))))))
/-! _law_pick -/
theorem sc_law_pick : FnScope N_law_pick P_law_pick (defScope s_law_pick) := ⟨rfl, rfl, rfl, by decide +kernel, rfl, by decide +kernel, by decide +kernel⟩
def b_law_pick (c_law_draw : Con) : WS :=
  (wRet (wOp fIx (wVar 1) (wF c_law_draw (wCons (wVar 0) (wCons (wCall bLen (wCons (wVar 1) wNil)) wNil)))))
theorem jb_law_pick {P : Program} {w : World} {K : PySem.W.Frag} {mg : Str → Option Value} {base : Heap} (T : Txt K mg) (hS : SM base) {k : Nat} {c_law_draw : Con} {k_law_draw : Nat} (C_law_draw : Callee P w K mg base "_law_draw" P_law_draw s_law_draw k_law_draw c_law_draw) (l_law_draw : k_law_draw ≤ k)
    (f : Addr) (cdv : Value) (A : Around) (outer : List Env) (s : Shared) (H : Hp) (E : XK) (hr : Room k (A.deeper (envOfC "_law_pick" (defScope s_law_pick) s.heap.objs.size f cdv))) (hgd : A.guards = some []) :
    JB (cxOf CX0 P w K mg base N_law_pick "_law_pick" (defScope s_law_pick) f cdv A outer s H E).nox (defBody s_law_pick) (b_law_pick c_law_draw) := by
  have scND := sc_law_pick.nd
  exact (jb_one (js_ret (re_ix (re_var 1) (re_callee C_law_draw (hr.mono l_law_draw) hgd (ra_cons (re_var 0) (ra_cons (re_callB call_bLen rfl T.n_len bt_len (ra_cons (re_var 1) ra_nil)) ra_nil)) pass0))))
def v_law_pick (c_law_draw : VCon) : VS :=
  (vRet (vOp vIx (vVar 1) (vF c_law_draw (vCons (vVar 0) (vCons (vCall vLen (vCons (vVar 1) vN)) vN)))))
theorem sim_law_pick (T : Vl.Tok) (c_law_draw : VCon) : SimS T (b_law_pick (conV T c_law_draw)) (v_law_pick c_law_draw) :=
  (sim_ret (sim_op sim_ix (sim_var 1) (sim_F (simA_cons (sim_var 0) (simA_cons (sim_call sim_len (simA_cons (sim_var 1) simA_nil)) simA_nil)))))
theorem C_law_pick {P : Program} {w : World} {K : PySem.W.Frag} {mg : Str → Option Value} {base : Heap} {T : Vl.Tok} (D : Txt K mg) (hS : SM base) (d : Def K mg "_law_pick" P_law_pick s_law_pick) {k : Nat} {c_law_draw : VCon} {k_law_draw : Nat} (C_law_draw : Callee P w K mg base "_law_draw" P_law_draw s_law_draw k_law_draw (conV T c_law_draw)) (l_law_draw : k_law_draw ≤ k) {c : VCon} (hlen : ∀ us m Q, c us m Q → us.length = 2)
    (hv : ∀ us m Q, c us m Q → v_law_pick c_law_draw ⟨us.map toX ++ List.replicate (2 - us.length) none, m⟩ (vEnd Q)) : Callee P w K mg base "_law_pick" P_law_pick s_law_pick (k + 1) (conV T c) :=
  callee_of d sc_law_pick (fun xs S0 P h => conV_len hlen xs S0 P h) (jb_law_pick D hS C_law_draw l_law_draw) (pl_of (sim_law_pick T _) hv)
/-! _law_words -/
theorem sc_law_words : FnScope N_law_words P_law_words (defScope s_law_words) := ⟨rfl, rfl, rfl, by decide +kernel, rfl, by decide +kernel, by decide +kernel⟩
def b_law_words : WS :=
  (wSq (wAsg (wTup (wCons (wTup (wCons (wC (.str "none")) (wCons (wC (.str "perhaps")) (wCons (wC (.str "sure")) wNil)))) (wCons (wTup (wCons (wC (.str "answer")) (wCons (wC (.str "check")) (wCons (wC (.str "work")) wNil)))) wNil))) (gT (gsC (gN 0) (gsC (gN 1) gsN))))
    (wSq (wSet 2 (wLst (wCons (wVar 0) (wCons (wVar 0) (wCons (wTup (wCons (wC (.str "marked")) (wCons (wC (.str "unraised")) (wCons (wC (.str "never")) wNil)))) (wCons (wVar 1) (wCons (wVar 1) (wCons (wTup (wCons (wC (.str "values")) (wCons (wC (.str "mark")) wNil))) (wCons (wTup (wCons (wC (.str "none")) (wCons (wC (.str "sure")) wNil))) wNil)))))))))
    (wSq (wSet 2 (wOp fAdd (wVar 2) (wLst (wCons (wTup (wCons (wC (.str "first")) (wCons (wC (.str "last")) (wCons (wC (.str "between")) wNil)))) (wCons (wTup (wCons (wC (.str "ahead")) (wCons (wC (.str "behind")) (wCons (wC (.str "unless")) wNil)))) (wCons (wTup (wCons (wC (.str "ahead")) (wCons (wC (.str "behind")) wNil))) wNil))))))
    (wRet (wOp fAdd (wVar 2) (wLst (wCons (wTup (wCons (wC (.str "struck")) (wCons (wC (.str "kept")) wNil))) (wCons (wTup (wCons (wC (.str "one")) (wCons (wC (.str "any")) wNil))) wNil))))))))
theorem jb_law_words {P : Program} {w : World} {K : PySem.W.Frag} {mg : Str → Option Value} {base : Heap} (T : Txt K mg) (hS : SM base) {k : Nat}
    (f : Addr) (cdv : Value) (A : Around) (outer : List Env) (s : Shared) (H : Hp) (E : XK) (hr : Room k (A.deeper (envOfC "_law_words" (defScope s_law_words) s.heap.objs.size f cdv))) (hgd : A.guards = some []) :
    JB (cxOf CX0 P w K mg base N_law_words "_law_words" (defScope s_law_words) f cdv A outer s H E).nox (defBody s_law_words) (b_law_words) := by
  have scND := sc_law_words.nd
  exact (jb_cons (js_asg (re_tup (ra_cons (re_tup (ra_cons re_str (ra_cons re_str (ra_cons re_str ra_nil)))) (ra_cons (re_tup (ra_cons re_str (ra_cons re_str (ra_cons re_str ra_nil)))) ra_nil))) (rg_tup rfl (rgs_cons (rg_name 0 scND) (rgs_cons (rg_name 1 scND) rgs_nil))))
    (jb_cons (js_set 2 scND (re_lst (ra_cons (re_var 0) (ra_cons (re_var 0) (ra_cons (re_tup (ra_cons re_str (ra_cons re_str (ra_cons re_str ra_nil)))) (ra_cons (re_var 1) (ra_cons (re_var 1) (ra_cons (re_tup (ra_cons re_str (ra_cons re_str ra_nil))) (ra_cons (re_tup (ra_cons re_str (ra_cons re_str ra_nil))) ra_nil)))))))))
    (jb_cons (js_set 2 scND (re_bin op_fAdd (re_var 2) (re_lst (ra_cons (re_tup (ra_cons re_str (ra_cons re_str (ra_cons re_str ra_nil)))) (ra_cons (re_tup (ra_cons re_str (ra_cons re_str (ra_cons re_str ra_nil)))) (ra_cons (re_tup (ra_cons re_str (ra_cons re_str ra_nil))) ra_nil))))))
    (jb_one (js_ret (re_bin op_fAdd (re_var 2) (re_lst (ra_cons (re_tup (ra_cons re_str (ra_cons re_str ra_nil))) (ra_cons (re_tup (ra_cons re_str (ra_cons re_str ra_nil))) ra_nil)))))))))
def v_law_words : VS :=
  (vSq (vAsg (vTup (vCons (vTup (vCons (vC (.str "none")) (vCons (vC (.str "perhaps")) (vCons (vC (.str "sure")) vN)))) (vCons (vTup (vCons (vC (.str "answer")) (vCons (vC (.str "check")) (vCons (vC (.str "work")) vN)))) vN))) (hT (hsC (hN 0) (hsC (hN 1) hsN))))
    (vSq (vSet 2 (vLst (vCons (vVar 0) (vCons (vVar 0) (vCons (vTup (vCons (vC (.str "marked")) (vCons (vC (.str "unraised")) (vCons (vC (.str "never")) vN)))) (vCons (vVar 1) (vCons (vVar 1) (vCons (vTup (vCons (vC (.str "values")) (vCons (vC (.str "mark")) vN))) (vCons (vTup (vCons (vC (.str "none")) (vCons (vC (.str "sure")) vN))) vN)))))))))
    (vSq (vSet 2 (vOp vAdd (vVar 2) (vLst (vCons (vTup (vCons (vC (.str "first")) (vCons (vC (.str "last")) (vCons (vC (.str "between")) vN)))) (vCons (vTup (vCons (vC (.str "ahead")) (vCons (vC (.str "behind")) (vCons (vC (.str "unless")) vN)))) (vCons (vTup (vCons (vC (.str "ahead")) (vCons (vC (.str "behind")) vN))) vN))))))
    (vRet (vOp vAdd (vVar 2) (vLst (vCons (vTup (vCons (vC (.str "struck")) (vCons (vC (.str "kept")) vN))) (vCons (vTup (vCons (vC (.str "one")) (vCons (vC (.str "any")) vN))) vN))))))))
theorem sim_law_words (T : Vl.Tok) : SimS T (b_law_words) (v_law_words) :=
  (sim_sq (sim_asg (sim_tup (simA_cons (sim_tup (simA_cons sim_str (simA_cons sim_str (simA_cons sim_str simA_nil)))) (simA_cons (sim_tup (simA_cons sim_str (simA_cons sim_str (simA_cons sim_str simA_nil)))) simA_nil))) (sim_gT (sim_gsC (sim_gN 0) (sim_gsC (sim_gN 1) sim_gsN))))
    (sim_sq (sim_set 2 (sim_lst (simA_cons (sim_var 0) (simA_cons (sim_var 0) (simA_cons (sim_tup (simA_cons sim_str (simA_cons sim_str (simA_cons sim_str simA_nil)))) (simA_cons (sim_var 1) (simA_cons (sim_var 1) (simA_cons (sim_tup (simA_cons sim_str (simA_cons sim_str simA_nil))) (simA_cons (sim_tup (simA_cons sim_str (simA_cons sim_str simA_nil))) simA_nil)))))))))
    (sim_sq (sim_set 2 (sim_op sim_add (sim_var 2) (sim_lst (simA_cons (sim_tup (simA_cons sim_str (simA_cons sim_str (simA_cons sim_str simA_nil)))) (simA_cons (sim_tup (simA_cons sim_str (simA_cons sim_str (simA_cons sim_str simA_nil)))) (simA_cons (sim_tup (simA_cons sim_str (simA_cons sim_str simA_nil))) simA_nil))))))
    (sim_ret (sim_op sim_add (sim_var 2) (sim_lst (simA_cons (sim_tup (simA_cons sim_str (simA_cons sim_str simA_nil))) (simA_cons (sim_tup (simA_cons sim_str (simA_cons sim_str simA_nil))) simA_nil))))))))
theorem C_law_words {P : Program} {w : World} {K : PySem.W.Frag} {mg : Str → Option Value} {base : Heap} {T : Vl.Tok} (D : Txt K mg) (hS : SM base) (d : Def K mg "_law_words" P_law_words s_law_words) {k : Nat} {c : VCon} (hlen : ∀ us m Q, c us m Q → us.length = 0)
    (hv : ∀ us m Q, c us m Q → v_law_words ⟨us.map toX ++ List.replicate (3 - us.length) none, m⟩ (vEnd Q)) : Callee P w K mg base "_law_words" P_law_words s_law_words (k + 1) (conV T c) :=
  callee_of d sc_law_words (fun xs S0 P h => conV_len hlen xs S0 P h) (jb_law_words D hS) (pl_of (sim_law_words T) hv)
/-! _law_mark -/
theorem sc_law_mark : FnScope N_law_mark P_law_mark (defScope s_law_mark) := ⟨rfl, rfl, rfl, by decide +kernel, rfl, by decide +kernel, by decide +kernel⟩
def b_law_mark : WS :=
  (wRet (wTIx (wCons (wC (.str "none")) (wCons (wC (.str "perhaps")) (wCons (wC (.str "sure")) wNil))) (wCons (wVar 0) wNil)))
theorem jb_law_mark {P : Program} {w : World} {K : PySem.W.Frag} {mg : Str → Option Value} {base : Heap} (T : Txt K mg) (hS : SM base) {k : Nat}
    (f : Addr) (cdv : Value) (A : Around) (outer : List Env) (s : Shared) (H : Hp) (E : XK) (hr : Room k (A.deeper (envOfC "_law_mark" (defScope s_law_mark) s.heap.objs.size f cdv))) (hgd : A.guards = some []) :
    JB (cxOf CX0 P w K mg base N_law_mark "_law_mark" (defScope s_law_mark) f cdv A outer s H E).nox (defBody s_law_mark) (b_law_mark) := by
  have scND := sc_law_mark.nd
  exact (jb_one (js_ret (re_tix (ra_cons re_str (ra_cons re_str (ra_cons re_str ra_nil))) (ra_cons (re_var 0) ra_nil))))
def v_law_mark : VS :=
  (vRet (vTIx (vCons (vC (.str "none")) (vCons (vC (.str "perhaps")) (vCons (vC (.str "sure")) vN))) (vCons (vVar 0) vN)))
theorem sim_law_mark (T : Vl.Tok) : SimS T (b_law_mark) (v_law_mark) :=
  (sim_ret (sim_tix (simA_cons sim_str (simA_cons sim_str (simA_cons sim_str simA_nil))) (simA_cons (sim_var 0) simA_nil)))
theorem C_law_mark {P : Program} {w : World} {K : PySem.W.Frag} {mg : Str → Option Value} {base : Heap} {T : Vl.Tok} (D : Txt K mg) (hS : SM base) (d : Def K mg "_law_mark" P_law_mark s_law_mark) {k : Nat} {c : VCon} (hlen : ∀ us m Q, c us m Q → us.length = 1)
    (hv : ∀ us m Q, c us m Q → v_law_mark ⟨us.map toX ++ List.replicate (1 - us.length) none, m⟩ (vEnd Q)) : Callee P w K mg base "_law_mark" P_law_mark s_law_mark (k + 1) (conV T c) :=
  callee_of d sc_law_mark (fun xs S0 P h => conV_len hlen xs S0 P h) (jb_law_mark D hS) (pl_of (sim_law_mark T) hv)
/-! _law_any_book -/
theorem sc_law_any_book : FnScope N_law_any_book P_law_any_book (defScope s_law_any_book) := ⟨rfl, rfl, rfl, by decide +kernel, rfl, by decide +kernel, by decide +kernel⟩
def b_law_any_book (c_law_words : Con) (c_law_pick : Con) : WS :=
  (wRet (wCall bTuple (wCons (wLc (wSeqI (wF c_law_words wNil)) (gN 1) wYes (wF c_law_pick (wCons (wVar 0) (wCons (wVar 1) wNil))) [1]) wNil)))
theorem jb_law_any_book {P : Program} {w : World} {K : PySem.W.Frag} {mg : Str → Option Value} {base : Heap} (T : Txt K mg) (hS : SM base) {k : Nat} {c_law_words : Con} {k_law_words : Nat} (C_law_words : Callee P w K mg base "_law_words" P_law_words s_law_words k_law_words c_law_words) (l_law_words : k_law_words ≤ k) {c_law_pick : Con} {k_law_pick : Nat} (C_law_pick : Callee P w K mg base "_law_pick" P_law_pick s_law_pick k_law_pick c_law_pick) (l_law_pick : k_law_pick ≤ k)
    (f : Addr) (cdv : Value) (A : Around) (outer : List Env) (s : Shared) (H : Hp) (E : XK) (hr : Room k (A.deeper (envOfC "_law_any_book" (defScope s_law_any_book) s.heap.objs.size f cdv))) (hgd : A.guards = some []) :
    JB (cxOf CX0 P w K mg base N_law_any_book "_law_any_book" (defScope s_law_any_book) f cdv A outer s H E).nox (defBody s_law_any_book) (b_law_any_book c_law_words c_law_pick) := by
  have scND := sc_law_any_book.nd
  exact (jb_one (js_ret (re_callTy call_bTuple rfl T.n_tuple bt_tuple (ra_cons (re_lc (own := [("row", 1)]) rfl scND (ri_seq (re_callee0 C_law_words (hr.mono l_law_words) hgd pass0)) (blkOk_by (N := N_law_any_book) (sc := defScope s_law_any_book) (by decide +kernel)) (by decide) (fun _ _ _ _ _ => (rg_name 1 scND)) (fun _ _ _ _ _ => rts_nil) (fun _ _ _ _ _ => (re_callee C_law_pick (hr.mono l_law_pick) hgd (ra_cons (re_var 0) (ra_cons (re_var 1) ra_nil)) pass0))) ra_nil))))
def v_law_any_book (c_law_words : VCon) (c_law_pick : VCon) : VS :=
  (vRet (vCall vTupleB (vCons (vLc (vSeq (vF c_law_words vN)) (hN 1) vYes (vF c_law_pick (vCons (vVar 0) (vCons (vVar 1) vN))) [1]) vN)))
theorem sim_law_any_book (T : Vl.Tok) (c_law_words : VCon) (c_law_pick : VCon) : SimS T (b_law_any_book (conV T c_law_words) (conV T c_law_pick)) (v_law_any_book c_law_words c_law_pick) :=
  (sim_ret (sim_call sim_tupleB (simA_cons (sim_lc (sim_seq (sim_F simA_nil)) (sim_gN 1) (by decide) sim_yes (sim_F (simA_cons (sim_var 0) (simA_cons (sim_var 1) simA_nil)))) simA_nil)))
theorem C_law_any_book {P : Program} {w : World} {K : PySem.W.Frag} {mg : Str → Option Value} {base : Heap} {T : Vl.Tok} (D : Txt K mg) (hS : SM base) (d : Def K mg "_law_any_book" P_law_any_book s_law_any_book) {k : Nat} {c_law_words : VCon} {k_law_words : Nat} (C_law_words : Callee P w K mg base "_law_words" P_law_words s_law_words k_law_words (conV T c_law_words)) (l_law_words : k_law_words ≤ k) {c_law_pick : VCon} {k_law_pick : Nat} (C_law_pick : Callee P w K mg base "_law_pick" P_law_pick s_law_pick k_law_pick (conV T c_law_pick)) (l_law_pick : k_law_pick ≤ k) {c : VCon} (hlen : ∀ us m Q, c us m Q → us.length = 1)
    (hv : ∀ us m Q, c us m Q → v_law_any_book c_law_words c_law_pick ⟨us.map toX ++ List.replicate (2 - us.length) none, m⟩ (vEnd Q)) : Callee P w K mg base "_law_any_book" P_law_any_book s_law_any_book (k + 1) (conV T c) :=
  callee_of d sc_law_any_book (fun xs S0 P h => conV_len hlen xs S0 P h) (jb_law_any_book D hS C_law_words l_law_words C_law_pick l_law_pick) (pl_of (sim_law_any_book T _ _) hv)
/-! _law_can_stand -/
theorem sc_law_can_stand : FnScope N_law_can_stand P_law_can_stand (defScope s_law_can_stand) := ⟨rfl, rfl, rfl, by decide +kernel, rfl, by decide +kernel, by decide +kernel⟩
def b_law_can_stand : WS :=
  (wRet (wTup (wCons (wOp (fInY false) (wC (.str "perhaps")) (wSl (wVar 0) wNoP (wP (wC (.int 2))))) (wCons (wOp (fInY false) (wC (.str "sure")) (wOp fAdd (wSl (wVar 0) wNoP (wP (wC (.int 2)))) (wSl (wVar 0) (wP (wC (.int 6))) (wP (wC (.int 7)))))) wNil))))
theorem jb_law_can_stand {P : Program} {w : World} {K : PySem.W.Frag} {mg : Str → Option Value} {base : Heap} (T : Txt K mg) (hS : SM base) {k : Nat}
    (f : Addr) (cdv : Value) (A : Around) (outer : List Env) (s : Shared) (H : Hp) (E : XK) (hr : Room k (A.deeper (envOfC "_law_can_stand" (defScope s_law_can_stand) s.heap.objs.size f cdv))) (hgd : A.guards = some []) :
    JB (cxOf CX0 P w K mg base N_law_can_stand "_law_can_stand" (defScope s_law_can_stand) f cdv A outer s H E).nox (defBody s_law_can_stand) (b_law_can_stand) := by
  have scND := sc_law_can_stand.nd
  exact (jb_one (js_ret (re_tup (ra_cons (re_cmp (op_fInY hr.units) re_str (re_slice (re_var 0) ro_none (ro_some re_int)) (by rfl)) (ra_cons (re_cmp (op_fInY hr.units) re_str (re_bin op_fAdd (re_slice (re_var 0) ro_none (ro_some re_int)) (re_slice (re_var 0) (ro_some re_int) (ro_some re_int))) (by rfl)) ra_nil)))))
def v_law_can_stand : VS :=
  (vRet (vTup (vCons (vOp vInY (vC (.str "perhaps")) (vSl (vVar 0) vNoP (vP (vC (.int 2))))) (vCons (vOp vInY (vC (.str "sure")) (vOp vAdd (vSl (vVar 0) vNoP (vP (vC (.int 2)))) (vSl (vVar 0) (vP (vC (.int 6))) (vP (vC (.int 7)))))) vN))))
theorem sim_law_can_stand (T : Vl.Tok) : SimS T (b_law_can_stand) (v_law_can_stand) :=
  (sim_ret (sim_tup (simA_cons (sim_op sim_inY sim_str (sim_sl (sim_var 0) sim_noP (sim_P sim_int))) (simA_cons (sim_op sim_inY sim_str (sim_op sim_add (sim_sl (sim_var 0) sim_noP (sim_P sim_int)) (sim_sl (sim_var 0) (sim_P sim_int) (sim_P sim_int)))) simA_nil))))
theorem C_law_can_stand {P : Program} {w : World} {K : PySem.W.Frag} {mg : Str → Option Value} {base : Heap} {T : Vl.Tok} (D : Txt K mg) (hS : SM base) (d : Def K mg "_law_can_stand" P_law_can_stand s_law_can_stand) {k : Nat} {c : VCon} (hlen : ∀ us m Q, c us m Q → us.length = 1)
    (hv : ∀ us m Q, c us m Q → v_law_can_stand ⟨us.map toX ++ List.replicate (1 - us.length) none, m⟩ (vEnd Q)) : Callee P w K mg base "_law_can_stand" P_law_can_stand s_law_can_stand (k + 1) (conV T c) :=
  callee_of d sc_law_can_stand (fun xs S0 P h => conV_len hlen xs S0 P h) (jb_law_can_stand D hS) (pl_of (sim_law_can_stand T) hv)
/-! _law_number -/
theorem sc_law_number : FnScope N_law_number P_law_number (defScope s_law_number) := ⟨rfl, rfl, rfl, by decide +kernel, rfl, by decide +kernel, by decide +kernel⟩
def b_law_number (c_law_can_stand : Con) : WS :=
  (wSq (wAsg (wF c_law_can_stand (wCons (wVar 0) wNil)) (gT (gsC (gN 1) (gsC (gN 2) gsN))))
    (wSq (wAsg (wSl (wVar 0) (wP (wC (.int 8))) (wP (wC (.int 11)))) (gT (gsC (gN 3) (gsC (gN 4) (gsC (gN 5) gsN)))))
    (wSq (wIfS (wB (wOp (fInY false) (wC (.str "none")) (wSl (wVar 0) wNoP (wP (wC (.int 2)))))) (wRet (wC (.int 1))) wNx)
    (wSq (wIfS (wOrT (wAndT (wTru (wVar 1)) (wB (wOp fEq (wOp fIx (wVar 0) (wC (.int 3))) (wC (.str "answer"))))) (wAndT (wTru (wVar 2)) (wB (wOp fEq (wOp fIx (wVar 0) (wC (.int 4))) (wC (.str "answer")))))) (wRet (wC (.int 2))) wNx)
    (wSq (wIfS (wAndT (wTru (wVar 1)) (wAndT (wB (wOp fEq (wOp fIx (wVar 0) (wC (.int 3))) (wC (.str "check")))) (wAndT (wB (wOp fEq (wOp fIx (wVar 0) (wC (.int 5))) (wC (.str "mark")))) (wOrT (wB (wOp fNe (wOp fIx (wVar 0) (wC (.int 0))) (wC (.str "sure")))) (wB (wOp fNe (wOp fIx (wVar 0) (wC (.int 6))) (wC (.str "sure")))))))) (wRet (wC (.int 3))) wNx)
    (wSq (wIfS (wAndT (wTru (wVar 2)) (wAndT (wB (wOp fEq (wOp fIx (wVar 0) (wC (.int 4))) (wC (.str "check")))) (wAndT (wB (wOp fEq (wOp fIx (wVar 0) (wC (.int 5))) (wC (.str "mark")))) (wB (wOp fEq (wVar 3) (wC (.str "ahead"))))))) (wRet (wC (.int 4))) wNx)
    (wSq (wIfS (wOrT (wB (wOp fEq (wOp fIx (wVar 0) (wC (.int 6))) (wC (.str "none")))) (wB (wOp fEq (wOp fIx (wVar 0) (wC (.int 2))) (wC (.str "never"))))) (wRet (wC (.int 0))) wNx)
    (wSq (wSet 6 (wOr (wOp fEq (wVar 3) (wC (.str "unless"))) (wOr (wAnd (wOp fEq (wVar 3) (wC (.str "ahead"))) (wOp fEq (wVar 4) (wC (.str "behind")))) (wAnd (wOp fEq (wVar 3) (wC (.str "behind"))) (wOp fEq (wVar 5) (wC (.str "kept")))))))
    (wRet (wIf (wTru (wVar 6)) (wC (.int 5)) (wC (.int 0))))))))))))
theorem jb_law_number {P : Program} {w : World} {K : PySem.W.Frag} {mg : Str → Option Value} {base : Heap} (T : Txt K mg) (hS : SM base) {k : Nat} {c_law_can_stand : Con} {k_law_can_stand : Nat} (C_law_can_stand : Callee P w K mg base "_law_can_stand" P_law_can_stand s_law_can_stand k_law_can_stand c_law_can_stand) (l_law_can_stand : k_law_can_stand ≤ k)
    (f : Addr) (cdv : Value) (A : Around) (outer : List Env) (s : Shared) (H : Hp) (E : XK) (hr : Room k (A.deeper (envOfC "_law_number" (defScope s_law_number) s.heap.objs.size f cdv))) (hgd : A.guards = some []) :
    JB (cxOf CX0 P w K mg base N_law_number "_law_number" (defScope s_law_number) f cdv A outer s H E).nox (defBody s_law_number) (b_law_number c_law_can_stand) := by
  have scND := sc_law_number.nd
  exact (jb_cons (js_asg (re_callee C_law_can_stand (hr.mono l_law_can_stand) hgd (ra_cons (re_var 0) ra_nil) pass0) (rg_tup rfl (rgs_cons (rg_name 1 scND) (rgs_cons (rg_name 2 scND) rgs_nil))))
    (jb_cons (js_asg (re_slice (re_var 0) (ro_some re_int) (ro_some re_int)) (rg_tup rfl (rgs_cons (rg_name 3 scND) (rgs_cons (rg_name 4 scND) (rgs_cons (rg_name 5 scND) rgs_nil)))))
    (jb_cons (js_if (rt_cmp (op_fInY hr.units) re_str (re_slice (re_var 0) ro_none (ro_some re_int)) (by rfl)) (jb_one (js_ret re_int)) jb_nil)
    (jb_cons (js_if (RW.rt (rw_or (RW.rt (rw_and (rt_tru (re_var 1)) (rw_and1 (rt_cmp (op_fEq hr.units) (re_ix (re_var 0) re_int) re_str (by rfl))))) (rw_or1 (RW.rt (rw_and (rt_tru (re_var 2)) (rw_and1 (rt_cmp (op_fEq hr.units) (re_ix (re_var 0) re_int) re_str (by rfl)))))))) (jb_one (js_ret re_int)) jb_nil)
    (jb_cons (js_if (RW.rt (rw_and (rt_tru (re_var 1)) (rw_and (rt_cmp (op_fEq hr.units) (re_ix (re_var 0) re_int) re_str (by rfl)) (rw_and (rt_cmp (op_fEq hr.units) (re_ix (re_var 0) re_int) re_str (by rfl)) (rw_and1 (RW.rt (rw_or (rt_cmp (op_fNe hr.units) (re_ix (re_var 0) re_int) re_str (by rfl)) (rw_or1 (rt_cmp (op_fNe hr.units) (re_ix (re_var 0) re_int) re_str (by rfl)))))))))) (jb_one (js_ret re_int)) jb_nil)
    (jb_cons (js_if (RW.rt (rw_and (rt_tru (re_var 2)) (rw_and (rt_cmp (op_fEq hr.units) (re_ix (re_var 0) re_int) re_str (by rfl)) (rw_and (rt_cmp (op_fEq hr.units) (re_ix (re_var 0) re_int) re_str (by rfl)) (rw_and1 (rt_cmp (op_fEq hr.units) (re_var 3) re_str (by rfl))))))) (jb_one (js_ret re_int)) jb_nil)
    (jb_cons (js_if (RW.rt (rw_or (rt_cmp (op_fEq hr.units) (re_ix (re_var 0) re_int) re_str (by rfl)) (rw_or1 (rt_cmp (op_fEq hr.units) (re_ix (re_var 0) re_int) re_str (by rfl))))) (jb_one (js_ret re_int)) jb_nil)
    (jb_cons (js_set 6 scND (re_or (re_cmp (op_fEq hr.units) (re_var 3) re_str (by rfl)) (re_or (re_and (re_cmp (op_fEq hr.units) (re_var 3) re_str (by rfl)) (re_one (re_cmp (op_fEq hr.units) (re_var 4) re_str (by rfl)))) (re_one (re_and (re_cmp (op_fEq hr.units) (re_var 3) re_str (by rfl)) (re_one (re_cmp (op_fEq hr.units) (re_var 5) re_str (by rfl))))))))
    (jb_one (js_ret (re_if (rt_tru (re_var 6)) re_int re_int)))))))))))
def v_law_number (c_law_can_stand : VCon) : VS :=
  (vSq (vAsg (vF c_law_can_stand (vCons (vVar 0) vN)) (hT (hsC (hN 1) (hsC (hN 2) hsN))))
    (vSq (vAsg (vSl (vVar 0) (vP (vC (.int 8))) (vP (vC (.int 11)))) (hT (hsC (hN 3) (hsC (hN 4) (hsC (hN 5) hsN)))))
    (vSq (vIfS (vB (vOp vInY (vC (.str "none")) (vSl (vVar 0) vNoP (vP (vC (.int 2)))))) (vRet (vC (.int 1))) vNx)
    (vSq (vIfS (vOrT (vAndT (vTru (vVar 1)) (vB (vOp vEq (vOp vIx (vVar 0) (vC (.int 3))) (vC (.str "answer"))))) (vAndT (vTru (vVar 2)) (vB (vOp vEq (vOp vIx (vVar 0) (vC (.int 4))) (vC (.str "answer")))))) (vRet (vC (.int 2))) vNx)
    (vSq (vIfS (vAndT (vTru (vVar 1)) (vAndT (vB (vOp vEq (vOp vIx (vVar 0) (vC (.int 3))) (vC (.str "check")))) (vAndT (vB (vOp vEq (vOp vIx (vVar 0) (vC (.int 5))) (vC (.str "mark")))) (vOrT (vB (vOp vNe (vOp vIx (vVar 0) (vC (.int 0))) (vC (.str "sure")))) (vB (vOp vNe (vOp vIx (vVar 0) (vC (.int 6))) (vC (.str "sure")))))))) (vRet (vC (.int 3))) vNx)
    (vSq (vIfS (vAndT (vTru (vVar 2)) (vAndT (vB (vOp vEq (vOp vIx (vVar 0) (vC (.int 4))) (vC (.str "check")))) (vAndT (vB (vOp vEq (vOp vIx (vVar 0) (vC (.int 5))) (vC (.str "mark")))) (vB (vOp vEq (vVar 3) (vC (.str "ahead"))))))) (vRet (vC (.int 4))) vNx)
    (vSq (vIfS (vOrT (vB (vOp vEq (vOp vIx (vVar 0) (vC (.int 6))) (vC (.str "none")))) (vB (vOp vEq (vOp vIx (vVar 0) (vC (.int 2))) (vC (.str "never"))))) (vRet (vC (.int 0))) vNx)
    (vSq (vSet 6 (vOr (vOp vEq (vVar 3) (vC (.str "unless"))) (vOr (vAnd (vOp vEq (vVar 3) (vC (.str "ahead"))) (vOp vEq (vVar 4) (vC (.str "behind")))) (vAnd (vOp vEq (vVar 3) (vC (.str "behind"))) (vOp vEq (vVar 5) (vC (.str "kept")))))))
    (vRet (vIf (vTru (vVar 6)) (vC (.int 5)) (vC (.int 0))))))))))))
theorem sim_law_number (T : Vl.Tok) (c_law_can_stand : VCon) : SimS T (b_law_number (conV T c_law_can_stand)) (v_law_number c_law_can_stand) :=
  (sim_sq (sim_asg (sim_F (simA_cons (sim_var 0) simA_nil)) (sim_gT (sim_gsC (sim_gN 1) (sim_gsC (sim_gN 2) sim_gsN))))
    (sim_sq (sim_asg (sim_sl (sim_var 0) (sim_P sim_int) (sim_P sim_int)) (sim_gT (sim_gsC (sim_gN 3) (sim_gsC (sim_gN 4) (sim_gsC (sim_gN 5) sim_gsN)))))
    (sim_sq (sim_ifS (sim_B (sim_op sim_inY sim_str (sim_sl (sim_var 0) sim_noP (sim_P sim_int)))) (sim_ret sim_int) sim_nx)
    (sim_sq (sim_ifS (sim_orT (sim_andT (sim_tru (sim_var 1)) (sim_B (sim_op sim_eq (sim_op sim_ix (sim_var 0) sim_int) sim_str))) (sim_andT (sim_tru (sim_var 2)) (sim_B (sim_op sim_eq (sim_op sim_ix (sim_var 0) sim_int) sim_str)))) (sim_ret sim_int) sim_nx)
    (sim_sq (sim_ifS (sim_andT (sim_tru (sim_var 1)) (sim_andT (sim_B (sim_op sim_eq (sim_op sim_ix (sim_var 0) sim_int) sim_str)) (sim_andT (sim_B (sim_op sim_eq (sim_op sim_ix (sim_var 0) sim_int) sim_str)) (sim_orT (sim_B (sim_op sim_ne (sim_op sim_ix (sim_var 0) sim_int) sim_str)) (sim_B (sim_op sim_ne (sim_op sim_ix (sim_var 0) sim_int) sim_str)))))) (sim_ret sim_int) sim_nx)
    (sim_sq (sim_ifS (sim_andT (sim_tru (sim_var 2)) (sim_andT (sim_B (sim_op sim_eq (sim_op sim_ix (sim_var 0) sim_int) sim_str)) (sim_andT (sim_B (sim_op sim_eq (sim_op sim_ix (sim_var 0) sim_int) sim_str)) (sim_B (sim_op sim_eq (sim_var 3) sim_str))))) (sim_ret sim_int) sim_nx)
    (sim_sq (sim_ifS (sim_orT (sim_B (sim_op sim_eq (sim_op sim_ix (sim_var 0) sim_int) sim_str)) (sim_B (sim_op sim_eq (sim_op sim_ix (sim_var 0) sim_int) sim_str))) (sim_ret sim_int) sim_nx)
    (sim_sq (sim_set 6 (sim_or (sim_op sim_eq (sim_var 3) sim_str) (sim_or (sim_and (sim_op sim_eq (sim_var 3) sim_str) (sim_op sim_eq (sim_var 4) sim_str)) (sim_and (sim_op sim_eq (sim_var 3) sim_str) (sim_op sim_eq (sim_var 5) sim_str)))))
    (sim_ret (sim_if (sim_tru (sim_var 6)) sim_int sim_int))))))))))
theorem C_law_number {P : Program} {w : World} {K : PySem.W.Frag} {mg : Str → Option Value} {base : Heap} {T : Vl.Tok} (D : Txt K mg) (hS : SM base) (d : Def K mg "_law_number" P_law_number s_law_number) {k : Nat} {c_law_can_stand : VCon} {k_law_can_stand : Nat} (C_law_can_stand : Callee P w K mg base "_law_can_stand" P_law_can_stand s_law_can_stand k_law_can_stand (conV T c_law_can_stand)) (l_law_can_stand : k_law_can_stand ≤ k) {c : VCon} (hlen : ∀ us m Q, c us m Q → us.length = 1)
    (hv : ∀ us m Q, c us m Q → v_law_number c_law_can_stand ⟨us.map toX ++ List.replicate (7 - us.length) none, m⟩ (vEnd Q)) : Callee P w K mg base "_law_number" P_law_number s_law_number (k + 1) (conV T c) :=
  callee_of d sc_law_number (fun xs S0 P h => conV_len hlen xs S0 P h) (jb_law_number D hS C_law_can_stand l_law_can_stand) (pl_of (sim_law_number T _) hv)
/-! _law_turned -/
theorem sc_law_turned : FnScope N_law_turned P_law_turned (defScope s_law_turned) := ⟨rfl, rfl, rfl, by decide +kernel, rfl, by decide +kernel, by decide +kernel⟩
def b_law_turned : WS :=
  (wRet (wOp fAdd (wOp fAdd (wSl (wVar 0) wNoP (wP (wVar 1))) (wTup (wCons (wVar 2) wNil))) (wSl (wVar 0) (wP (wOp fAdd (wVar 1) (wC (.int 1)))) wNoP)))
theorem jb_law_turned {P : Program} {w : World} {K : PySem.W.Frag} {mg : Str → Option Value} {base : Heap} (T : Txt K mg) (hS : SM base) {k : Nat}
    (f : Addr) (cdv : Value) (A : Around) (outer : List Env) (s : Shared) (H : Hp) (E : XK) (hr : Room k (A.deeper (envOfC "_law_turned" (defScope s_law_turned) s.heap.objs.size f cdv))) (hgd : A.guards = some []) :
    JB (cxOf CX0 P w K mg base N_law_turned "_law_turned" (defScope s_law_turned) f cdv A outer s H E).nox (defBody s_law_turned) (b_law_turned) := by
  have scND := sc_law_turned.nd
  exact (jb_one (js_ret (re_bin op_fAdd (re_bin op_fAdd (re_slice (re_var 0) ro_none (ro_some (re_var 1))) (re_tup (ra_cons (re_var 2) ra_nil))) (re_slice (re_var 0) (ro_some (re_bin op_fAdd (re_var 1) re_int)) ro_none))))
def v_law_turned : VS :=
  (vRet (vOp vAdd (vOp vAdd (vSl (vVar 0) vNoP (vP (vVar 1))) (vTup (vCons (vVar 2) vN))) (vSl (vVar 0) (vP (vOp vAdd (vVar 1) (vC (.int 1)))) vNoP)))
theorem sim_law_turned (T : Vl.Tok) : SimS T (b_law_turned) (v_law_turned) :=
  (sim_ret (sim_op sim_add (sim_op sim_add (sim_sl (sim_var 0) sim_noP (sim_P (sim_var 1))) (sim_tup (simA_cons (sim_var 2) simA_nil))) (sim_sl (sim_var 0) (sim_P (sim_op sim_add (sim_var 1) sim_int)) sim_noP)))
theorem C_law_turned {P : Program} {w : World} {K : PySem.W.Frag} {mg : Str → Option Value} {base : Heap} {T : Vl.Tok} (D : Txt K mg) (hS : SM base) (d : Def K mg "_law_turned" P_law_turned s_law_turned) {k : Nat} {c : VCon} (hlen : ∀ us m Q, c us m Q → us.length = 3)
    (hv : ∀ us m Q, c us m Q → v_law_turned ⟨us.map toX ++ List.replicate (3 - us.length) none, m⟩ (vEnd Q)) : Callee P w K mg base "_law_turned" P_law_turned s_law_turned (k + 1) (conV T c) :=
  callee_of d sc_law_turned (fun xs S0 P h => conV_len hlen xs S0 P h) (jb_law_turned D hS) (pl_of (sim_law_turned T) hv)
/-! _law_safe_book -/
theorem sc_law_safe_book : FnScope N_law_safe_book P_law_safe_book (defScope s_law_safe_book) := ⟨rfl, rfl, rfl, by decide +kernel, rfl, by decide +kernel, by decide +kernel⟩
def b_law_safe_book (c_law_any_book : Con) (c_law_turned : Con) (c_law_pick : Con) (c_law_can_stand : Con) (c_law_draw : Con) (c_law_number : Con) : WS :=
  (wSq (wSet 1 (wF c_law_any_book (wCons (wVar 0) wNil)))
    (wSq (wFor (wSeqI (wTup (wCons (wC (.int 0)) (wCons (wC (.int 1)) wNil)))) (gN 2) (wSet 1 (wF c_law_turned (wCons (wVar 1) (wCons (wVar 2) (wCons (wF c_law_pick (wCons (wVar 0) (wCons (wLst (wCons (wC (.str "perhaps")) (wCons (wC (.str "sure")) wNil))) wNil))) wNil))))))
    (wSq (wAsg (wF c_law_can_stand (wCons (wVar 1) wNil)) (gT (gsC (gN 3) (gsC (gN 4) gsN))))
    (wSq (wIfS (wAndT (wTru (wVar 3)) (wB (wOp fEq (wOp fIx (wVar 1) (wC (.int 3))) (wC (.str "answer"))))) (wSet 1 (wF c_law_turned (wCons (wVar 1) (wCons (wC (.int 3)) (wCons (wF c_law_pick (wCons (wVar 0) (wCons (wLst (wCons (wC (.str "check")) (wCons (wC (.str "work")) wNil))) wNil))) wNil))))) wNx)
    (wSq (wIfS (wAndT (wTru (wVar 4)) (wB (wOp fEq (wOp fIx (wVar 1) (wC (.int 4))) (wC (.str "answer"))))) (wSet 1 (wF c_law_turned (wCons (wVar 1) (wCons (wC (.int 4)) (wCons (wF c_law_pick (wCons (wVar 0) (wCons (wLst (wCons (wC (.str "check")) (wCons (wC (.str "work")) wNil))) wNil))) wNil))))) wNx)
    (wSq (wIfS (wAndT (wB (wOp fEq (wF c_law_number (wCons (wVar 1) wNil)) (wC (.int 4)))) (wB (wOp fEq (wF c_law_draw (wCons (wVar 0) (wCons (wC (.int 2)) wNil))) (wC (.int 0))))) (wSet 1 (wF c_law_turned (wCons (wVar 1) (wCons (wC (.int 8)) (wCons (wC (.str "behind")) wNil))))) wNx)
    (wSq (wIfS (wB (wOp (fInY false) (wF c_law_number (wCons (wVar 1) wNil)) (wTup (wCons (wC (.int 3)) (wCons (wC (.int 4)) wNil))))) (wSet 1 (wF c_law_turned (wCons (wVar 1) (wCons (wC (.int 5)) (wCons (wC (.str "values")) wNil))))) wNx)
    (wSq (wIfS (wAndT (wB (wOp fEq (wF c_law_number (wCons (wVar 1) wNil)) (wC (.int 5)))) (wB (wOp fEq (wF c_law_draw (wCons (wVar 0) (wCons (wC (.int 2)) wNil))) (wC (.int 0))))) (wSet 1 (wF c_law_turned (wCons (wF c_law_turned (wCons (wVar 1) (wCons (wC (.int 8)) (wCons (wC (.str "behind")) wNil)))) (wCons (wC (.int 10)) (wCons (wC (.str "struck")) wNil))))) wNx)
    (wRet (wIf (wB (wOp fEq (wF c_law_number (wCons (wVar 1) wNil)) (wC (.int 5)))) (wF c_law_turned (wCons (wVar 1) (wCons (wC (.int 2)) (wCons (wC (.str "never")) wNil)))) (wVar 1)))))))))))
theorem jb_law_safe_book {P : Program} {w : World} {K : PySem.W.Frag} {mg : Str → Option Value} {base : Heap} (T : Txt K mg) (hS : SM base) {k : Nat} {c_law_any_book : Con} {k_law_any_book : Nat} (C_law_any_book : Callee P w K mg base "_law_any_book" P_law_any_book s_law_any_book k_law_any_book c_law_any_book) (l_law_any_book : k_law_any_book ≤ k) {c_law_turned : Con} {k_law_turned : Nat} (C_law_turned : Callee P w K mg base "_law_turned" P_law_turned s_law_turned k_law_turned c_law_turned) (l_law_turned : k_law_turned ≤ k) {c_law_pick : Con} {k_law_pick : Nat} (C_law_pick : Callee P w K mg base "_law_pick" P_law_pick s_law_pick k_law_pick c_law_pick) (l_law_pick : k_law_pick ≤ k) {c_law_can_stand : Con} {k_law_can_stand : Nat} (C_law_can_stand : Callee P w K mg base "_law_can_stand" P_law_can_stand s_law_can_stand k_law_can_stand c_law_can_stand) (l_law_can_stand : k_law_can_stand ≤ k) {c_law_draw : Con} {k_law_draw : Nat} (C_law_draw : Callee P w K mg base "_law_draw" P_law_draw s_law_draw k_law_draw c_law_draw) (l_law_draw : k_law_draw ≤ k) {c_law_number : Con} {k_law_number : Nat} (C_law_number : Callee P w K mg base "_law_number" P_law_number s_law_number k_law_number c_law_number) (l_law_number : k_law_number ≤ k)
    (f : Addr) (cdv : Value) (A : Around) (outer : List Env) (s : Shared) (H : Hp) (E : XK) (hr : Room k (A.deeper (envOfC "_law_safe_book" (defScope s_law_safe_book) s.heap.objs.size f cdv))) (hgd : A.guards = some []) :
    JB (cxOf CX0 P w K mg base N_law_safe_book "_law_safe_book" (defScope s_law_safe_book) f cdv A outer s H E).nox (defBody s_law_safe_book) (b_law_safe_book c_law_any_book c_law_turned c_law_pick c_law_can_stand c_law_draw c_law_number) := by
  have scND := sc_law_safe_book.nd
  exact (jb_cons (js_set 1 scND (re_callee C_law_any_book (hr.mono l_law_any_book) hgd (ra_cons (re_var 0) ra_nil) pass0))
    (jb_cons (js_for PassesOwn.never rfl (ri_seq (re_tup (ra_cons re_int (ra_cons re_int ra_nil)))) (rg_name 2 scND) (jb_one (js_set 1 scND (re_callee C_law_turned (hr.mono l_law_turned) hgd (ra_cons (re_var 1) (ra_cons (re_var 2) (ra_cons (re_callee C_law_pick (hr.mono l_law_pick) hgd (ra_cons (re_var 0) (ra_cons (re_lst (ra_cons re_str (ra_cons re_str ra_nil))) ra_nil)) pass0) ra_nil))) pass0))))
    (jb_cons (js_asg (re_callee C_law_can_stand (hr.mono l_law_can_stand) hgd (ra_cons (re_var 1) ra_nil) pass0) (rg_tup rfl (rgs_cons (rg_name 3 scND) (rgs_cons (rg_name 4 scND) rgs_nil))))
    (jb_cons (js_if (RW.rt (rw_and (rt_tru (re_var 3)) (rw_and1 (rt_cmp (op_fEq hr.units) (re_ix (re_var 1) re_int) re_str (by rfl))))) (jb_one (js_set 1 scND (re_callee C_law_turned (hr.mono l_law_turned) hgd (ra_cons (re_var 1) (ra_cons re_int (ra_cons (re_callee C_law_pick (hr.mono l_law_pick) hgd (ra_cons (re_var 0) (ra_cons (re_lst (ra_cons re_str (ra_cons re_str ra_nil))) ra_nil)) pass0) ra_nil))) pass0))) jb_nil)
    (jb_cons (js_if (RW.rt (rw_and (rt_tru (re_var 4)) (rw_and1 (rt_cmp (op_fEq hr.units) (re_ix (re_var 1) re_int) re_str (by rfl))))) (jb_one (js_set 1 scND (re_callee C_law_turned (hr.mono l_law_turned) hgd (ra_cons (re_var 1) (ra_cons re_int (ra_cons (re_callee C_law_pick (hr.mono l_law_pick) hgd (ra_cons (re_var 0) (ra_cons (re_lst (ra_cons re_str (ra_cons re_str ra_nil))) ra_nil)) pass0) ra_nil))) pass0))) jb_nil)
    (jb_cons (js_if (RW.rt (rw_and (rt_cmp (op_fEq hr.units) (re_callee C_law_number (hr.mono l_law_number) hgd (ra_cons (re_var 1) ra_nil) pass0) re_int (by rfl)) (rw_and1 (rt_cmp (op_fEq hr.units) (re_callee C_law_draw (hr.mono l_law_draw) hgd (ra_cons (re_var 0) (ra_cons re_int ra_nil)) pass0) re_int (by rfl))))) (jb_one (js_set 1 scND (re_callee C_law_turned (hr.mono l_law_turned) hgd (ra_cons (re_var 1) (ra_cons re_int (ra_cons re_str ra_nil))) pass0))) jb_nil)
    (jb_cons (js_if (rt_cmp (op_fInY hr.units) (re_callee C_law_number (hr.mono l_law_number) hgd (ra_cons (re_var 1) ra_nil) pass0) (re_tup (ra_cons re_int (ra_cons re_int ra_nil))) (by rfl)) (jb_one (js_set 1 scND (re_callee C_law_turned (hr.mono l_law_turned) hgd (ra_cons (re_var 1) (ra_cons re_int (ra_cons re_str ra_nil))) pass0))) jb_nil)
    (jb_cons (js_if (RW.rt (rw_and (rt_cmp (op_fEq hr.units) (re_callee C_law_number (hr.mono l_law_number) hgd (ra_cons (re_var 1) ra_nil) pass0) re_int (by rfl)) (rw_and1 (rt_cmp (op_fEq hr.units) (re_callee C_law_draw (hr.mono l_law_draw) hgd (ra_cons (re_var 0) (ra_cons re_int ra_nil)) pass0) re_int (by rfl))))) (jb_one (js_set 1 scND (re_callee C_law_turned (hr.mono l_law_turned) hgd (ra_cons (re_callee C_law_turned (hr.mono l_law_turned) hgd (ra_cons (re_var 1) (ra_cons re_int (ra_cons re_str ra_nil))) pass0) (ra_cons re_int (ra_cons re_str ra_nil))) pass0))) jb_nil)
    (jb_one (js_ret (re_if (rt_cmp (op_fEq hr.units) (re_callee C_law_number (hr.mono l_law_number) hgd (ra_cons (re_var 1) ra_nil) pass0) re_int (by rfl)) (re_callee C_law_turned (hr.mono l_law_turned) hgd (ra_cons (re_var 1) (ra_cons re_int (ra_cons re_str ra_nil))) pass0) (re_var 1))))))))))))
def v_law_safe_book (c_law_any_book : VCon) (c_law_turned : VCon) (c_law_pick : VCon) (c_law_can_stand : VCon) (c_law_draw : VCon) (c_law_number : VCon) : VS :=
  (vSq (vSet 1 (vF c_law_any_book (vCons (vVar 0) vN)))
    (vSq (vFor (vSeq (vTup (vCons (vC (.int 0)) (vCons (vC (.int 1)) vN)))) (hN 2) (vSet 1 (vF c_law_turned (vCons (vVar 1) (vCons (vVar 2) (vCons (vF c_law_pick (vCons (vVar 0) (vCons (vLst (vCons (vC (.str "perhaps")) (vCons (vC (.str "sure")) vN))) vN))) vN))))))
    (vSq (vAsg (vF c_law_can_stand (vCons (vVar 1) vN)) (hT (hsC (hN 3) (hsC (hN 4) hsN))))
    (vSq (vIfS (vAndT (vTru (vVar 3)) (vB (vOp vEq (vOp vIx (vVar 1) (vC (.int 3))) (vC (.str "answer"))))) (vSet 1 (vF c_law_turned (vCons (vVar 1) (vCons (vC (.int 3)) (vCons (vF c_law_pick (vCons (vVar 0) (vCons (vLst (vCons (vC (.str "check")) (vCons (vC (.str "work")) vN))) vN))) vN))))) vNx)
    (vSq (vIfS (vAndT (vTru (vVar 4)) (vB (vOp vEq (vOp vIx (vVar 1) (vC (.int 4))) (vC (.str "answer"))))) (vSet 1 (vF c_law_turned (vCons (vVar 1) (vCons (vC (.int 4)) (vCons (vF c_law_pick (vCons (vVar 0) (vCons (vLst (vCons (vC (.str "check")) (vCons (vC (.str "work")) vN))) vN))) vN))))) vNx)
    (vSq (vIfS (vAndT (vB (vOp vEq (vF c_law_number (vCons (vVar 1) vN)) (vC (.int 4)))) (vB (vOp vEq (vF c_law_draw (vCons (vVar 0) (vCons (vC (.int 2)) vN))) (vC (.int 0))))) (vSet 1 (vF c_law_turned (vCons (vVar 1) (vCons (vC (.int 8)) (vCons (vC (.str "behind")) vN))))) vNx)
    (vSq (vIfS (vB (vOp vInY (vF c_law_number (vCons (vVar 1) vN)) (vTup (vCons (vC (.int 3)) (vCons (vC (.int 4)) vN))))) (vSet 1 (vF c_law_turned (vCons (vVar 1) (vCons (vC (.int 5)) (vCons (vC (.str "values")) vN))))) vNx)
    (vSq (vIfS (vAndT (vB (vOp vEq (vF c_law_number (vCons (vVar 1) vN)) (vC (.int 5)))) (vB (vOp vEq (vF c_law_draw (vCons (vVar 0) (vCons (vC (.int 2)) vN))) (vC (.int 0))))) (vSet 1 (vF c_law_turned (vCons (vF c_law_turned (vCons (vVar 1) (vCons (vC (.int 8)) (vCons (vC (.str "behind")) vN)))) (vCons (vC (.int 10)) (vCons (vC (.str "struck")) vN))))) vNx)
    (vRet (vIf (vB (vOp vEq (vF c_law_number (vCons (vVar 1) vN)) (vC (.int 5)))) (vF c_law_turned (vCons (vVar 1) (vCons (vC (.int 2)) (vCons (vC (.str "never")) vN)))) (vVar 1)))))))))))
theorem sim_law_safe_book (T : Vl.Tok) (c_law_any_book : VCon) (c_law_turned : VCon) (c_law_pick : VCon) (c_law_can_stand : VCon) (c_law_draw : VCon) (c_law_number : VCon) : SimS T (b_law_safe_book (conV T c_law_any_book) (conV T c_law_turned) (conV T c_law_pick) (conV T c_law_can_stand) (conV T c_law_draw) (conV T c_law_number)) (v_law_safe_book c_law_any_book c_law_turned c_law_pick c_law_can_stand c_law_draw c_law_number) :=
  (sim_sq (sim_set 1 (sim_F (simA_cons (sim_var 0) simA_nil)))
    (sim_sq (sim_for (sim_seq (sim_tup (simA_cons sim_int (simA_cons sim_int simA_nil)))) (sim_gN 2) (sim_set 1 (sim_F (simA_cons (sim_var 1) (simA_cons (sim_var 2) (simA_cons (sim_F (simA_cons (sim_var 0) (simA_cons (sim_lst (simA_cons sim_str (simA_cons sim_str simA_nil))) simA_nil))) simA_nil))))))
    (sim_sq (sim_asg (sim_F (simA_cons (sim_var 1) simA_nil)) (sim_gT (sim_gsC (sim_gN 3) (sim_gsC (sim_gN 4) sim_gsN))))
    (sim_sq (sim_ifS (sim_andT (sim_tru (sim_var 3)) (sim_B (sim_op sim_eq (sim_op sim_ix (sim_var 1) sim_int) sim_str))) (sim_set 1 (sim_F (simA_cons (sim_var 1) (simA_cons sim_int (simA_cons (sim_F (simA_cons (sim_var 0) (simA_cons (sim_lst (simA_cons sim_str (simA_cons sim_str simA_nil))) simA_nil))) simA_nil))))) sim_nx)
    (sim_sq (sim_ifS (sim_andT (sim_tru (sim_var 4)) (sim_B (sim_op sim_eq (sim_op sim_ix (sim_var 1) sim_int) sim_str))) (sim_set 1 (sim_F (simA_cons (sim_var 1) (simA_cons sim_int (simA_cons (sim_F (simA_cons (sim_var 0) (simA_cons (sim_lst (simA_cons sim_str (simA_cons sim_str simA_nil))) simA_nil))) simA_nil))))) sim_nx)
    (sim_sq (sim_ifS (sim_andT (sim_B (sim_op sim_eq (sim_F (simA_cons (sim_var 1) simA_nil)) sim_int)) (sim_B (sim_op sim_eq (sim_F (simA_cons (sim_var 0) (simA_cons sim_int simA_nil))) sim_int))) (sim_set 1 (sim_F (simA_cons (sim_var 1) (simA_cons sim_int (simA_cons sim_str simA_nil))))) sim_nx)
    (sim_sq (sim_ifS (sim_B (sim_op sim_inY (sim_F (simA_cons (sim_var 1) simA_nil)) (sim_tup (simA_cons sim_int (simA_cons sim_int simA_nil))))) (sim_set 1 (sim_F (simA_cons (sim_var 1) (simA_cons sim_int (simA_cons sim_str simA_nil))))) sim_nx)
    (sim_sq (sim_ifS (sim_andT (sim_B (sim_op sim_eq (sim_F (simA_cons (sim_var 1) simA_nil)) sim_int)) (sim_B (sim_op sim_eq (sim_F (simA_cons (sim_var 0) (simA_cons sim_int simA_nil))) sim_int))) (sim_set 1 (sim_F (simA_cons (sim_F (simA_cons (sim_var 1) (simA_cons sim_int (simA_cons sim_str simA_nil)))) (simA_cons sim_int (simA_cons sim_str simA_nil))))) sim_nx)
    (sim_ret (sim_if (sim_B (sim_op sim_eq (sim_F (simA_cons (sim_var 1) simA_nil)) sim_int)) (sim_F (simA_cons (sim_var 1) (simA_cons sim_int (simA_cons sim_str simA_nil)))) (sim_var 1)))))))))))
theorem C_law_safe_book {P : Program} {w : World} {K : PySem.W.Frag} {mg : Str → Option Value} {base : Heap} {T : Vl.Tok} (D : Txt K mg) (hS : SM base) (d : Def K mg "_law_safe_book" P_law_safe_book s_law_safe_book) {k : Nat} {c_law_any_book : VCon} {k_law_any_book : Nat} (C_law_any_book : Callee P w K mg base "_law_any_book" P_law_any_book s_law_any_book k_law_any_book (conV T c_law_any_book)) (l_law_any_book : k_law_any_book ≤ k) {c_law_turned : VCon} {k_law_turned : Nat} (C_law_turned : Callee P w K mg base "_law_turned" P_law_turned s_law_turned k_law_turned (conV T c_law_turned)) (l_law_turned : k_law_turned ≤ k) {c_law_pick : VCon} {k_law_pick : Nat} (C_law_pick : Callee P w K mg base "_law_pick" P_law_pick s_law_pick k_law_pick (conV T c_law_pick)) (l_law_pick : k_law_pick ≤ k) {c_law_can_stand : VCon} {k_law_can_stand : Nat} (C_law_can_stand : Callee P w K mg base "_law_can_stand" P_law_can_stand s_law_can_stand k_law_can_stand (conV T c_law_can_stand)) (l_law_can_stand : k_law_can_stand ≤ k) {c_law_draw : VCon} {k_law_draw : Nat} (C_law_draw : Callee P w K mg base "_law_draw" P_law_draw s_law_draw k_law_draw (conV T c_law_draw)) (l_law_draw : k_law_draw ≤ k) {c_law_number : VCon} {k_law_number : Nat} (C_law_number : Callee P w K mg base "_law_number" P_law_number s_law_number k_law_number (conV T c_law_number)) (l_law_number : k_law_number ≤ k) {c : VCon} (hlen : ∀ us m Q, c us m Q → us.length = 1)
    (hv : ∀ us m Q, c us m Q → v_law_safe_book c_law_any_book c_law_turned c_law_pick c_law_can_stand c_law_draw c_law_number ⟨us.map toX ++ List.replicate (5 - us.length) none, m⟩ (vEnd Q)) : Callee P w K mg base "_law_safe_book" P_law_safe_book s_law_safe_book (k + 1) (conV T c) :=
  callee_of d sc_law_safe_book (fun xs S0 P h => conV_len hlen xs S0 P h) (jb_law_safe_book D hS C_law_any_book l_law_any_book C_law_turned l_law_turned C_law_pick l_law_pick C_law_can_stand l_law_can_stand C_law_draw l_law_draw C_law_number l_law_number) (pl_of (sim_law_safe_book T _ _ _ _ _ _) hv)
/-! _law_is_calm -/
theorem sc_law_is_calm : FnScope N_law_is_calm P_law_is_calm (defScope s_law_is_calm) := ⟨rfl, rfl, rfl, by decide +kernel, rfl, by decide +kernel, by decide +kernel⟩
def b_law_is_calm (c_law_number : Con) : WS :=
  (wRet (wAnd (wOp fEq (wF c_law_number (wCons (wVar 0) wNil)) (wC (.int 0))) (wAnd (wOp fEq (wOp fIx (wVar 0) (wC (.int 10))) (wC (.str "struck"))) (wOr (wOp fEq (wOp fIx (wVar 0) (wC (.int 6))) (wC (.str "none"))) (wOp fEq (wOp fIx (wVar 0) (wC (.int 8))) (wC (.str "behind")))))))
theorem jb_law_is_calm {P : Program} {w : World} {K : PySem.W.Frag} {mg : Str → Option Value} {base : Heap} (T : Txt K mg) (hS : SM base) {k : Nat} {c_law_number : Con} {k_law_number : Nat} (C_law_number : Callee P w K mg base "_law_number" P_law_number s_law_number k_law_number c_law_number) (l_law_number : k_law_number ≤ k)
    (f : Addr) (cdv : Value) (A : Around) (outer : List Env) (s : Shared) (H : Hp) (E : XK) (hr : Room k (A.deeper (envOfC "_law_is_calm" (defScope s_law_is_calm) s.heap.objs.size f cdv))) (hgd : A.guards = some []) :
    JB (cxOf CX0 P w K mg base N_law_is_calm "_law_is_calm" (defScope s_law_is_calm) f cdv A outer s H E).nox (defBody s_law_is_calm) (b_law_is_calm c_law_number) := by
  have scND := sc_law_is_calm.nd
  exact (jb_one (js_ret (re_and (re_cmp (op_fEq hr.units) (re_callee C_law_number (hr.mono l_law_number) hgd (ra_cons (re_var 0) ra_nil) pass0) re_int (by rfl)) (re_and (re_cmp (op_fEq hr.units) (re_ix (re_var 0) re_int) re_str (by rfl)) (re_one (re_or (re_cmp (op_fEq hr.units) (re_ix (re_var 0) re_int) re_str (by rfl)) (re_one (re_cmp (op_fEq hr.units) (re_ix (re_var 0) re_int) re_str (by rfl)))))))))
def v_law_is_calm (c_law_number : VCon) : VS :=
  (vRet (vAnd (vOp vEq (vF c_law_number (vCons (vVar 0) vN)) (vC (.int 0))) (vAnd (vOp vEq (vOp vIx (vVar 0) (vC (.int 10))) (vC (.str "struck"))) (vOr (vOp vEq (vOp vIx (vVar 0) (vC (.int 6))) (vC (.str "none"))) (vOp vEq (vOp vIx (vVar 0) (vC (.int 8))) (vC (.str "behind")))))))
theorem sim_law_is_calm (T : Vl.Tok) (c_law_number : VCon) : SimS T (b_law_is_calm (conV T c_law_number)) (v_law_is_calm c_law_number) :=
  (sim_ret (sim_and (sim_op sim_eq (sim_F (simA_cons (sim_var 0) simA_nil)) sim_int) (sim_and (sim_op sim_eq (sim_op sim_ix (sim_var 0) sim_int) sim_str) (sim_or (sim_op sim_eq (sim_op sim_ix (sim_var 0) sim_int) sim_str) (sim_op sim_eq (sim_op sim_ix (sim_var 0) sim_int) sim_str)))))
theorem C_law_is_calm {P : Program} {w : World} {K : PySem.W.Frag} {mg : Str → Option Value} {base : Heap} {T : Vl.Tok} (D : Txt K mg) (hS : SM base) (d : Def K mg "_law_is_calm" P_law_is_calm s_law_is_calm) {k : Nat} {c_law_number : VCon} {k_law_number : Nat} (C_law_number : Callee P w K mg base "_law_number" P_law_number s_law_number k_law_number (conV T c_law_number)) (l_law_number : k_law_number ≤ k) {c : VCon} (hlen : ∀ us m Q, c us m Q → us.length = 1)
    (hv : ∀ us m Q, c us m Q → v_law_is_calm c_law_number ⟨us.map toX ++ List.replicate (1 - us.length) none, m⟩ (vEnd Q)) : Callee P w K mg base "_law_is_calm" P_law_is_calm s_law_is_calm (k + 1) (conV T c) :=
  callee_of d sc_law_is_calm (fun xs S0 P h => conV_len hlen xs S0 P h) (jb_law_is_calm D hS C_law_number l_law_number) (pl_of (sim_law_is_calm T _) hv)
/-! _law_calm_book -/
theorem sc_law_calm_book : FnScope N_law_calm_book P_law_calm_book (defScope s_law_calm_book) := ⟨rfl, rfl, rfl, by decide +kernel, rfl, by decide +kernel, by decide +kernel⟩
def b_law_calm_book (c_law_turned : Con) (c_law_safe_book : Con) : WS :=
  (wSq (wSet 1 (wF c_law_turned (wCons (wF c_law_safe_book (wCons (wVar 0) wNil)) (wCons (wC (.int 10)) (wCons (wC (.str "struck")) wNil)))))
    (wRet (wIf (wB (wOp fEq (wOp fIx (wVar 1) (wC (.int 6))) (wC (.str "none")))) (wVar 1) (wF c_law_turned (wCons (wVar 1) (wCons (wC (.int 8)) (wCons (wC (.str "behind")) wNil)))))))
theorem jb_law_calm_book {P : Program} {w : World} {K : PySem.W.Frag} {mg : Str → Option Value} {base : Heap} (T : Txt K mg) (hS : SM base) {k : Nat} {c_law_turned : Con} {k_law_turned : Nat} (C_law_turned : Callee P w K mg base "_law_turned" P_law_turned s_law_turned k_law_turned c_law_turned) (l_law_turned : k_law_turned ≤ k) {c_law_safe_book : Con} {k_law_safe_book : Nat} (C_law_safe_book : Callee P w K mg base "_law_safe_book" P_law_safe_book s_law_safe_book k_law_safe_book c_law_safe_book) (l_law_safe_book : k_law_safe_book ≤ k)
    (f : Addr) (cdv : Value) (A : Around) (outer : List Env) (s : Shared) (H : Hp) (E : XK) (hr : Room k (A.deeper (envOfC "_law_calm_book" (defScope s_law_calm_book) s.heap.objs.size f cdv))) (hgd : A.guards = some []) :
    JB (cxOf CX0 P w K mg base N_law_calm_book "_law_calm_book" (defScope s_law_calm_book) f cdv A outer s H E).nox (defBody s_law_calm_book) (b_law_calm_book c_law_turned c_law_safe_book) := by
  have scND := sc_law_calm_book.nd
  exact (jb_cons (js_set 1 scND (re_callee C_law_turned (hr.mono l_law_turned) hgd (ra_cons (re_callee C_law_safe_book (hr.mono l_law_safe_book) hgd (ra_cons (re_var 0) ra_nil) pass0) (ra_cons re_int (ra_cons re_str ra_nil))) pass0))
    (jb_one (js_ret (re_if (rt_cmp (op_fEq hr.units) (re_ix (re_var 1) re_int) re_str (by rfl)) (re_var 1) (re_callee C_law_turned (hr.mono l_law_turned) hgd (ra_cons (re_var 1) (ra_cons re_int (ra_cons re_str ra_nil))) pass0)))))
def v_law_calm_book (c_law_turned : VCon) (c_law_safe_book : VCon) : VS :=
  (vSq (vSet 1 (vF c_law_turned (vCons (vF c_law_safe_book (vCons (vVar 0) vN)) (vCons (vC (.int 10)) (vCons (vC (.str "struck")) vN)))))
    (vRet (vIf (vB (vOp vEq (vOp vIx (vVar 1) (vC (.int 6))) (vC (.str "none")))) (vVar 1) (vF c_law_turned (vCons (vVar 1) (vCons (vC (.int 8)) (vCons (vC (.str "behind")) vN)))))))
theorem sim_law_calm_book (T : Vl.Tok) (c_law_turned : VCon) (c_law_safe_book : VCon) : SimS T (b_law_calm_book (conV T c_law_turned) (conV T c_law_safe_book)) (v_law_calm_book c_law_turned c_law_safe_book) :=
  (sim_sq (sim_set 1 (sim_F (simA_cons (sim_F (simA_cons (sim_var 0) simA_nil)) (simA_cons sim_int (simA_cons sim_str simA_nil)))))
    (sim_ret (sim_if (sim_B (sim_op sim_eq (sim_op sim_ix (sim_var 1) sim_int) sim_str)) (sim_var 1) (sim_F (simA_cons (sim_var 1) (simA_cons sim_int (simA_cons sim_str simA_nil)))))))
theorem C_law_calm_book {P : Program} {w : World} {K : PySem.W.Frag} {mg : Str → Option Value} {base : Heap} {T : Vl.Tok} (D : Txt K mg) (hS : SM base) (d : Def K mg "_law_calm_book" P_law_calm_book s_law_calm_book) {k : Nat} {c_law_turned : VCon} {k_law_turned : Nat} (C_law_turned : Callee P w K mg base "_law_turned" P_law_turned s_law_turned k_law_turned (conV T c_law_turned)) (l_law_turned : k_law_turned ≤ k) {c_law_safe_book : VCon} {k_law_safe_book : Nat} (C_law_safe_book : Callee P w K mg base "_law_safe_book" P_law_safe_book s_law_safe_book k_law_safe_book (conV T c_law_safe_book)) (l_law_safe_book : k_law_safe_book ≤ k) {c : VCon} (hlen : ∀ us m Q, c us m Q → us.length = 1)
    (hv : ∀ us m Q, c us m Q → v_law_calm_book c_law_turned c_law_safe_book ⟨us.map toX ++ List.replicate (2 - us.length) none, m⟩ (vEnd Q)) : Callee P w K mg base "_law_calm_book" P_law_calm_book s_law_calm_book (k + 1) (conV T c) :=
  callee_of d sc_law_calm_book (fun xs S0 P h => conV_len hlen xs S0 P h) (jb_law_calm_book D hS C_law_turned l_law_turned C_law_safe_book l_law_safe_book) (pl_of (sim_law_calm_book T _ _) hv)
/-! _law_rash -/
theorem sc_law_rash : FnScope N_law_rash P_law_rash (defScope s_law_rash) := ⟨rfl, rfl, rfl, by decide +kernel, rfl, by decide +kernel, by decide +kernel⟩
def b_law_rash (c_law_mark : Con) : WS :=
  (wSq (wPar3 1 2 3 (wCons (wF c_law_mark (wCons (wOp fIx (wVar 0) (wC (.int 0))) wNil)) (wCons (wF c_law_mark (wCons (wOp fIx (wVar 0) (wC (.int 1))) wNil)) (wCons (wF c_law_mark (wCons (wOp fIx (wVar 0) (wC (.int 6))) wNil)) wNil))))
    (wSq (wSet 4 (wLst (wCons (wTup (wCons (wC (.str "written")) (wCons (wVar 1) wNil))) (wCons (wTup (wCons (wC (.str "further")) (wCons (wVar 2) wNil))) (wCons (wTup (wCons (wC (.str "both")) (wCons (wCall bMax (wCons (wVar 1) (wCons (wVar 2) wNil))) wNil))) wNil)))))
    (wSq (wSet 4 (wOp fAdd (wVar 4) (wLst (wCons (wTup (wCons (wC (.str "changed")) (wCons (wCall bMax (wCons (wVar 2) (wCons (wVar 3) wNil))) wNil))) (wCons (wTup (wCons (wC (.str "every")) (wCons (wCall bMax3 (wCons (wVar 1) (wCons (wVar 2) (wCons (wVar 3) wNil)))) wNil))) wNil)))))
    (wSq (wSet 5 (wLst wNil))
    (wSq (wFor (wSeqI (wVar 4)) (gT (gsC (gN 6) (gsC (gN 7) gsN))) (wIfS (wAndT (wB (wOp fGt (wVar 7) (wC (.int 0)))) (wOrT (wB (wOp fEq (wOp fIx (wVar 0) (wOp fAdd (wC (.int 2)) (wVar 7))) (wC (.str "work")))) (wAndT (wB (wOp fEq (wVar 7) (wC (.int 2)))) (wAndT (wB (wOp fEq (wOp fIx (wVar 0) (wC (.int 4))) (wC (.str "check")))) (wB (wOp fEq (wOp fIx (wVar 0) (wC (.int 5))) (wC (.str "mark")))))))) (wDrop (wM "list" (onL gAppend) (wVar 5) (wCons (wVar 6) wNil))) wNx))
    (wRet (wCall bTuple (wCons (wVar 5) wNil))))))))
theorem jb_law_rash {P : Program} {w : World} {K : PySem.W.Frag} {mg : Str → Option Value} {base : Heap} (T : Txt K mg) (hS : SM base) {k : Nat} {c_law_mark : Con} {k_law_mark : Nat} (C_law_mark : Callee P w K mg base "_law_mark" P_law_mark s_law_mark k_law_mark c_law_mark) (l_law_mark : k_law_mark ≤ k)
    (f : Addr) (cdv : Value) (A : Around) (outer : List Env) (s : Shared) (H : Hp) (E : XK) (hr : Room k (A.deeper (envOfC "_law_rash" (defScope s_law_rash) s.heap.objs.size f cdv))) (hgd : A.guards = some []) :
    JB (cxOf CX0 P w K mg base N_law_rash "_law_rash" (defScope s_law_rash) f cdv A outer s H E).nox (defBody s_law_rash) (b_law_rash c_law_mark) := by
  have scND := sc_law_rash.nd
  exact (jb_cons (js_par3 1 2 3 rfl scND (ra_cons (re_callee C_law_mark (hr.mono l_law_mark) hgd (ra_cons (re_ix (re_var 0) re_int) ra_nil) pass0) (ra_cons (re_callee C_law_mark (hr.mono l_law_mark) hgd (ra_cons (re_ix (re_var 0) re_int) ra_nil) pass0) (ra_cons (re_callee C_law_mark (hr.mono l_law_mark) hgd (ra_cons (re_ix (re_var 0) re_int) ra_nil) pass0) ra_nil))))
    (jb_cons (js_set 4 scND (re_lst (ra_cons (re_tup (ra_cons re_str (ra_cons (re_var 1) ra_nil))) (ra_cons (re_tup (ra_cons re_str (ra_cons (re_var 2) ra_nil))) (ra_cons (re_tup (ra_cons re_str (ra_cons (re_callB (call_bMax rfl) rfl T.n_max bt_max (ra_cons (re_var 1) (ra_cons (re_var 2) ra_nil))) ra_nil))) ra_nil)))))
    (jb_cons (js_set 4 scND (re_bin op_fAdd (re_var 4) (re_lst (ra_cons (re_tup (ra_cons re_str (ra_cons (re_callB (call_bMax rfl) rfl T.n_max bt_max (ra_cons (re_var 2) (ra_cons (re_var 3) ra_nil))) ra_nil))) (ra_cons (re_tup (ra_cons re_str (ra_cons (re_callB (call_bMax3 rfl) rfl T.n_max bt_max (ra_cons (re_var 1) (ra_cons (re_var 2) (ra_cons (re_var 3) ra_nil)))) ra_nil))) ra_nil)))))
    (jb_cons (js_set 5 scND (re_lst ra_nil))
    (jb_cons (js_for PassesOwn.never rfl (ri_seq (re_var 4)) (rg_tup rfl (rgs_cons (rg_name 6 scND) (rgs_cons (rg_name 7 scND) rgs_nil))) (jb_one (js_if (RW.rt (rw_and (rt_cmp op_fGt (re_var 7) re_int (by rfl)) (rw_and1 (RW.rt (rw_or (rt_cmp (op_fEq hr.units) (re_ix (re_var 0) (re_bin op_fAdd re_int (re_var 7))) re_str (by rfl)) (rw_or1 (RW.rt (rw_and (rt_cmp (op_fEq hr.units) (re_var 7) re_int (by rfl)) (rw_and (rt_cmp (op_fEq hr.units) (re_ix (re_var 0) re_int) re_str (by rfl)) (rw_and1 (rt_cmp (op_fEq hr.units) (re_ix (re_var 0) re_int) re_str (by rfl)))))))))))) (jb_one (js_expr (re_m PySem.F.plainAttrs_list PySem.F.slot_list_append PySem.F.type_list_append mt_gAppend (re_var 5) (ra_cons (re_var 6) ra_nil)))) jb_nil)))
    (jb_one (js_ret (re_callTy call_bTuple rfl T.n_tuple bt_tuple (ra_cons (re_var 5) ra_nil)))))))))
def v_law_rash (c_law_mark : VCon) : VS :=
  (vSq (vPar3 1 2 3 (vCons (vF c_law_mark (vCons (vOp vIx (vVar 0) (vC (.int 0))) vN)) (vCons (vF c_law_mark (vCons (vOp vIx (vVar 0) (vC (.int 1))) vN)) (vCons (vF c_law_mark (vCons (vOp vIx (vVar 0) (vC (.int 6))) vN)) vN))))
    (vSq (vSet 4 (vLst (vCons (vTup (vCons (vC (.str "written")) (vCons (vVar 1) vN))) (vCons (vTup (vCons (vC (.str "further")) (vCons (vVar 2) vN))) (vCons (vTup (vCons (vC (.str "both")) (vCons (vCall vMax (vCons (vVar 1) (vCons (vVar 2) vN))) vN))) vN)))))
    (vSq (vSet 4 (vOp vAdd (vVar 4) (vLst (vCons (vTup (vCons (vC (.str "changed")) (vCons (vCall vMax (vCons (vVar 2) (vCons (vVar 3) vN))) vN))) (vCons (vTup (vCons (vC (.str "every")) (vCons (vCall vMax3 (vCons (vVar 1) (vCons (vVar 2) (vCons (vVar 3) vN)))) vN))) vN)))))
    (vSq (vSetO 5 (vLst vN))
    (vSq (vFor (vSeq (vVar 4)) (hT (hsC (hN 6) (hsC (hN 7) hsN))) (vIfS (vAndT (vB (vOp vGt (vVar 7) (vC (.int 0)))) (vOrT (vB (vOp vEq (vOp vIx (vVar 0) (vOp vAdd (vC (.int 2)) (vVar 7))) (vC (.str "work")))) (vAndT (vB (vOp vEq (vVar 7) (vC (.int 2)))) (vAndT (vB (vOp vEq (vOp vIx (vVar 0) (vC (.int 4))) (vC (.str "check")))) (vB (vOp vEq (vOp vIx (vVar 0) (vC (.int 5))) (vC (.str "mark")))))))) (vDrop (vMo lAppend 5 (vCons (vVar 6) vN))) vNx))
    (vRet (vCall vTupleB (vCons (vVar 5) vN))))))))
theorem sim_law_rash (T : Vl.Tok) (c_law_mark : VCon) : SimS T (b_law_rash (conV T c_law_mark)) (v_law_rash c_law_mark) :=
  (sim_sq (sim_par3 1 2 3 (simA_cons (sim_F (simA_cons (sim_op sim_ix (sim_var 0) sim_int) simA_nil)) (simA_cons (sim_F (simA_cons (sim_op sim_ix (sim_var 0) sim_int) simA_nil)) (simA_cons (sim_F (simA_cons (sim_op sim_ix (sim_var 0) sim_int) simA_nil)) simA_nil))))
    (sim_sq (sim_set 4 (sim_lst (simA_cons (sim_tup (simA_cons sim_str (simA_cons (sim_var 1) simA_nil))) (simA_cons (sim_tup (simA_cons sim_str (simA_cons (sim_var 2) simA_nil))) (simA_cons (sim_tup (simA_cons sim_str (simA_cons (sim_call sim_max (simA_cons (sim_var 1) (simA_cons (sim_var 2) simA_nil))) simA_nil))) simA_nil)))))
    (sim_sq (sim_set 4 (sim_op sim_add (sim_var 4) (sim_lst (simA_cons (sim_tup (simA_cons sim_str (simA_cons (sim_call sim_max (simA_cons (sim_var 2) (simA_cons (sim_var 3) simA_nil))) simA_nil))) (simA_cons (sim_tup (simA_cons sim_str (simA_cons (sim_call sim_max3 (simA_cons (sim_var 1) (simA_cons (sim_var 2) (simA_cons (sim_var 3) simA_nil)))) simA_nil))) simA_nil)))))
    (sim_sq (sim_setO 5 (sim_lst simA_nil))
    (sim_sq (sim_for (sim_seq (sim_var 4)) (sim_gT (sim_gsC (sim_gN 6) (sim_gsC (sim_gN 7) sim_gsN))) (sim_ifS (sim_andT (sim_B (sim_op (sim_I _) (sim_var 7) sim_int)) (sim_orT (sim_B (sim_op sim_eq (sim_op sim_ix (sim_var 0) (sim_op sim_add sim_int (sim_var 7))) sim_str)) (sim_andT (sim_B (sim_op sim_eq (sim_var 7) sim_int)) (sim_andT (sim_B (sim_op sim_eq (sim_op sim_ix (sim_var 0) sim_int) sim_str)) (sim_B (sim_op sim_eq (sim_op sim_ix (sim_var 0) sim_int) sim_str)))))) (sim_drop (sim_mo 5 sim_append (simA_cons (sim_var 6) simA_nil))) sim_nx))
    (sim_ret (sim_call sim_tupleB (simA_cons (sim_var 5) simA_nil))))))))
theorem C_law_rash {P : Program} {w : World} {K : PySem.W.Frag} {mg : Str → Option Value} {base : Heap} {T : Vl.Tok} (D : Txt K mg) (hS : SM base) (d : Def K mg "_law_rash" P_law_rash s_law_rash) {k : Nat} {c_law_mark : VCon} {k_law_mark : Nat} (C_law_mark : Callee P w K mg base "_law_mark" P_law_mark s_law_mark k_law_mark (conV T c_law_mark)) (l_law_mark : k_law_mark ≤ k) {c : VCon} (hlen : ∀ us m Q, c us m Q → us.length = 1)
    (hv : ∀ us m Q, c us m Q → v_law_rash c_law_mark ⟨us.map toX ++ List.replicate (8 - us.length) none, m⟩ (vEnd Q)) : Callee P w K mg base "_law_rash" P_law_rash s_law_rash (k + 1) (conV T c) :=
  callee_of d sc_law_rash (fun xs S0 P h => conV_len hlen xs S0 P h) (jb_law_rash D hS C_law_mark l_law_mark) (pl_of (sim_law_rash T _) hv)
/-! _law_heard -/
theorem sc_law_heard : FnScope N_law_heard P_law_heard (defScope s_law_heard) := ⟨rfl, rfl, rfl, by decide +kernel, rfl, by decide +kernel, by decide +kernel⟩
def b_law_heard (c_hasty : Con) : WS :=
  (wTry 2 "unfit" (wLstX "names" (wIf (wTru (wVar 1)) (wFK c_hasty 1 [0] (wCons (wVar 0) wNil)) (wF c_hasty (wCons (wVar 0) wNil)))))
theorem jb_law_heard {P : Program} {w : World} {K : PySem.W.Frag} {mg : Str → Option Value} {base : Heap} (T : Txt K mg) (hS : SM base) (hX : XcF P K mg "Unfit" "MarkError") {k : Nat} {c_hasty : Con} {k_hasty : Nat} (C_hasty : CalleeX P w K mg base (adr (mg "Unfit")) "hasty" P_hasty s_hasty k_hasty c_hasty) (l_hasty : k_hasty ≤ k)
    (f : Addr) (cdv : Value) (A : Around) (outer : List Env) (s : Shared) (H : Hp) (E : XK) (hr : Room k (A.deeper (envOfC "_law_heard" (defScope s_law_heard) s.heap.objs.size f cdv))) (hgd : A.guards = some []) :
    JB (cxOf CX0 P w K mg base N_law_heard "_law_heard" (defScope s_law_heard) f cdv A outer s H E).nox (defBody s_law_heard) (b_law_heard c_hasty) := by
  have scND := sc_law_heard.nd
  exact (jb_one (js_try rfl rfl rfl scND rfl hX.g hX.ex hX.ec rfl T.n_isinstance rfl hX.gm hX.kt (fun Z pn xe tk => (rex_lst (rex_if (rt_tru (re_var 1)) (rex_callK (ks := ["book"]) (is := [0]) C_hasty (hr.mono l_hasty) hgd tk (rk_cons (re_var 0) rk_nil) (fun _ _ _ _ _ _ ws hl => match ws, hl with | [_], _ => rfl)) (rex_call C_hasty (hr.mono l_hasty) hgd tk (ra_cons (re_var 0) ra_nil)))))))
def v_law_heard (c_hasty : VCon) : VS :=
  (vTry 2 "unfit" (vLstX "names" (vIf (vTru (vVar 1)) (vFK c_hasty 1 [0] (vCons (vVar 0) vN)) (vF c_hasty (vCons (vVar 0) vN)))))
theorem sim_law_heard (T : Vl.Tok) (c_hasty : VCon) : SimS T (b_law_heard (conV T c_hasty)) (v_law_heard c_hasty) :=
  (sim_try 2 (sim_lstX (sim_if (sim_tru (sim_var 1)) (sim_FK (simA_cons (sim_var 0) simA_nil)) (sim_F (simA_cons (sim_var 0) simA_nil)))))
theorem C_law_heard {P : Program} {w : World} {K : PySem.W.Frag} {mg : Str → Option Value} {base : Heap} {T : Vl.Tok} (D : Txt K mg) (hS : SM base) (hX : XcF P K mg "Unfit" "MarkError") (d : Def K mg "_law_heard" P_law_heard s_law_heard) {k : Nat} {c_hasty : VCon} {k_hasty : Nat} (C_hasty : CalleeX P w K mg base (adr (mg "Unfit")) "hasty" P_hasty s_hasty k_hasty (conV T c_hasty)) (l_hasty : k_hasty ≤ k) {c : VCon} (hlen : ∀ us m Q, c us m Q → us.length = 2)
    (hv : ∀ us m Q, c us m Q → v_law_heard c_hasty ⟨us.map toX ++ List.replicate (3 - us.length) none, m⟩ (vEnd Q)) : Callee P w K mg base "_law_heard" P_law_heard s_law_heard (k + 1) (conV T c) :=
  callee_of d sc_law_heard (fun xs S0 P h => conV_len hlen xs S0 P h) (jb_law_heard D hS hX C_hasty l_hasty) (pl_of (sim_law_heard T _) hv)
/-! _law_compared -/
theorem sc_law_compared : FnScope N_law_compared P_law_compared (defScope s_law_compared) := ⟨rfl, rfl, rfl, by decide +kernel, rfl, by decide +kernel, by decide +kernel⟩
def b_law_compared (c_never_more : Con) : WS :=
  (wTry 3 "unfit" (wLstX "is" (wIf (wTru (wVar 2)) (wFK c_never_more 2 [1, 0] (wCons (wVar 1) (wCons (wVar 0) wNil))) (wF c_never_more (wCons (wVar 0) (wCons (wVar 1) wNil))))))
theorem jb_law_compared {P : Program} {w : World} {K : PySem.W.Frag} {mg : Str → Option Value} {base : Heap} (T : Txt K mg) (hS : SM base) (hX : XcF P K mg "Unfit" "MarkError") {k : Nat} {c_never_more : Con} {k_never_more : Nat} (C_never_more : CalleeX P w K mg base (adr (mg "Unfit")) "never_more" P_never_more s_never_more k_never_more c_never_more) (l_never_more : k_never_more ≤ k)
    (f : Addr) (cdv : Value) (A : Around) (outer : List Env) (s : Shared) (H : Hp) (E : XK) (hr : Room k (A.deeper (envOfC "_law_compared" (defScope s_law_compared) s.heap.objs.size f cdv))) (hgd : A.guards = some []) :
    JB (cxOf CX0 P w K mg base N_law_compared "_law_compared" (defScope s_law_compared) f cdv A outer s H E).nox (defBody s_law_compared) (b_law_compared c_never_more) := by
  have scND := sc_law_compared.nd
  exact (jb_one (js_try rfl rfl rfl scND rfl hX.g hX.ex hX.ec rfl T.n_isinstance rfl hX.gm hX.kt (fun Z pn xe tk => (rex_lst (rex_if (rt_tru (re_var 2)) (rex_callK (ks := ["other", "one"]) (is := [1, 0]) C_never_more (hr.mono l_never_more) hgd tk (rk_cons (re_var 1) (rk_cons (re_var 0) rk_nil)) (fun _ _ _ _ _ _ ws hl => match ws, hl with | [_, _], _ => rfl)) (rex_call C_never_more (hr.mono l_never_more) hgd tk (ra_cons (re_var 0) (ra_cons (re_var 1) ra_nil))))))))
def v_law_compared (c_never_more : VCon) : VS :=
  (vTry 3 "unfit" (vLstX "is" (vIf (vTru (vVar 2)) (vFK c_never_more 2 [1, 0] (vCons (vVar 1) (vCons (vVar 0) vN))) (vF c_never_more (vCons (vVar 0) (vCons (vVar 1) vN))))))
theorem sim_law_compared (T : Vl.Tok) (c_never_more : VCon) : SimS T (b_law_compared (conV T c_never_more)) (v_law_compared c_never_more) :=
  (sim_try 3 (sim_lstX (sim_if (sim_tru (sim_var 2)) (sim_FK (simA_cons (sim_var 1) (simA_cons (sim_var 0) simA_nil))) (sim_F (simA_cons (sim_var 0) (simA_cons (sim_var 1) simA_nil))))))
theorem C_law_compared {P : Program} {w : World} {K : PySem.W.Frag} {mg : Str → Option Value} {base : Heap} {T : Vl.Tok} (D : Txt K mg) (hS : SM base) (hX : XcF P K mg "Unfit" "MarkError") (d : Def K mg "_law_compared" P_law_compared s_law_compared) {k : Nat} {c_never_more : VCon} {k_never_more : Nat} (C_never_more : CalleeX P w K mg base (adr (mg "Unfit")) "never_more" P_never_more s_never_more k_never_more (conV T c_never_more)) (l_never_more : k_never_more ≤ k) {c : VCon} (hlen : ∀ us m Q, c us m Q → us.length = 3)
    (hv : ∀ us m Q, c us m Q → v_law_compared c_never_more ⟨us.map toX ++ List.replicate (4 - us.length) none, m⟩ (vEnd Q)) : Callee P w K mg base "_law_compared" P_law_compared s_law_compared (k + 1) (conV T c) :=
  callee_of d sc_law_compared (fun xs S0 P h => conV_len hlen xs S0 P h) (jb_law_compared D hS hX C_never_more l_never_more) (pl_of (sim_law_compared T _) hv)
/-! _law_is_right -/
theorem sc_law_is_right : FnScope N_law_is_right P_law_is_right (defScope s_law_is_right) := ⟨rfl, rfl, rfl, by decide +kernel, rfl, by decide +kernel, by decide +kernel⟩
def b_law_is_right (c_law_is_calm : Con) (c_law_rash : Con) (c_law_heard : Con) : WS :=
  (wSq (wSet 1 (wCall bReprA (wCons (wIf (wTru (wF c_law_is_calm (wCons (wVar 0) wNil))) (wLst (wCons (wC (.str "names")) (wCons (wF c_law_rash (wCons (wVar 0) wNil)) wNil))) (wLst (wCons (wC (.str "unfit")) (wCons (wC (.bl true)) wNil)))) wNil)))
    (wRet (wAnd (wOp fEq (wCall bReprA (wCons (wF c_law_heard (wCons (wVar 0) (wCons (wC (.bl false)) wNil))) wNil)) (wVar 1)) (wOp fEq (wCall bReprA (wCons (wVar 0) wNil)) (wCall bReprA (wCons (wCall bTuple (wCons (wCall bList (wCons (wVar 0) wNil)) wNil)) wNil))))))
theorem jb_law_is_right {P : Program} {w : World} {K : PySem.W.Frag} {mg : Str → Option Value} {base : Heap} (T : Txt K mg) (hS : SM base) {k : Nat} {c_law_is_calm : Con} {k_law_is_calm : Nat} (C_law_is_calm : Callee P w K mg base "_law_is_calm" P_law_is_calm s_law_is_calm k_law_is_calm c_law_is_calm) (l_law_is_calm : k_law_is_calm ≤ k) {c_law_rash : Con} {k_law_rash : Nat} (C_law_rash : Callee P w K mg base "_law_rash" P_law_rash s_law_rash k_law_rash c_law_rash) (l_law_rash : k_law_rash ≤ k) {c_law_heard : Con} {k_law_heard : Nat} (C_law_heard : Callee P w K mg base "_law_heard" P_law_heard s_law_heard k_law_heard c_law_heard) (l_law_heard : k_law_heard ≤ k)
    (f : Addr) (cdv : Value) (A : Around) (outer : List Env) (s : Shared) (H : Hp) (E : XK) (hr : Room k (A.deeper (envOfC "_law_is_right" (defScope s_law_is_right) s.heap.objs.size f cdv))) (hgd : A.guards = some []) :
    JB (cxOf CX0 P w K mg base N_law_is_right "_law_is_right" (defScope s_law_is_right) f cdv A outer s H E).nox (defBody s_law_is_right) (b_law_is_right c_law_is_calm c_law_rash c_law_heard) := by
  have scND := sc_law_is_right.nd
  exact (jb_cons (js_set 1 scND (re_callB (call_bReprA hS hgd hr.units) rfl T.n_repr bt_repr (ra_cons (re_if (rt_tru (re_callee C_law_is_calm (hr.mono l_law_is_calm) hgd (ra_cons (re_var 0) ra_nil) pass0)) (re_lst (ra_cons re_str (ra_cons (re_callee C_law_rash (hr.mono l_law_rash) hgd (ra_cons (re_var 0) ra_nil) pass0) ra_nil))) (re_lst (ra_cons re_str (ra_cons re_bl ra_nil)))) ra_nil)))
    (jb_one (js_ret (re_and (re_cmp (op_fEq hr.units) (re_callB (call_bReprA hS hgd hr.units) rfl T.n_repr bt_repr (ra_cons (re_callee C_law_heard (hr.mono l_law_heard) hgd (ra_cons (re_var 0) (ra_cons re_bl ra_nil)) pass0) ra_nil)) (re_var 1) (by rfl)) (re_one (re_cmp (op_fEq hr.units) (re_callB (call_bReprA hS hgd hr.units) rfl T.n_repr bt_repr (ra_cons (re_var 0) ra_nil)) (re_callB (call_bReprA hS hgd hr.units) rfl T.n_repr bt_repr (ra_cons (re_callTy call_bTuple rfl T.n_tuple bt_tuple (ra_cons (re_callTy call_bList rfl T.n_list bt_list (ra_cons (re_var 0) ra_nil)) ra_nil)) ra_nil)) (by rfl)))))))
def v_law_is_right (c_law_is_calm : VCon) (c_law_rash : VCon) (c_law_heard : VCon) : VS :=
  (vSq (vSet 1 (vCall vRepr (vCons (vIf (vTru (vF c_law_is_calm (vCons (vVar 0) vN))) (vLst (vCons (vC (.str "names")) (vCons (vF c_law_rash (vCons (vVar 0) vN)) vN))) (vLst (vCons (vC (.str "unfit")) (vCons (vC (.bool true)) vN)))) vN)))
    (vRet (vAnd (vOp vEq (vCall vRepr (vCons (vF c_law_heard (vCons (vVar 0) (vCons (vC (.bool false)) vN))) vN)) (vVar 1)) (vOp vEq (vCall vRepr (vCons (vVar 0) vN)) (vCall vRepr (vCons (vCall vTupleB (vCons (vCall vListB (vCons (vVar 0) vN)) vN)) vN))))))
theorem sim_law_is_right (T : Vl.Tok) (c_law_is_calm : VCon) (c_law_rash : VCon) (c_law_heard : VCon) : SimS T (b_law_is_right (conV T c_law_is_calm) (conV T c_law_rash) (conV T c_law_heard)) (v_law_is_right c_law_is_calm c_law_rash c_law_heard) :=
  (sim_sq (sim_set 1 (sim_call sim_repr (simA_cons (sim_if (sim_tru (sim_F (simA_cons (sim_var 0) simA_nil))) (sim_lst (simA_cons sim_str (simA_cons (sim_F (simA_cons (sim_var 0) simA_nil)) simA_nil))) (sim_lst (simA_cons sim_str (simA_cons sim_bl simA_nil)))) simA_nil)))
    (sim_ret (sim_and (sim_op sim_eq (sim_call sim_repr (simA_cons (sim_F (simA_cons (sim_var 0) (simA_cons sim_bl simA_nil))) simA_nil)) (sim_var 1)) (sim_op sim_eq (sim_call sim_repr (simA_cons (sim_var 0) simA_nil)) (sim_call sim_repr (simA_cons (sim_call sim_tupleB (simA_cons (sim_call sim_listB (simA_cons (sim_var 0) simA_nil)) simA_nil)) simA_nil))))))
theorem C_law_is_right {P : Program} {w : World} {K : PySem.W.Frag} {mg : Str → Option Value} {base : Heap} {T : Vl.Tok} (D : Txt K mg) (hS : SM base) (d : Def K mg "_law_is_right" P_law_is_right s_law_is_right) {k : Nat} {c_law_is_calm : VCon} {k_law_is_calm : Nat} (C_law_is_calm : Callee P w K mg base "_law_is_calm" P_law_is_calm s_law_is_calm k_law_is_calm (conV T c_law_is_calm)) (l_law_is_calm : k_law_is_calm ≤ k) {c_law_rash : VCon} {k_law_rash : Nat} (C_law_rash : Callee P w K mg base "_law_rash" P_law_rash s_law_rash k_law_rash (conV T c_law_rash)) (l_law_rash : k_law_rash ≤ k) {c_law_heard : VCon} {k_law_heard : Nat} (C_law_heard : Callee P w K mg base "_law_heard" P_law_heard s_law_heard k_law_heard (conV T c_law_heard)) (l_law_heard : k_law_heard ≤ k) {c : VCon} (hlen : ∀ us m Q, c us m Q → us.length = 1)
    (hv : ∀ us m Q, c us m Q → v_law_is_right c_law_is_calm c_law_rash c_law_heard ⟨us.map toX ++ List.replicate (2 - us.length) none, m⟩ (vEnd Q)) : Callee P w K mg base "_law_is_right" P_law_is_right s_law_is_right (k + 1) (conV T c) :=
  callee_of d sc_law_is_right (fun xs S0 P h => conV_len hlen xs S0 P h) (jb_law_is_right D hS C_law_is_calm l_law_is_calm C_law_rash l_law_rash C_law_heard l_law_heard) (pl_of (sim_law_is_right T _ _ _) hv)
/-! _law_is_pair_right -/
theorem sc_law_is_pair_right : FnScope N_law_is_pair_right P_law_is_pair_right (defScope s_law_is_pair_right) := ⟨rfl, rfl, rfl, by decide +kernel, rfl, by decide +kernel, by decide +kernel⟩
def b_law_is_pair_right (c_law_is_calm : Con) (c_law_rash : Con) (c_law_compared : Con) : WS :=
  (wSq (wSet 2 (wCall bReprA (wCons (wLst (wCons (wC (.str "unfit")) (wCons (wC (.bl true)) wNil))) wNil)))
    (wSq (wIfS (wAndT (wTru (wF c_law_is_calm (wCons (wVar 0) wNil))) (wTru (wF c_law_is_calm (wCons (wVar 1) wNil)))) (wSq (wSet 3 (wF c_law_rash (wCons (wVar 1) wNil)))
    (wSet 2 (wCall bReprA (wCons (wLst (wCons (wC (.str "is")) (wCons (wOp fEq (wLc (wSeqI (wF c_law_rash (wCons (wVar 0) wNil))) (gN 4) (wB (wOp (fInY true) (wVar 4) (wVar 3))) (wVar 4) [4]) (wLst wNil)) wNil))) wNil)))) wNx)
    (wSq (wIfS (wB (wOp fNe (wCall bReprA (wCons (wF c_law_compared (wCons (wVar 0) (wCons (wVar 1) (wCons (wC (.bl true)) wNil)))) wNil)) (wVar 2))) (wRet (wC (.bl false))) wNx)
    (wRet (wOp fEq (wCall bReprA (wCons (wF c_law_compared (wCons (wVar 0) (wCons (wVar 1) (wCons (wC (.bl false)) wNil)))) wNil)) (wVar 2))))))
theorem jb_law_is_pair_right {P : Program} {w : World} {K : PySem.W.Frag} {mg : Str → Option Value} {base : Heap} (T : Txt K mg) (hS : SM base) {k : Nat} {c_law_is_calm : Con} {k_law_is_calm : Nat} (C_law_is_calm : Callee P w K mg base "_law_is_calm" P_law_is_calm s_law_is_calm k_law_is_calm c_law_is_calm) (l_law_is_calm : k_law_is_calm ≤ k) {c_law_rash : Con} {k_law_rash : Nat} (C_law_rash : Callee P w K mg base "_law_rash" P_law_rash s_law_rash k_law_rash c_law_rash) (l_law_rash : k_law_rash ≤ k) {c_law_compared : Con} {k_law_compared : Nat} (C_law_compared : Callee P w K mg base "_law_compared" P_law_compared s_law_compared k_law_compared c_law_compared) (l_law_compared : k_law_compared ≤ k)
    (f : Addr) (cdv : Value) (A : Around) (outer : List Env) (s : Shared) (H : Hp) (E : XK) (hr : Room k (A.deeper (envOfC "_law_is_pair_right" (defScope s_law_is_pair_right) s.heap.objs.size f cdv))) (hgd : A.guards = some []) :
    JB (cxOf CX0 P w K mg base N_law_is_pair_right "_law_is_pair_right" (defScope s_law_is_pair_right) f cdv A outer s H E).nox (defBody s_law_is_pair_right) (b_law_is_pair_right c_law_is_calm c_law_rash c_law_compared) := by
  have scND := sc_law_is_pair_right.nd
  exact (jb_cons (js_set 2 scND (re_callB (call_bReprA hS hgd hr.units) rfl T.n_repr bt_repr (ra_cons (re_lst (ra_cons re_str (ra_cons re_bl ra_nil))) ra_nil)))
    (jb_cons (js_if (RW.rt (rw_and (rt_tru (re_callee C_law_is_calm (hr.mono l_law_is_calm) hgd (ra_cons (re_var 0) ra_nil) pass0)) (rw_and1 (rt_tru (re_callee C_law_is_calm (hr.mono l_law_is_calm) hgd (ra_cons (re_var 1) ra_nil) pass0))))) (jb_cons (js_set 3 scND (re_callee C_law_rash (hr.mono l_law_rash) hgd (ra_cons (re_var 1) ra_nil) pass0))
    (jb_one (js_set 2 scND (re_callB (call_bReprA hS hgd hr.units) rfl T.n_repr bt_repr (ra_cons (re_lst (ra_cons re_str (ra_cons (re_cmp (op_fEq hr.units) (re_lc (own := [("name", 4)]) rfl scND (ri_seq (re_callee C_law_rash (hr.mono l_law_rash) hgd (ra_cons (re_var 0) ra_nil) pass0)) (blkOk_by (N := N_law_is_pair_right) (sc := defScope s_law_is_pair_right) (by decide +kernel)) (by decide) (fun _ _ _ _ _ => (rg_name 4 scND)) (fun _ _ _ _ _ => (rts_one (rt_cmp (op_fNotInY hr.units) (re_var 4) (re_var 3) (by rfl)))) (fun _ _ _ _ _ => (re_var 4))) (re_lst ra_nil) (by rfl)) ra_nil))) ra_nil))))) jb_nil)
    (jb_cons (js_if (rt_cmp (op_fNe hr.units) (re_callB (call_bReprA hS hgd hr.units) rfl T.n_repr bt_repr (ra_cons (re_callee C_law_compared (hr.mono l_law_compared) hgd (ra_cons (re_var 0) (ra_cons (re_var 1) (ra_cons re_bl ra_nil))) pass0) ra_nil)) (re_var 2) (by rfl)) (jb_one (js_ret re_bl)) jb_nil)
    (jb_one (js_ret (re_cmp (op_fEq hr.units) (re_callB (call_bReprA hS hgd hr.units) rfl T.n_repr bt_repr (ra_cons (re_callee C_law_compared (hr.mono l_law_compared) hgd (ra_cons (re_var 0) (ra_cons (re_var 1) (ra_cons re_bl ra_nil))) pass0) ra_nil)) (re_var 2) (by rfl)))))))
def v_law_is_pair_right (c_law_is_calm : VCon) (c_law_rash : VCon) (c_law_compared : VCon) : VS :=
  (vSq (vSet 2 (vCall vRepr (vCons (vLst (vCons (vC (.str "unfit")) (vCons (vC (.bool true)) vN))) vN)))
    (vSq (vIfS (vAndT (vTru (vF c_law_is_calm (vCons (vVar 0) vN))) (vTru (vF c_law_is_calm (vCons (vVar 1) vN)))) (vSq (vSet 3 (vF c_law_rash (vCons (vVar 1) vN)))
    (vSet 2 (vCall vRepr (vCons (vLst (vCons (vC (.str "is")) (vCons (vOp vEq (vLc (vSeq (vF c_law_rash (vCons (vVar 0) vN))) (hN 4) (vB (vOp vNotInY (vVar 4) (vVar 3))) (vVar 4) [4]) (vLst vN)) vN))) vN)))) vNx)
    (vSq (vIfS (vB (vOp vNe (vCall vRepr (vCons (vF c_law_compared (vCons (vVar 0) (vCons (vVar 1) (vCons (vC (.bool true)) vN)))) vN)) (vVar 2))) (vRet (vC (.bool false))) vNx)
    (vRet (vOp vEq (vCall vRepr (vCons (vF c_law_compared (vCons (vVar 0) (vCons (vVar 1) (vCons (vC (.bool false)) vN)))) vN)) (vVar 2))))))
theorem sim_law_is_pair_right (T : Vl.Tok) (c_law_is_calm : VCon) (c_law_rash : VCon) (c_law_compared : VCon) : SimS T (b_law_is_pair_right (conV T c_law_is_calm) (conV T c_law_rash) (conV T c_law_compared)) (v_law_is_pair_right c_law_is_calm c_law_rash c_law_compared) :=
  (sim_sq (sim_set 2 (sim_call sim_repr (simA_cons (sim_lst (simA_cons sim_str (simA_cons sim_bl simA_nil))) simA_nil)))
    (sim_sq (sim_ifS (sim_andT (sim_tru (sim_F (simA_cons (sim_var 0) simA_nil))) (sim_tru (sim_F (simA_cons (sim_var 1) simA_nil)))) (sim_sq (sim_set 3 (sim_F (simA_cons (sim_var 1) simA_nil)))
    (sim_set 2 (sim_call sim_repr (simA_cons (sim_lst (simA_cons sim_str (simA_cons (sim_op sim_eq (sim_lc (sim_seq (sim_F (simA_cons (sim_var 0) simA_nil))) (sim_gN 4) (by decide) (sim_B (sim_op sim_notInY (sim_var 4) (sim_var 3))) (sim_var 4)) (sim_lst simA_nil)) simA_nil))) simA_nil)))) sim_nx)
    (sim_sq (sim_ifS (sim_B (sim_op sim_ne (sim_call sim_repr (simA_cons (sim_F (simA_cons (sim_var 0) (simA_cons (sim_var 1) (simA_cons sim_bl simA_nil)))) simA_nil)) (sim_var 2))) (sim_ret sim_bl) sim_nx)
    (sim_ret (sim_op sim_eq (sim_call sim_repr (simA_cons (sim_F (simA_cons (sim_var 0) (simA_cons (sim_var 1) (simA_cons sim_bl simA_nil)))) simA_nil)) (sim_var 2))))))
theorem C_law_is_pair_right {P : Program} {w : World} {K : PySem.W.Frag} {mg : Str → Option Value} {base : Heap} {T : Vl.Tok} (D : Txt K mg) (hS : SM base) (d : Def K mg "_law_is_pair_right" P_law_is_pair_right s_law_is_pair_right) {k : Nat} {c_law_is_calm : VCon} {k_law_is_calm : Nat} (C_law_is_calm : Callee P w K mg base "_law_is_calm" P_law_is_calm s_law_is_calm k_law_is_calm (conV T c_law_is_calm)) (l_law_is_calm : k_law_is_calm ≤ k) {c_law_rash : VCon} {k_law_rash : Nat} (C_law_rash : Callee P w K mg base "_law_rash" P_law_rash s_law_rash k_law_rash (conV T c_law_rash)) (l_law_rash : k_law_rash ≤ k) {c_law_compared : VCon} {k_law_compared : Nat} (C_law_compared : Callee P w K mg base "_law_compared" P_law_compared s_law_compared k_law_compared (conV T c_law_compared)) (l_law_compared : k_law_compared ≤ k) {c : VCon} (hlen : ∀ us m Q, c us m Q → us.length = 2)
    (hv : ∀ us m Q, c us m Q → v_law_is_pair_right c_law_is_calm c_law_rash c_law_compared ⟨us.map toX ++ List.replicate (5 - us.length) none, m⟩ (vEnd Q)) : Callee P w K mg base "_law_is_pair_right" P_law_is_pair_right s_law_is_pair_right (k + 1) (conV T c) :=
  callee_of d sc_law_is_pair_right (fun xs S0 P h => conV_len hlen xs S0 P h) (jb_law_is_pair_right D hS C_law_is_calm l_law_is_calm C_law_rash l_law_rash C_law_compared l_law_compared) (pl_of (sim_law_is_pair_right T _ _ _) hv)
/-! law -/
theorem sc_law : FnScope N_law P_law (defScope s_law) := ⟨rfl, rfl, rfl, by decide +kernel, rfl, by decide +kernel, by decide +kernel⟩
def b_law (c_law_bag : Con) (c_law_calm_book : Con) (c_law_draw : Con) (c_law_turned : Con) (c_law_pick : Con) (c_law_words : Con) (c_law_is_right : Con) (c_law_heard : Con) (c_law_is_pair_right : Con) : WS :=
  (wSq (wSet 1 (wF c_law_bag (wCons (wVar 0) wNil)))
    (wSq (wSet 2 (wLst wNil))
    (wSq (wFor (wR1 (wCons (wC (.int 5)) wNil)) (gN 3) (wSq (wPar 5 6 (wCons (wF c_law_calm_book (wCons (wVar 1) wNil)) (wCons (wF c_law_draw (wCons (wVar 1) (wCons (wC (.int 12)) wNil))) wNil)))
    (wSq (wSet 7 (wF c_law_turned (wCons (wVar 5) (wCons (wVar 6) (wCons (wF c_law_pick (wCons (wVar 1) (wCons (wOp fIx (wF c_law_words wNil) (wVar 6)) wNil))) wNil)))))
    (wSq (wIfS (wNot (wTru (wF c_law_is_right (wCons (wVar 5) wNil)))) (wRet (wC (.bl false))) wNx)
    (wSq (wIfS (wNot (wTru (wF c_law_is_right (wCons (wVar 7) wNil)))) (wRet (wC (.bl false))) wNx)
    (wSq (wIfS (wB (wOp fNe (wCall bReprA (wCons (wF c_law_heard (wCons (wVar 7) (wCons (wC (.bl true)) wNil))) wNil)) (wCall bReprA (wCons (wF c_law_heard (wCons (wVar 7) (wCons (wC (.bl false)) wNil))) wNil)))) (wRet (wC (.bl false))) wNx)
    (wSet 2 (wOp fAdd (wVar 2) (wLst (wCons (wVar 5) (wCons (wVar 7) wNil)))))))))))
    (wSq (wSet 4 (wCall bReprA (wCons (wVar 2) wNil)))
    (wSq (wFor (wR1 (wCons (wC (.int 14)) wNil)) (gN 3) (wSq (wPar 8 9 (wCons (wF c_law_pick (wCons (wVar 1) (wCons (wVar 2) wNil))) (wCons (wF c_law_pick (wCons (wVar 1) (wCons (wVar 2) wNil))) wNil)))
    (wSq (wIfS (wNot (wTru (wF c_law_is_pair_right (wCons (wVar 8) (wCons (wVar 9) wNil))))) (wRet (wC (.bl false))) wNx)
    (wIfS (wNot (wTru (wF c_law_is_pair_right (wCons (wVar 9) (wCons (wVar 8) wNil))))) (wRet (wC (.bl false))) wNx))))
    (wRet (wOp fEq (wCall bReprA (wCons (wVar 2) wNil)) (wVar 4))))))))
theorem jb_law {P : Program} {w : World} {K : PySem.W.Frag} {mg : Str → Option Value} {base : Heap} (T : Txt K mg) (hS : SM base) {k : Nat} {c_law_bag : Con} {k_law_bag : Nat} (C_law_bag : Callee P w K mg base "_law_bag" P_law_bag s_law_bag k_law_bag c_law_bag) (l_law_bag : k_law_bag ≤ k) {c_law_calm_book : Con} {k_law_calm_book : Nat} (C_law_calm_book : Callee P w K mg base "_law_calm_book" P_law_calm_book s_law_calm_book k_law_calm_book c_law_calm_book) (l_law_calm_book : k_law_calm_book ≤ k) {c_law_draw : Con} {k_law_draw : Nat} (C_law_draw : Callee P w K mg base "_law_draw" P_law_draw s_law_draw k_law_draw c_law_draw) (l_law_draw : k_law_draw ≤ k) {c_law_turned : Con} {k_law_turned : Nat} (C_law_turned : Callee P w K mg base "_law_turned" P_law_turned s_law_turned k_law_turned c_law_turned) (l_law_turned : k_law_turned ≤ k) {c_law_pick : Con} {k_law_pick : Nat} (C_law_pick : Callee P w K mg base "_law_pick" P_law_pick s_law_pick k_law_pick c_law_pick) (l_law_pick : k_law_pick ≤ k) {c_law_words : Con} {k_law_words : Nat} (C_law_words : Callee P w K mg base "_law_words" P_law_words s_law_words k_law_words c_law_words) (l_law_words : k_law_words ≤ k) {c_law_is_right : Con} {k_law_is_right : Nat} (C_law_is_right : Callee P w K mg base "_law_is_right" P_law_is_right s_law_is_right k_law_is_right c_law_is_right) (l_law_is_right : k_law_is_right ≤ k) {c_law_heard : Con} {k_law_heard : Nat} (C_law_heard : Callee P w K mg base "_law_heard" P_law_heard s_law_heard k_law_heard c_law_heard) (l_law_heard : k_law_heard ≤ k) {c_law_is_pair_right : Con} {k_law_is_pair_right : Nat} (C_law_is_pair_right : Callee P w K mg base "_law_is_pair_right" P_law_is_pair_right s_law_is_pair_right k_law_is_pair_right c_law_is_pair_right) (l_law_is_pair_right : k_law_is_pair_right ≤ k)
    (f : Addr) (cdv : Value) (A : Around) (outer : List Env) (s : Shared) (H : Hp) (E : XK) (hr : Room k (A.deeper (envOfC "law" (defScope s_law) s.heap.objs.size f cdv))) (hgd : A.guards = some []) :
    JB (cxOf CX0 P w K mg base N_law "law" (defScope s_law) f cdv A outer s H E).nox (defBody s_law) (b_law c_law_bag c_law_calm_book c_law_draw c_law_turned c_law_pick c_law_words c_law_is_right c_law_heard c_law_is_pair_right) := by
  have scND := sc_law.nd
  exact (jb_cons (js_set 1 scND (re_callee C_law_bag (hr.mono l_law_bag) hgd (ra_cons (re_var 0) ra_nil) pass0))
    (jb_cons (js_set 2 scND (re_lst ra_nil))
    (jb_cons (js_for PassesOwn.never rfl (ri_range1 rfl T.n_range (ra_cons re_int ra_nil)) (rg_name 3 scND) (jb_cons (js_par 5 6 rfl scND (ra_cons (re_callee C_law_calm_book (hr.mono l_law_calm_book) hgd (ra_cons (re_var 1) ra_nil) pass0) (ra_cons (re_callee C_law_draw (hr.mono l_law_draw) hgd (ra_cons (re_var 1) (ra_cons re_int ra_nil)) pass0) ra_nil)))
    (jb_cons (js_set 7 scND (re_callee C_law_turned (hr.mono l_law_turned) hgd (ra_cons (re_var 5) (ra_cons (re_var 6) (ra_cons (re_callee C_law_pick (hr.mono l_law_pick) hgd (ra_cons (re_var 1) (ra_cons (re_ix (re_callee0 C_law_words (hr.mono l_law_words) hgd pass0) (re_var 6)) ra_nil)) pass0) ra_nil))) pass0))
    (jb_cons (js_if (rt_not (rt_tru (re_callee C_law_is_right (hr.mono l_law_is_right) hgd (ra_cons (re_var 5) ra_nil) pass0))) (jb_one (js_ret re_bl)) jb_nil)
    (jb_cons (js_if (rt_not (rt_tru (re_callee C_law_is_right (hr.mono l_law_is_right) hgd (ra_cons (re_var 7) ra_nil) pass0))) (jb_one (js_ret re_bl)) jb_nil)
    (jb_cons (js_if (rt_cmp (op_fNe hr.units) (re_callB (call_bReprA hS hgd hr.units) rfl T.n_repr bt_repr (ra_cons (re_callee C_law_heard (hr.mono l_law_heard) hgd (ra_cons (re_var 7) (ra_cons re_bl ra_nil)) pass0) ra_nil)) (re_callB (call_bReprA hS hgd hr.units) rfl T.n_repr bt_repr (ra_cons (re_callee C_law_heard (hr.mono l_law_heard) hgd (ra_cons (re_var 7) (ra_cons re_bl ra_nil)) pass0) ra_nil)) (by rfl)) (jb_one (js_ret re_bl)) jb_nil)
    (jb_one (js_set 2 scND (re_bin op_fAdd (re_var 2) (re_lst (ra_cons (re_var 5) (ra_cons (re_var 7) ra_nil))))))))))))
    (jb_cons (js_set 4 scND (re_callB (call_bReprA hS hgd hr.units) rfl T.n_repr bt_repr (ra_cons (re_var 2) ra_nil)))
    (jb_cons (js_for PassesOwn.never rfl (ri_range1 rfl T.n_range (ra_cons re_int ra_nil)) (rg_name 3 scND) (jb_cons (js_par 8 9 rfl scND (ra_cons (re_callee C_law_pick (hr.mono l_law_pick) hgd (ra_cons (re_var 1) (ra_cons (re_var 2) ra_nil)) pass0) (ra_cons (re_callee C_law_pick (hr.mono l_law_pick) hgd (ra_cons (re_var 1) (ra_cons (re_var 2) ra_nil)) pass0) ra_nil)))
    (jb_cons (js_if (rt_not (rt_tru (re_callee C_law_is_pair_right (hr.mono l_law_is_pair_right) hgd (ra_cons (re_var 8) (ra_cons (re_var 9) ra_nil)) pass0))) (jb_one (js_ret re_bl)) jb_nil)
    (jb_one (js_if (rt_not (rt_tru (re_callee C_law_is_pair_right (hr.mono l_law_is_pair_right) hgd (ra_cons (re_var 9) (ra_cons (re_var 8) ra_nil)) pass0))) (jb_one (js_ret re_bl)) jb_nil)))))
    (jb_one (js_ret (re_cmp (op_fEq hr.units) (re_callB (call_bReprA hS hgd hr.units) rfl T.n_repr bt_repr (ra_cons (re_var 2) ra_nil)) (re_var 4) (by rfl)))))))))
def b_lawR (c_law_calm_book : Con) (c_law_draw : Con) (c_law_turned : Con) (c_law_pick : Con) (c_law_words : Con) (c_law_is_right : Con) (c_law_heard : Con) (c_law_is_pair_right : Con) : WS :=
  (wSq (wSet 2 (wLst wNil))
    (wSq (wFor (wR1 (wCons (wC (.int 5)) wNil)) (gN 3) (wSq (wPar 5 6 (wCons (wF c_law_calm_book (wCons (wVar 1) wNil)) (wCons (wF c_law_draw (wCons (wVar 1) (wCons (wC (.int 12)) wNil))) wNil)))
    (wSq (wSet 7 (wF c_law_turned (wCons (wVar 5) (wCons (wVar 6) (wCons (wF c_law_pick (wCons (wVar 1) (wCons (wOp fIx (wF c_law_words wNil) (wVar 6)) wNil))) wNil)))))
    (wSq (wIfS (wNot (wTru (wF c_law_is_right (wCons (wVar 5) wNil)))) (wRet (wC (.bl false))) wNx)
    (wSq (wIfS (wNot (wTru (wF c_law_is_right (wCons (wVar 7) wNil)))) (wRet (wC (.bl false))) wNx)
    (wSq (wIfS (wB (wOp fNe (wCall bReprA (wCons (wF c_law_heard (wCons (wVar 7) (wCons (wC (.bl true)) wNil))) wNil)) (wCall bReprA (wCons (wF c_law_heard (wCons (wVar 7) (wCons (wC (.bl false)) wNil))) wNil)))) (wRet (wC (.bl false))) wNx)
    (wSet 2 (wOp fAdd (wVar 2) (wLst (wCons (wVar 5) (wCons (wVar 7) wNil)))))))))))
    (wSq (wSet 4 (wCall bReprA (wCons (wVar 2) wNil)))
    (wSq (wFor (wR1 (wCons (wC (.int 14)) wNil)) (gN 3) (wSq (wPar 8 9 (wCons (wF c_law_pick (wCons (wVar 1) (wCons (wVar 2) wNil))) (wCons (wF c_law_pick (wCons (wVar 1) (wCons (wVar 2) wNil))) wNil)))
    (wSq (wIfS (wNot (wTru (wF c_law_is_pair_right (wCons (wVar 8) (wCons (wVar 9) wNil))))) (wRet (wC (.bl false))) wNx)
    (wIfS (wNot (wTru (wF c_law_is_pair_right (wCons (wVar 9) (wCons (wVar 8) wNil))))) (wRet (wC (.bl false))) wNx))))
    (wRet (wOp fEq (wCall bReprA (wCons (wVar 2) wNil)) (wVar 4)))))))
def v_lawR (c_law_calm_book : VCon) (c_law_draw : VCon) (c_law_turned : VCon) (c_law_pick : VCon) (c_law_words : VCon) (c_law_is_right : VCon) (c_law_heard : VCon) (c_law_is_pair_right : VCon) : VS :=
  (vSq (vSet 2 (vLst vN))
    (vSq (vFor (vR1 (vCons (vC (.int 5)) vN)) (hN 3) (vSq (vPar 5 6 (vCons (vF c_law_calm_book (vCons (vVar 1) vN)) (vCons (vF c_law_draw (vCons (vVar 1) (vCons (vC (.int 12)) vN))) vN)))
    (vSq (vSet 7 (vF c_law_turned (vCons (vVar 5) (vCons (vVar 6) (vCons (vF c_law_pick (vCons (vVar 1) (vCons (vOp vIx (vF c_law_words vN) (vVar 6)) vN))) vN)))))
    (vSq (vIfS (vNot (vTru (vF c_law_is_right (vCons (vVar 5) vN)))) (vRet (vC (.bool false))) vNx)
    (vSq (vIfS (vNot (vTru (vF c_law_is_right (vCons (vVar 7) vN)))) (vRet (vC (.bool false))) vNx)
    (vSq (vIfS (vB (vOp vNe (vCall vRepr (vCons (vF c_law_heard (vCons (vVar 7) (vCons (vC (.bool true)) vN))) vN)) (vCall vRepr (vCons (vF c_law_heard (vCons (vVar 7) (vCons (vC (.bool false)) vN))) vN)))) (vRet (vC (.bool false))) vNx)
    (vSet 2 (vOp vAdd (vVar 2) (vLst (vCons (vVar 5) (vCons (vVar 7) vN)))))))))))
    (vSq (vSet 4 (vCall vRepr (vCons (vVar 2) vN)))
    (vSq (vFor (vR1 (vCons (vC (.int 14)) vN)) (hN 3) (vSq (vPar 8 9 (vCons (vF c_law_pick (vCons (vVar 1) (vCons (vVar 2) vN))) (vCons (vF c_law_pick (vCons (vVar 1) (vCons (vVar 2) vN))) vN)))
    (vSq (vIfS (vNot (vTru (vF c_law_is_pair_right (vCons (vVar 8) (vCons (vVar 9) vN))))) (vRet (vC (.bool false))) vNx)
    (vIfS (vNot (vTru (vF c_law_is_pair_right (vCons (vVar 9) (vCons (vVar 8) vN))))) (vRet (vC (.bool false))) vNx))))
    (vRet (vOp vEq (vCall vRepr (vCons (vVar 2) vN)) (vVar 4)))))))
theorem sim_lawR (T : Vl.Tok) (c_law_calm_book : VCon) (c_law_draw : VCon) (c_law_turned : VCon) (c_law_pick : VCon) (c_law_words : VCon) (c_law_is_right : VCon) (c_law_heard : VCon) (c_law_is_pair_right : VCon) : SimS T (b_lawR (conV T c_law_calm_book) (conV T c_law_draw) (conV T c_law_turned) (conV T c_law_pick) (conV T c_law_words) (conV T c_law_is_right) (conV T c_law_heard) (conV T c_law_is_pair_right)) (v_lawR c_law_calm_book c_law_draw c_law_turned c_law_pick c_law_words c_law_is_right c_law_heard c_law_is_pair_right) :=
  (sim_sq (sim_set 2 (sim_lst simA_nil))
    (sim_sq (sim_for (sim_R1 (simA_cons sim_int simA_nil)) (sim_gN 3) (sim_sq (sim_par 5 6 (simA_cons (sim_F (simA_cons (sim_var 1) simA_nil)) (simA_cons (sim_F (simA_cons (sim_var 1) (simA_cons sim_int simA_nil))) simA_nil)))
    (sim_sq (sim_set 7 (sim_F (simA_cons (sim_var 5) (simA_cons (sim_var 6) (simA_cons (sim_F (simA_cons (sim_var 1) (simA_cons (sim_op sim_ix (sim_F simA_nil) (sim_var 6)) simA_nil))) simA_nil)))))
    (sim_sq (sim_ifS (sim_not (sim_tru (sim_F (simA_cons (sim_var 5) simA_nil)))) (sim_ret sim_bl) sim_nx)
    (sim_sq (sim_ifS (sim_not (sim_tru (sim_F (simA_cons (sim_var 7) simA_nil)))) (sim_ret sim_bl) sim_nx)
    (sim_sq (sim_ifS (sim_B (sim_op sim_ne (sim_call sim_repr (simA_cons (sim_F (simA_cons (sim_var 7) (simA_cons sim_bl simA_nil))) simA_nil)) (sim_call sim_repr (simA_cons (sim_F (simA_cons (sim_var 7) (simA_cons sim_bl simA_nil))) simA_nil)))) (sim_ret sim_bl) sim_nx)
    (sim_set 2 (sim_op sim_add (sim_var 2) (sim_lst (simA_cons (sim_var 5) (simA_cons (sim_var 7) simA_nil)))))))))))
    (sim_sq (sim_set 4 (sim_call sim_repr (simA_cons (sim_var 2) simA_nil)))
    (sim_sq (sim_for (sim_R1 (simA_cons sim_int simA_nil)) (sim_gN 3) (sim_sq (sim_par 8 9 (simA_cons (sim_F (simA_cons (sim_var 1) (simA_cons (sim_var 2) simA_nil))) (simA_cons (sim_F (simA_cons (sim_var 1) (simA_cons (sim_var 2) simA_nil))) simA_nil)))
    (sim_sq (sim_ifS (sim_not (sim_tru (sim_F (simA_cons (sim_var 8) (simA_cons (sim_var 9) simA_nil))))) (sim_ret sim_bl) sim_nx)
    (sim_ifS (sim_not (sim_tru (sim_F (simA_cons (sim_var 9) (simA_cons (sim_var 8) simA_nil))))) (sim_ret sim_bl) sim_nx))))
    (sim_ret (sim_op sim_eq (sim_call sim_repr (simA_cons (sim_var 2) simA_nil)) (sim_var 4)))))))
theorem b_law_eq (c_law_bag : Con) (c_law_calm_book : Con) (c_law_draw : Con) (c_law_turned : Con) (c_law_pick : Con) (c_law_words : Con) (c_law_is_right : Con) (c_law_heard : Con) (c_law_is_pair_right : Con) : b_law c_law_bag c_law_calm_book c_law_draw c_law_turned c_law_pick c_law_words c_law_is_right c_law_heard c_law_is_pair_right = wSq (wSet 1 (wF c_law_bag (wCons (wVar 0) wNil))) (b_lawR c_law_calm_book c_law_draw c_law_turned c_law_pick c_law_words c_law_is_right c_law_heard c_law_is_pair_right) := rfl
/-- every def of the text, as it stands behind the top -/
structure Defs (K : PySem.W.Frag) (mg : Str → Option Value) : Prop where
  T : Txt K mg
  d_can_stand : Def K mg "can_stand" P_can_stand s_can_stand
  d_slip_alone : Def K mg "slip_alone" P_slip_alone s_slip_alone
  d_safe_alone : Def K mg "safe_alone" P_safe_alone s_safe_alone
  d_marks_nobody : Def K mg "marks_nobody" P_marks_nobody s_marks_nobody
  d_answers_mark : Def K mg "answers_mark" P_answers_mark s_answers_mark
  d_raises_no_direct_reader : Def K mg "raises_no_direct_reader" P_raises_no_direct_reader s_raises_no_direct_reader
  d_strikes_what_it_asks_for : Def K mg "strikes_what_it_asks_for" P_strikes_what_it_asks_for s_strikes_what_it_asks_for
  d_leaves_marks_below_clean : Def K mg "leaves_marks_below_clean" P_leaves_marks_below_clean s_leaves_marks_below_clean
  d_is_quiet : Def K mg "is_quiet" P_is_quiet s_is_quiet
  d_hasty : Def K mg "hasty" P_hasty s_hasty
  d_never_more : Def K mg "never_more" P_never_more s_never_more
  d_marks_of_situations : Def K mg "marks_of_situations" P_marks_of_situations s_marks_of_situations
  d_works_at : Def K mg "works_at" P_works_at s_works_at
  d_more_situation : Def K mg "more_situation" P_more_situation s_more_situation
  d_law_bag : Def K mg "_law_bag" P_law_bag s_law_bag
  d_law_draw : Def K mg "_law_draw" P_law_draw s_law_draw
  d_law_pick : Def K mg "_law_pick" P_law_pick s_law_pick
  d_law_words : Def K mg "_law_words" P_law_words s_law_words
  d_law_mark : Def K mg "_law_mark" P_law_mark s_law_mark
  d_law_any_book : Def K mg "_law_any_book" P_law_any_book s_law_any_book
  d_law_can_stand : Def K mg "_law_can_stand" P_law_can_stand s_law_can_stand
  d_law_number : Def K mg "_law_number" P_law_number s_law_number
  d_law_turned : Def K mg "_law_turned" P_law_turned s_law_turned
  d_law_safe_book : Def K mg "_law_safe_book" P_law_safe_book s_law_safe_book
  d_law_is_calm : Def K mg "_law_is_calm" P_law_is_calm s_law_is_calm
  d_law_calm_book : Def K mg "_law_calm_book" P_law_calm_book s_law_calm_book
  d_law_rash : Def K mg "_law_rash" P_law_rash s_law_rash
  d_law_heard : Def K mg "_law_heard" P_law_heard s_law_heard
  d_law_compared : Def K mg "_law_compared" P_law_compared s_law_compared
  d_law_is_right : Def K mg "_law_is_right" P_law_is_right s_law_is_right
  d_law_is_pair_right : Def K mg "_law_is_pair_right" P_law_is_pair_right s_law_is_pair_right
  d_law : Def K mg "law" P_law s_law
theorem defs_mk {K : PySem.W.Frag} {mg : Str → Option Value} {h : Heap} (X : K.In h) (G : h.Ns mainGlobals mg)
    {f_can_stand f_slip_alone f_safe_alone f_marks_nobody f_answers_mark f_raises_no_direct_reader f_strikes_what_it_asks_for f_leaves_marks_below_clean f_is_quiet f_hasty f_never_more f_marks_of_situations f_works_at f_more_situation f_law_bag f_law_draw f_law_pick f_law_words f_law_mark f_law_any_book f_law_can_stand f_law_number f_law_turned f_law_safe_book f_law_is_calm f_law_calm_book f_law_rash f_law_heard f_law_compared f_law_is_right f_law_is_pair_right f_law : Addr} {od_can_stand an_can_stand od_slip_alone an_slip_alone od_safe_alone an_safe_alone od_marks_nobody an_marks_nobody od_answers_mark an_answers_mark od_raises_no_direct_reader an_raises_no_direct_reader od_strikes_what_it_asks_for an_strikes_what_it_asks_for od_leaves_marks_below_clean an_leaves_marks_below_clean od_is_quiet an_is_quiet od_hasty an_hasty od_never_more an_never_more od_marks_of_situations an_marks_of_situations od_works_at an_works_at od_more_situation an_more_situation od_law_bag an_law_bag od_law_draw an_law_draw od_law_pick an_law_pick od_law_words an_law_words od_law_mark an_law_mark od_law_any_book an_law_any_book od_law_can_stand an_law_can_stand od_law_number an_law_number od_law_turned an_law_turned od_law_safe_book an_law_safe_book od_law_is_calm an_law_is_calm od_law_calm_book an_law_calm_book od_law_rash an_law_rash od_law_heard an_law_heard od_law_compared an_law_compared od_law_is_right an_law_is_right od_law_is_pair_right an_law_is_pair_right od_law an_law : Option Addr} {sl_can_stand sl_slip_alone sl_safe_alone sl_marks_nobody sl_answers_mark sl_raises_no_direct_reader sl_strikes_what_it_asks_for sl_leaves_marks_below_clean sl_is_quiet sl_hasty sl_never_more sl_marks_of_situations sl_works_at sl_more_situation sl_law_bag sl_law_draw sl_law_pick sl_law_words sl_law_mark sl_law_any_book sl_law_can_stand sl_law_number sl_law_turned sl_law_safe_book sl_law_is_calm sl_law_calm_book sl_law_rash sl_law_heard sl_law_compared sl_law_is_right sl_law_is_pair_right sl_law : Array (Option Value)} {oc_can_stand kV_can_stand dc_can_stand pm_can_stand cd_can_stand ct_can_stand oc_slip_alone kV_slip_alone dc_slip_alone pm_slip_alone cd_slip_alone ct_slip_alone oc_safe_alone kV_safe_alone dc_safe_alone pm_safe_alone cd_safe_alone ct_safe_alone oc_marks_nobody kV_marks_nobody dc_marks_nobody pm_marks_nobody cd_marks_nobody ct_marks_nobody oc_answers_mark kV_answers_mark dc_answers_mark pm_answers_mark cd_answers_mark ct_answers_mark oc_raises_no_direct_reader kV_raises_no_direct_reader dc_raises_no_direct_reader pm_raises_no_direct_reader cd_raises_no_direct_reader ct_raises_no_direct_reader oc_strikes_what_it_asks_for kV_strikes_what_it_asks_for dc_strikes_what_it_asks_for pm_strikes_what_it_asks_for cd_strikes_what_it_asks_for ct_strikes_what_it_asks_for oc_leaves_marks_below_clean kV_leaves_marks_below_clean dc_leaves_marks_below_clean pm_leaves_marks_below_clean cd_leaves_marks_below_clean ct_leaves_marks_below_clean oc_is_quiet kV_is_quiet dc_is_quiet pm_is_quiet cd_is_quiet ct_is_quiet oc_hasty kV_hasty dc_hasty pm_hasty cd_hasty ct_hasty oc_never_more kV_never_more dc_never_more pm_never_more cd_never_more ct_never_more oc_marks_of_situations kV_marks_of_situations dc_marks_of_situations pm_marks_of_situations cd_marks_of_situations ct_marks_of_situations oc_works_at kV_works_at dc_works_at pm_works_at cd_works_at ct_works_at oc_more_situation kV_more_situation dc_more_situation pm_more_situation cd_more_situation ct_more_situation oc_law_bag kV_law_bag dc_law_bag pm_law_bag cd_law_bag ct_law_bag oc_law_draw kV_law_draw dc_law_draw pm_law_draw cd_law_draw ct_law_draw oc_law_pick kV_law_pick dc_law_pick pm_law_pick cd_law_pick ct_law_pick oc_law_words kV_law_words dc_law_words pm_law_words cd_law_words ct_law_words oc_law_mark kV_law_mark dc_law_mark pm_law_mark cd_law_mark ct_law_mark oc_law_any_book kV_law_any_book dc_law_any_book pm_law_any_book cd_law_any_book ct_law_any_book oc_law_can_stand kV_law_can_stand dc_law_can_stand pm_law_can_stand cd_law_can_stand ct_law_can_stand oc_law_number kV_law_number dc_law_number pm_law_number cd_law_number ct_law_number oc_law_turned kV_law_turned dc_law_turned pm_law_turned cd_law_turned ct_law_turned oc_law_safe_book kV_law_safe_book dc_law_safe_book pm_law_safe_book cd_law_safe_book ct_law_safe_book oc_law_is_calm kV_law_is_calm dc_law_is_calm pm_law_is_calm cd_law_is_calm ct_law_is_calm oc_law_calm_book kV_law_calm_book dc_law_calm_book pm_law_calm_book cd_law_calm_book ct_law_calm_book oc_law_rash kV_law_rash dc_law_rash pm_law_rash cd_law_rash ct_law_rash oc_law_heard kV_law_heard dc_law_heard pm_law_heard cd_law_heard ct_law_heard oc_law_compared kV_law_compared dc_law_compared pm_law_compared cd_law_compared ct_law_compared oc_law_is_right kV_law_is_right dc_law_is_right pm_law_is_right cd_law_is_right ct_law_is_right oc_law_is_pair_right kV_law_is_pair_right dc_law_is_pair_right pm_law_is_pair_right cd_law_is_pair_right ct_law_is_pair_right oc_law kV_law dc_law pm_law cd_law ct_law : Value}
    (a_can_stand : PySem.W.nsIn K mainGlobals "can_stand" = some (some (.ref f_can_stand))) (l_can_stand : K.lookup f_can_stand = some ⟨oc_can_stand, od_can_stand, .func (PySem.W.fnOf "can_stand" "can_stand" (defArgs s_can_stand) (defBody s_can_stand) (defScope s_can_stand) .none kV_can_stand dc_can_stand pm_can_stand an_can_stand cd_can_stand ct_can_stand), sl_can_stand⟩) (e_can_stand : PySem.W.codeIn K cd_can_stand "can_stand" = true) (k_can_stand : PySem.W.keepIn K (.ref f_can_stand) = true)
    (a_slip_alone : PySem.W.nsIn K mainGlobals "slip_alone" = some (some (.ref f_slip_alone))) (l_slip_alone : K.lookup f_slip_alone = some ⟨oc_slip_alone, od_slip_alone, .func (PySem.W.fnOf "slip_alone" "slip_alone" (defArgs s_slip_alone) (defBody s_slip_alone) (defScope s_slip_alone) .none kV_slip_alone dc_slip_alone pm_slip_alone an_slip_alone cd_slip_alone ct_slip_alone), sl_slip_alone⟩) (e_slip_alone : PySem.W.codeIn K cd_slip_alone "slip_alone" = true) (k_slip_alone : PySem.W.keepIn K (.ref f_slip_alone) = true)
    (a_safe_alone : PySem.W.nsIn K mainGlobals "safe_alone" = some (some (.ref f_safe_alone))) (l_safe_alone : K.lookup f_safe_alone = some ⟨oc_safe_alone, od_safe_alone, .func (PySem.W.fnOf "safe_alone" "safe_alone" (defArgs s_safe_alone) (defBody s_safe_alone) (defScope s_safe_alone) .none kV_safe_alone dc_safe_alone pm_safe_alone an_safe_alone cd_safe_alone ct_safe_alone), sl_safe_alone⟩) (e_safe_alone : PySem.W.codeIn K cd_safe_alone "safe_alone" = true) (k_safe_alone : PySem.W.keepIn K (.ref f_safe_alone) = true)
    (a_marks_nobody : PySem.W.nsIn K mainGlobals "marks_nobody" = some (some (.ref f_marks_nobody))) (l_marks_nobody : K.lookup f_marks_nobody = some ⟨oc_marks_nobody, od_marks_nobody, .func (PySem.W.fnOf "marks_nobody" "marks_nobody" (defArgs s_marks_nobody) (defBody s_marks_nobody) (defScope s_marks_nobody) .none kV_marks_nobody dc_marks_nobody pm_marks_nobody an_marks_nobody cd_marks_nobody ct_marks_nobody), sl_marks_nobody⟩) (e_marks_nobody : PySem.W.codeIn K cd_marks_nobody "marks_nobody" = true) (k_marks_nobody : PySem.W.keepIn K (.ref f_marks_nobody) = true)
    (a_answers_mark : PySem.W.nsIn K mainGlobals "answers_mark" = some (some (.ref f_answers_mark))) (l_answers_mark : K.lookup f_answers_mark = some ⟨oc_answers_mark, od_answers_mark, .func (PySem.W.fnOf "answers_mark" "answers_mark" (defArgs s_answers_mark) (defBody s_answers_mark) (defScope s_answers_mark) .none kV_answers_mark dc_answers_mark pm_answers_mark an_answers_mark cd_answers_mark ct_answers_mark), sl_answers_mark⟩) (e_answers_mark : PySem.W.codeIn K cd_answers_mark "answers_mark" = true) (k_answers_mark : PySem.W.keepIn K (.ref f_answers_mark) = true)
    (a_raises_no_direct_reader : PySem.W.nsIn K mainGlobals "raises_no_direct_reader" = some (some (.ref f_raises_no_direct_reader))) (l_raises_no_direct_reader : K.lookup f_raises_no_direct_reader = some ⟨oc_raises_no_direct_reader, od_raises_no_direct_reader, .func (PySem.W.fnOf "raises_no_direct_reader" "raises_no_direct_reader" (defArgs s_raises_no_direct_reader) (defBody s_raises_no_direct_reader) (defScope s_raises_no_direct_reader) .none kV_raises_no_direct_reader dc_raises_no_direct_reader pm_raises_no_direct_reader an_raises_no_direct_reader cd_raises_no_direct_reader ct_raises_no_direct_reader), sl_raises_no_direct_reader⟩) (e_raises_no_direct_reader : PySem.W.codeIn K cd_raises_no_direct_reader "raises_no_direct_reader" = true) (k_raises_no_direct_reader : PySem.W.keepIn K (.ref f_raises_no_direct_reader) = true)
    (a_strikes_what_it_asks_for : PySem.W.nsIn K mainGlobals "strikes_what_it_asks_for" = some (some (.ref f_strikes_what_it_asks_for))) (l_strikes_what_it_asks_for : K.lookup f_strikes_what_it_asks_for = some ⟨oc_strikes_what_it_asks_for, od_strikes_what_it_asks_for, .func (PySem.W.fnOf "strikes_what_it_asks_for" "strikes_what_it_asks_for" (defArgs s_strikes_what_it_asks_for) (defBody s_strikes_what_it_asks_for) (defScope s_strikes_what_it_asks_for) .none kV_strikes_what_it_asks_for dc_strikes_what_it_asks_for pm_strikes_what_it_asks_for an_strikes_what_it_asks_for cd_strikes_what_it_asks_for ct_strikes_what_it_asks_for), sl_strikes_what_it_asks_for⟩) (e_strikes_what_it_asks_for : PySem.W.codeIn K cd_strikes_what_it_asks_for "strikes_what_it_asks_for" = true) (k_strikes_what_it_asks_for : PySem.W.keepIn K (.ref f_strikes_what_it_asks_for) = true)
    (a_leaves_marks_below_clean : PySem.W.nsIn K mainGlobals "leaves_marks_below_clean" = some (some (.ref f_leaves_marks_below_clean))) (l_leaves_marks_below_clean : K.lookup f_leaves_marks_below_clean = some ⟨oc_leaves_marks_below_clean, od_leaves_marks_below_clean, .func (PySem.W.fnOf "leaves_marks_below_clean" "leaves_marks_below_clean" (defArgs s_leaves_marks_below_clean) (defBody s_leaves_marks_below_clean) (defScope s_leaves_marks_below_clean) .none kV_leaves_marks_below_clean dc_leaves_marks_below_clean pm_leaves_marks_below_clean an_leaves_marks_below_clean cd_leaves_marks_below_clean ct_leaves_marks_below_clean), sl_leaves_marks_below_clean⟩) (e_leaves_marks_below_clean : PySem.W.codeIn K cd_leaves_marks_below_clean "leaves_marks_below_clean" = true) (k_leaves_marks_below_clean : PySem.W.keepIn K (.ref f_leaves_marks_below_clean) = true)
    (a_is_quiet : PySem.W.nsIn K mainGlobals "is_quiet" = some (some (.ref f_is_quiet))) (l_is_quiet : K.lookup f_is_quiet = some ⟨oc_is_quiet, od_is_quiet, .func (PySem.W.fnOf "is_quiet" "is_quiet" (defArgs s_is_quiet) (defBody s_is_quiet) (defScope s_is_quiet) .none kV_is_quiet dc_is_quiet pm_is_quiet an_is_quiet cd_is_quiet ct_is_quiet), sl_is_quiet⟩) (e_is_quiet : PySem.W.codeIn K cd_is_quiet "is_quiet" = true) (k_is_quiet : PySem.W.keepIn K (.ref f_is_quiet) = true)
    (a_hasty : PySem.W.nsIn K mainGlobals "hasty" = some (some (.ref f_hasty))) (l_hasty : K.lookup f_hasty = some ⟨oc_hasty, od_hasty, .func (PySem.W.fnOf "hasty" "hasty" (defArgs s_hasty) (defBody s_hasty) (defScope s_hasty) .none kV_hasty dc_hasty pm_hasty an_hasty cd_hasty ct_hasty), sl_hasty⟩) (e_hasty : PySem.W.codeIn K cd_hasty "hasty" = true) (k_hasty : PySem.W.keepIn K (.ref f_hasty) = true)
    (a_never_more : PySem.W.nsIn K mainGlobals "never_more" = some (some (.ref f_never_more))) (l_never_more : K.lookup f_never_more = some ⟨oc_never_more, od_never_more, .func (PySem.W.fnOf "never_more" "never_more" (defArgs s_never_more) (defBody s_never_more) (defScope s_never_more) .none kV_never_more dc_never_more pm_never_more an_never_more cd_never_more ct_never_more), sl_never_more⟩) (e_never_more : PySem.W.codeIn K cd_never_more "never_more" = true) (k_never_more : PySem.W.keepIn K (.ref f_never_more) = true)
    (a_marks_of_situations : PySem.W.nsIn K mainGlobals "marks_of_situations" = some (some (.ref f_marks_of_situations))) (l_marks_of_situations : K.lookup f_marks_of_situations = some ⟨oc_marks_of_situations, od_marks_of_situations, .func (PySem.W.fnOf "marks_of_situations" "marks_of_situations" (defArgs s_marks_of_situations) (defBody s_marks_of_situations) (defScope s_marks_of_situations) .none kV_marks_of_situations dc_marks_of_situations pm_marks_of_situations an_marks_of_situations cd_marks_of_situations ct_marks_of_situations), sl_marks_of_situations⟩) (e_marks_of_situations : PySem.W.codeIn K cd_marks_of_situations "marks_of_situations" = true) (k_marks_of_situations : PySem.W.keepIn K (.ref f_marks_of_situations) = true)
    (a_works_at : PySem.W.nsIn K mainGlobals "works_at" = some (some (.ref f_works_at))) (l_works_at : K.lookup f_works_at = some ⟨oc_works_at, od_works_at, .func (PySem.W.fnOf "works_at" "works_at" (defArgs s_works_at) (defBody s_works_at) (defScope s_works_at) .none kV_works_at dc_works_at pm_works_at an_works_at cd_works_at ct_works_at), sl_works_at⟩) (e_works_at : PySem.W.codeIn K cd_works_at "works_at" = true) (k_works_at : PySem.W.keepIn K (.ref f_works_at) = true)
    (a_more_situation : PySem.W.nsIn K mainGlobals "more_situation" = some (some (.ref f_more_situation))) (l_more_situation : K.lookup f_more_situation = some ⟨oc_more_situation, od_more_situation, .func (PySem.W.fnOf "more_situation" "more_situation" (defArgs s_more_situation) (defBody s_more_situation) (defScope s_more_situation) .none kV_more_situation dc_more_situation pm_more_situation an_more_situation cd_more_situation ct_more_situation), sl_more_situation⟩) (e_more_situation : PySem.W.codeIn K cd_more_situation "more_situation" = true) (k_more_situation : PySem.W.keepIn K (.ref f_more_situation) = true)
    (a_law_bag : PySem.W.nsIn K mainGlobals "_law_bag" = some (some (.ref f_law_bag))) (l_law_bag : K.lookup f_law_bag = some ⟨oc_law_bag, od_law_bag, .func (PySem.W.fnOf "_law_bag" "_law_bag" (defArgs s_law_bag) (defBody s_law_bag) (defScope s_law_bag) .none kV_law_bag dc_law_bag pm_law_bag an_law_bag cd_law_bag ct_law_bag), sl_law_bag⟩) (e_law_bag : PySem.W.codeIn K cd_law_bag "_law_bag" = true) (k_law_bag : PySem.W.keepIn K (.ref f_law_bag) = true)
    (a_law_draw : PySem.W.nsIn K mainGlobals "_law_draw" = some (some (.ref f_law_draw))) (l_law_draw : K.lookup f_law_draw = some ⟨oc_law_draw, od_law_draw, .func (PySem.W.fnOf "_law_draw" "_law_draw" (defArgs s_law_draw) (defBody s_law_draw) (defScope s_law_draw) .none kV_law_draw dc_law_draw pm_law_draw an_law_draw cd_law_draw ct_law_draw), sl_law_draw⟩) (e_law_draw : PySem.W.codeIn K cd_law_draw "_law_draw" = true) (k_law_draw : PySem.W.keepIn K (.ref f_law_draw) = true)
    (a_law_pick : PySem.W.nsIn K mainGlobals "_law_pick" = some (some (.ref f_law_pick))) (l_law_pick : K.lookup f_law_pick = some ⟨oc_law_pick, od_law_pick, .func (PySem.W.fnOf "_law_pick" "_law_pick" (defArgs s_law_pick) (defBody s_law_pick) (defScope s_law_pick) .none kV_law_pick dc_law_pick pm_law_pick an_law_pick cd_law_pick ct_law_pick), sl_law_pick⟩) (e_law_pick : PySem.W.codeIn K cd_law_pick "_law_pick" = true) (k_law_pick : PySem.W.keepIn K (.ref f_law_pick) = true)
    (a_law_words : PySem.W.nsIn K mainGlobals "_law_words" = some (some (.ref f_law_words))) (l_law_words : K.lookup f_law_words = some ⟨oc_law_words, od_law_words, .func (PySem.W.fnOf "_law_words" "_law_words" (defArgs s_law_words) (defBody s_law_words) (defScope s_law_words) .none kV_law_words dc_law_words pm_law_words an_law_words cd_law_words ct_law_words), sl_law_words⟩) (e_law_words : PySem.W.codeIn K cd_law_words "_law_words" = true) (k_law_words : PySem.W.keepIn K (.ref f_law_words) = true)
    (a_law_mark : PySem.W.nsIn K mainGlobals "_law_mark" = some (some (.ref f_law_mark))) (l_law_mark : K.lookup f_law_mark = some ⟨oc_law_mark, od_law_mark, .func (PySem.W.fnOf "_law_mark" "_law_mark" (defArgs s_law_mark) (defBody s_law_mark) (defScope s_law_mark) .none kV_law_mark dc_law_mark pm_law_mark an_law_mark cd_law_mark ct_law_mark), sl_law_mark⟩) (e_law_mark : PySem.W.codeIn K cd_law_mark "_law_mark" = true) (k_law_mark : PySem.W.keepIn K (.ref f_law_mark) = true)
    (a_law_any_book : PySem.W.nsIn K mainGlobals "_law_any_book" = some (some (.ref f_law_any_book))) (l_law_any_book : K.lookup f_law_any_book = some ⟨oc_law_any_book, od_law_any_book, .func (PySem.W.fnOf "_law_any_book" "_law_any_book" (defArgs s_law_any_book) (defBody s_law_any_book) (defScope s_law_any_book) .none kV_law_any_book dc_law_any_book pm_law_any_book an_law_any_book cd_law_any_book ct_law_any_book), sl_law_any_book⟩) (e_law_any_book : PySem.W.codeIn K cd_law_any_book "_law_any_book" = true) (k_law_any_book : PySem.W.keepIn K (.ref f_law_any_book) = true)
    (a_law_can_stand : PySem.W.nsIn K mainGlobals "_law_can_stand" = some (some (.ref f_law_can_stand))) (l_law_can_stand : K.lookup f_law_can_stand = some ⟨oc_law_can_stand, od_law_can_stand, .func (PySem.W.fnOf "_law_can_stand" "_law_can_stand" (defArgs s_law_can_stand) (defBody s_law_can_stand) (defScope s_law_can_stand) .none kV_law_can_stand dc_law_can_stand pm_law_can_stand an_law_can_stand cd_law_can_stand ct_law_can_stand), sl_law_can_stand⟩) (e_law_can_stand : PySem.W.codeIn K cd_law_can_stand "_law_can_stand" = true) (k_law_can_stand : PySem.W.keepIn K (.ref f_law_can_stand) = true)
    (a_law_number : PySem.W.nsIn K mainGlobals "_law_number" = some (some (.ref f_law_number))) (l_law_number : K.lookup f_law_number = some ⟨oc_law_number, od_law_number, .func (PySem.W.fnOf "_law_number" "_law_number" (defArgs s_law_number) (defBody s_law_number) (defScope s_law_number) .none kV_law_number dc_law_number pm_law_number an_law_number cd_law_number ct_law_number), sl_law_number⟩) (e_law_number : PySem.W.codeIn K cd_law_number "_law_number" = true) (k_law_number : PySem.W.keepIn K (.ref f_law_number) = true)
    (a_law_turned : PySem.W.nsIn K mainGlobals "_law_turned" = some (some (.ref f_law_turned))) (l_law_turned : K.lookup f_law_turned = some ⟨oc_law_turned, od_law_turned, .func (PySem.W.fnOf "_law_turned" "_law_turned" (defArgs s_law_turned) (defBody s_law_turned) (defScope s_law_turned) .none kV_law_turned dc_law_turned pm_law_turned an_law_turned cd_law_turned ct_law_turned), sl_law_turned⟩) (e_law_turned : PySem.W.codeIn K cd_law_turned "_law_turned" = true) (k_law_turned : PySem.W.keepIn K (.ref f_law_turned) = true)
    (a_law_safe_book : PySem.W.nsIn K mainGlobals "_law_safe_book" = some (some (.ref f_law_safe_book))) (l_law_safe_book : K.lookup f_law_safe_book = some ⟨oc_law_safe_book, od_law_safe_book, .func (PySem.W.fnOf "_law_safe_book" "_law_safe_book" (defArgs s_law_safe_book) (defBody s_law_safe_book) (defScope s_law_safe_book) .none kV_law_safe_book dc_law_safe_book pm_law_safe_book an_law_safe_book cd_law_safe_book ct_law_safe_book), sl_law_safe_book⟩) (e_law_safe_book : PySem.W.codeIn K cd_law_safe_book "_law_safe_book" = true) (k_law_safe_book : PySem.W.keepIn K (.ref f_law_safe_book) = true)
    (a_law_is_calm : PySem.W.nsIn K mainGlobals "_law_is_calm" = some (some (.ref f_law_is_calm))) (l_law_is_calm : K.lookup f_law_is_calm = some ⟨oc_law_is_calm, od_law_is_calm, .func (PySem.W.fnOf "_law_is_calm" "_law_is_calm" (defArgs s_law_is_calm) (defBody s_law_is_calm) (defScope s_law_is_calm) .none kV_law_is_calm dc_law_is_calm pm_law_is_calm an_law_is_calm cd_law_is_calm ct_law_is_calm), sl_law_is_calm⟩) (e_law_is_calm : PySem.W.codeIn K cd_law_is_calm "_law_is_calm" = true) (k_law_is_calm : PySem.W.keepIn K (.ref f_law_is_calm) = true)
    (a_law_calm_book : PySem.W.nsIn K mainGlobals "_law_calm_book" = some (some (.ref f_law_calm_book))) (l_law_calm_book : K.lookup f_law_calm_book = some ⟨oc_law_calm_book, od_law_calm_book, .func (PySem.W.fnOf "_law_calm_book" "_law_calm_book" (defArgs s_law_calm_book) (defBody s_law_calm_book) (defScope s_law_calm_book) .none kV_law_calm_book dc_law_calm_book pm_law_calm_book an_law_calm_book cd_law_calm_book ct_law_calm_book), sl_law_calm_book⟩) (e_law_calm_book : PySem.W.codeIn K cd_law_calm_book "_law_calm_book" = true) (k_law_calm_book : PySem.W.keepIn K (.ref f_law_calm_book) = true)
    (a_law_rash : PySem.W.nsIn K mainGlobals "_law_rash" = some (some (.ref f_law_rash))) (l_law_rash : K.lookup f_law_rash = some ⟨oc_law_rash, od_law_rash, .func (PySem.W.fnOf "_law_rash" "_law_rash" (defArgs s_law_rash) (defBody s_law_rash) (defScope s_law_rash) .none kV_law_rash dc_law_rash pm_law_rash an_law_rash cd_law_rash ct_law_rash), sl_law_rash⟩) (e_law_rash : PySem.W.codeIn K cd_law_rash "_law_rash" = true) (k_law_rash : PySem.W.keepIn K (.ref f_law_rash) = true)
    (a_law_heard : PySem.W.nsIn K mainGlobals "_law_heard" = some (some (.ref f_law_heard))) (l_law_heard : K.lookup f_law_heard = some ⟨oc_law_heard, od_law_heard, .func (PySem.W.fnOf "_law_heard" "_law_heard" (defArgs s_law_heard) (defBody s_law_heard) (defScope s_law_heard) .none kV_law_heard dc_law_heard pm_law_heard an_law_heard cd_law_heard ct_law_heard), sl_law_heard⟩) (e_law_heard : PySem.W.codeIn K cd_law_heard "_law_heard" = true) (k_law_heard : PySem.W.keepIn K (.ref f_law_heard) = true)
    (a_law_compared : PySem.W.nsIn K mainGlobals "_law_compared" = some (some (.ref f_law_compared))) (l_law_compared : K.lookup f_law_compared = some ⟨oc_law_compared, od_law_compared, .func (PySem.W.fnOf "_law_compared" "_law_compared" (defArgs s_law_compared) (defBody s_law_compared) (defScope s_law_compared) .none kV_law_compared dc_law_compared pm_law_compared an_law_compared cd_law_compared ct_law_compared), sl_law_compared⟩) (e_law_compared : PySem.W.codeIn K cd_law_compared "_law_compared" = true) (k_law_compared : PySem.W.keepIn K (.ref f_law_compared) = true)
    (a_law_is_right : PySem.W.nsIn K mainGlobals "_law_is_right" = some (some (.ref f_law_is_right))) (l_law_is_right : K.lookup f_law_is_right = some ⟨oc_law_is_right, od_law_is_right, .func (PySem.W.fnOf "_law_is_right" "_law_is_right" (defArgs s_law_is_right) (defBody s_law_is_right) (defScope s_law_is_right) .none kV_law_is_right dc_law_is_right pm_law_is_right an_law_is_right cd_law_is_right ct_law_is_right), sl_law_is_right⟩) (e_law_is_right : PySem.W.codeIn K cd_law_is_right "_law_is_right" = true) (k_law_is_right : PySem.W.keepIn K (.ref f_law_is_right) = true)
    (a_law_is_pair_right : PySem.W.nsIn K mainGlobals "_law_is_pair_right" = some (some (.ref f_law_is_pair_right))) (l_law_is_pair_right : K.lookup f_law_is_pair_right = some ⟨oc_law_is_pair_right, od_law_is_pair_right, .func (PySem.W.fnOf "_law_is_pair_right" "_law_is_pair_right" (defArgs s_law_is_pair_right) (defBody s_law_is_pair_right) (defScope s_law_is_pair_right) .none kV_law_is_pair_right dc_law_is_pair_right pm_law_is_pair_right an_law_is_pair_right cd_law_is_pair_right ct_law_is_pair_right), sl_law_is_pair_right⟩) (e_law_is_pair_right : PySem.W.codeIn K cd_law_is_pair_right "_law_is_pair_right" = true) (k_law_is_pair_right : PySem.W.keepIn K (.ref f_law_is_pair_right) = true)
    (a_law : PySem.W.nsIn K mainGlobals "law" = some (some (.ref f_law))) (l_law : K.lookup f_law = some ⟨oc_law, od_law, .func (PySem.W.fnOf "law" "law" (defArgs s_law) (defBody s_law) (defScope s_law) .none kV_law dc_law pm_law an_law cd_law ct_law), sl_law⟩) (e_law : PySem.W.codeIn K cd_law "law" = true) (k_law : PySem.W.keepIn K (.ref f_law) = true)
    (z_abs : PySem.W.nsIn K mainGlobals "abs" = some none)
    (z_int : PySem.W.nsIn K mainGlobals "int" = some none)
    (z_isinstance : PySem.W.nsIn K mainGlobals "isinstance" = some none)
    (z_len : PySem.W.nsIn K mainGlobals "len" = some none)
    (z_list : PySem.W.nsIn K mainGlobals "list" = some none)
    (z_max : PySem.W.nsIn K mainGlobals "max" = some none)
    (z_range : PySem.W.nsIn K mainGlobals "range" = some none)
    (z_repr : PySem.W.nsIn K mainGlobals "repr" = some none)
    (z_tuple : PySem.W.nsIn K mainGlobals "tuple" = some none)
    {t_CHANGE : PySem.Tok} (g_CHANGE : PySem.W.nsIn K mainGlobals "CHANGE" = some (some (.int 6 t_CHANGE)))
    {t_CHECK : PySem.Tok} (g_CHECK : PySem.W.nsIn K mainGlobals "CHECK" = some (some (.int 5 t_CHECK)))
    {t_ENTER : PySem.Tok} (g_ENTER : PySem.W.nsIn K mainGlobals "ENTER" = some (some (.int 9 t_ENTER)))
    {t_FURTHER : PySem.Tok} (g_FURTHER : PySem.W.nsIn K mainGlobals "FURTHER" = some (some (.int 1 t_FURTHER)))
    {t_OLD : PySem.Tok} (g_OLD : PySem.W.nsIn K mainGlobals "OLD" = some (some (.int 10 t_OLD)))
    {t_PERHAPS : PySem.Tok} (g_PERHAPS : PySem.W.nsIn K mainGlobals "PERHAPS" = some (some (.int 3 t_PERHAPS)))
    {t_READERS : PySem.Tok} (g_READERS : PySem.W.nsIn K mainGlobals "READERS" = some (some (.int 0 t_READERS)))
    {t_STOP : PySem.Tok} (g_STOP : PySem.W.nsIn K mainGlobals "STOP" = some (some (.int 2 t_STOP)))
    {t_STRIKE : PySem.Tok} (g_STRIKE : PySem.W.nsIn K mainGlobals "STRIKE" = some (some (.int 8 t_STRIKE)))
    {t_SURE : PySem.Tok} (g_SURE : PySem.W.nsIn K mainGlobals "SURE" = some (some (.int 4 t_SURE))) : Defs K mg where
  T := { n_abs := PySem.W.mg_none_of X G z_abs, n_int := PySem.W.mg_none_of X G z_int, n_isinstance := PySem.W.mg_none_of X G z_isinstance, n_len := PySem.W.mg_none_of X G z_len, n_list := PySem.W.mg_none_of X G z_list, n_max := PySem.W.mg_none_of X G z_max, n_range := PySem.W.mg_none_of X G z_range, n_repr := PySem.W.mg_none_of X G z_repr, n_tuple := PySem.W.mg_none_of X G z_tuple, c_CHANGE := fun {X} h1 h2 => ⟨.int 6 t_CHANGE, .int 6, by rw [h2]; exact PySem.W.mg_of ‹K.In h› G g_CHANGE, ⟨_, rfl⟩, fun _ _ => .int _⟩, c_CHECK := fun {X} h1 h2 => ⟨.int 5 t_CHECK, .int 5, by rw [h2]; exact PySem.W.mg_of ‹K.In h› G g_CHECK, ⟨_, rfl⟩, fun _ _ => .int _⟩, c_ENTER := fun {X} h1 h2 => ⟨.int 9 t_ENTER, .int 9, by rw [h2]; exact PySem.W.mg_of ‹K.In h› G g_ENTER, ⟨_, rfl⟩, fun _ _ => .int _⟩, c_FURTHER := fun {X} h1 h2 => ⟨.int 1 t_FURTHER, .int 1, by rw [h2]; exact PySem.W.mg_of ‹K.In h› G g_FURTHER, ⟨_, rfl⟩, fun _ _ => .int _⟩, c_OLD := fun {X} h1 h2 => ⟨.int 10 t_OLD, .int 10, by rw [h2]; exact PySem.W.mg_of ‹K.In h› G g_OLD, ⟨_, rfl⟩, fun _ _ => .int _⟩, c_PERHAPS := fun {X} h1 h2 => ⟨.int 3 t_PERHAPS, .int 3, by rw [h2]; exact PySem.W.mg_of ‹K.In h› G g_PERHAPS, ⟨_, rfl⟩, fun _ _ => .int _⟩, c_READERS := fun {X} h1 h2 => ⟨.int 0 t_READERS, .int 0, by rw [h2]; exact PySem.W.mg_of ‹K.In h› G g_READERS, ⟨_, rfl⟩, fun _ _ => .int _⟩, c_STOP := fun {X} h1 h2 => ⟨.int 2 t_STOP, .int 2, by rw [h2]; exact PySem.W.mg_of ‹K.In h› G g_STOP, ⟨_, rfl⟩, fun _ _ => .int _⟩, c_STRIKE := fun {X} h1 h2 => ⟨.int 8 t_STRIKE, .int 8, by rw [h2]; exact PySem.W.mg_of ‹K.In h› G g_STRIKE, ⟨_, rfl⟩, fun _ _ => .int _⟩, c_SURE := fun {X} h1 h2 => ⟨.int 4 t_SURE, .int 4, by rw [h2]; exact PySem.W.mg_of ‹K.In h› G g_SURE, ⟨_, rfl⟩, fun _ _ => .int _⟩ }
  d_can_stand := def_mk X G a_can_stand l_can_stand e_can_stand k_can_stand fun _ _ _ _ _ _ us hl => match us, hl with | [_], _ => rfl
  d_slip_alone := def_mk X G a_slip_alone l_slip_alone e_slip_alone k_slip_alone fun _ _ _ _ _ _ us hl => match us, hl with | [_], _ => rfl
  d_safe_alone := def_mk X G a_safe_alone l_safe_alone e_safe_alone k_safe_alone fun _ _ _ _ _ _ us hl => match us, hl with | [_], _ => rfl
  d_marks_nobody := def_mk X G a_marks_nobody l_marks_nobody e_marks_nobody k_marks_nobody fun _ _ _ _ _ _ us hl => match us, hl with | [_], _ => rfl
  d_answers_mark := def_mk X G a_answers_mark l_answers_mark e_answers_mark k_answers_mark fun _ _ _ _ _ _ us hl => match us, hl with | [_], _ => rfl
  d_raises_no_direct_reader := def_mk X G a_raises_no_direct_reader l_raises_no_direct_reader e_raises_no_direct_reader k_raises_no_direct_reader fun _ _ _ _ _ _ us hl => match us, hl with | [_], _ => rfl
  d_strikes_what_it_asks_for := def_mk X G a_strikes_what_it_asks_for l_strikes_what_it_asks_for e_strikes_what_it_asks_for k_strikes_what_it_asks_for fun _ _ _ _ _ _ us hl => match us, hl with | [_], _ => rfl
  d_leaves_marks_below_clean := def_mk X G a_leaves_marks_below_clean l_leaves_marks_below_clean e_leaves_marks_below_clean k_leaves_marks_below_clean fun _ _ _ _ _ _ us hl => match us, hl with | [_], _ => rfl
  d_is_quiet := def_mk X G a_is_quiet l_is_quiet e_is_quiet k_is_quiet fun _ _ _ _ _ _ us hl => match us, hl with | [_], _ => rfl
  d_hasty := def_mk X G a_hasty l_hasty e_hasty k_hasty fun _ _ _ _ _ _ us hl => match us, hl with | [_], _ => rfl
  d_never_more := def_mk X G a_never_more l_never_more e_never_more k_never_more fun _ _ _ _ _ _ us hl => match us, hl with | [_, _], _ => rfl
  d_marks_of_situations := def_mk X G a_marks_of_situations l_marks_of_situations e_marks_of_situations k_marks_of_situations fun _ _ _ _ _ _ us hl => match us, hl with | [_], _ => rfl
  d_works_at := def_mk X G a_works_at l_works_at e_works_at k_works_at fun _ _ _ _ _ _ us hl => match us, hl with | [_, _], _ => rfl
  d_more_situation := def_mk X G a_more_situation l_more_situation e_more_situation k_more_situation fun _ _ _ _ _ _ us hl => match us, hl with | [_, _], _ => rfl
  d_law_bag := def_mk X G a_law_bag l_law_bag e_law_bag k_law_bag fun _ _ _ _ _ _ us hl => match us, hl with | [_], _ => rfl
  d_law_draw := def_mk X G a_law_draw l_law_draw e_law_draw k_law_draw fun _ _ _ _ _ _ us hl => match us, hl with | [_, _], _ => rfl
  d_law_pick := def_mk X G a_law_pick l_law_pick e_law_pick k_law_pick fun _ _ _ _ _ _ us hl => match us, hl with | [_, _], _ => rfl
  d_law_words := def_mk X G a_law_words l_law_words e_law_words k_law_words fun _ _ _ _ _ _ us hl => match us, hl with | [], _ => rfl
  d_law_mark := def_mk X G a_law_mark l_law_mark e_law_mark k_law_mark fun _ _ _ _ _ _ us hl => match us, hl with | [_], _ => rfl
  d_law_any_book := def_mk X G a_law_any_book l_law_any_book e_law_any_book k_law_any_book fun _ _ _ _ _ _ us hl => match us, hl with | [_], _ => rfl
  d_law_can_stand := def_mk X G a_law_can_stand l_law_can_stand e_law_can_stand k_law_can_stand fun _ _ _ _ _ _ us hl => match us, hl with | [_], _ => rfl
  d_law_number := def_mk X G a_law_number l_law_number e_law_number k_law_number fun _ _ _ _ _ _ us hl => match us, hl with | [_], _ => rfl
  d_law_turned := def_mk X G a_law_turned l_law_turned e_law_turned k_law_turned fun _ _ _ _ _ _ us hl => match us, hl with | [_, _, _], _ => rfl
  d_law_safe_book := def_mk X G a_law_safe_book l_law_safe_book e_law_safe_book k_law_safe_book fun _ _ _ _ _ _ us hl => match us, hl with | [_], _ => rfl
  d_law_is_calm := def_mk X G a_law_is_calm l_law_is_calm e_law_is_calm k_law_is_calm fun _ _ _ _ _ _ us hl => match us, hl with | [_], _ => rfl
  d_law_calm_book := def_mk X G a_law_calm_book l_law_calm_book e_law_calm_book k_law_calm_book fun _ _ _ _ _ _ us hl => match us, hl with | [_], _ => rfl
  d_law_rash := def_mk X G a_law_rash l_law_rash e_law_rash k_law_rash fun _ _ _ _ _ _ us hl => match us, hl with | [_], _ => rfl
  d_law_heard := def_mk X G a_law_heard l_law_heard e_law_heard k_law_heard fun _ _ _ _ _ _ us hl => match us, hl with | [_, _], _ => rfl
  d_law_compared := def_mk X G a_law_compared l_law_compared e_law_compared k_law_compared fun _ _ _ _ _ _ us hl => match us, hl with | [_, _, _], _ => rfl
  d_law_is_right := def_mk X G a_law_is_right l_law_is_right e_law_is_right k_law_is_right fun _ _ _ _ _ _ us hl => match us, hl with | [_], _ => rfl
  d_law_is_pair_right := def_mk X G a_law_is_pair_right l_law_is_pair_right e_law_is_pair_right k_law_is_pair_right fun _ _ _ _ _ _ us hl => match us, hl with | [_, _], _ => rfl
  d_law := def_mk X G a_law l_law e_law k_law fun _ _ _ _ _ _ us hl => match us, hl with | [_], _ => rfl
end Lw
set_option Elab.async false
set_option linter.all false
set_option maxRecDepth 100000
set_option maxHeartbeats 1000000
namespace Lw
open PySem PySem.Spec PyProof.Rows L2 Lt Vl
local macro_rules | `(tactic| walk_at "go") => `(tactic| try simp only [wSq, wSet, wRet, wDrop, wAsg, wPar, wNx, wIfS, wVar, wC, wOp, wCons, wNil, wB, wNot, wTup, wLst, wCall, wM, wOrT, wAndT, wIf, wNeg, wSl, wNoP, wP, wTru, wSeqI, wR1, wR2, wFor, wWhile, wYes, wDPut, wF, wFK, wEnum, wEnumA, wZipM, wM0, wJoined, wJs, wFmt, wNo, perm, List.getD_cons_zero, List.getD_cons_succ, bInt_b, keyOf_str, wDict, wPairs, wLc, wipeP, decide_true, decide_false, Bool.not_true, Bool.not_false, List.isEmpty_nil, List.isEmpty_cons,
  gN, gT, gsC, gsN, Option.bind_some, Option.map_some, List.getElem?_cons_zero, List.getElem?_cons_succ, List.set_cons_zero, List.set_cons_succ, List.map_cons, List.map_nil, List.length_cons, List.length_nil, List.replicate_succ, List.replicate_zero, List.append_nil, List.nil_append, List.cons_append,
  fAdd_ii, fI_ii, Lt.gSub, Lt.gB, opt_go, bMin_ii, bInt_i, bLen_t, fEq_ii, fNe_ii, tru_b, bIsi_tt, bIsi_it, bAbs_i])

local macro_rules | `(tactic| walk_at "num") => `(tactic| (walk_at "go"; try simp (disch := first | omega | decide) only [gMul_l, gMul_r, gDiv_ok, gMod_ok, gPow_1018, Option.map_some, opt_go, fI_ii, fAdd_ii, bInt_i]); walk_at "go")
/-! the bag -/
abbrev bd (f : Nat) (sl : Int) (c : Nat) : List (Key × PV) := [(.inr "far", .ref f), (.inr "stirred", .int sl), (.inr "turn", .int c)]
section
variable {j f : Nat} {sl : Int} {c : Nat} {S : Store} (h : S[j]? = some (.dic (bd f sl c)))
include h
theorem g_far : fGet (.ref j) (.str "far") S = some (.ref f, S) := fGet_ok (k := .inr "far") rfl h rfl
theorem g_st : fGet (.ref j) (.str "stirred") S = some (.int sl, S) := fGet_ok (k := .inr "stirred") rfl h rfl
theorem g_tu : fGet (.ref j) (.str "turn") S = some (.int c, S) := fGet_ok (k := .inr "turn") rfl h rfl
end
theorem b_st (f c : Nat) (sl u : Int) : putP (bd f sl c) (.inr "stirred") (.int u) = bd f u c := rfl
theorem b_tu (f c : Nat) (sl : Int) : putP (bd f sl c) (.inr "turn") (.int ((c : Int) + 1)) = bd f sl (c + 1) := rfl
theorem b_fold (f : Nat) (sl : Int) : ([(.inr "far", .ref f), (.inr "stirred", .int sl), (.inr "turn", .int 0)] : List (Key × PV)).foldl (fun acc kv => putP acc kv.1 kv.2) [] = bd f sl 0 := rfl
def Bag (fs : List Nat) (n : Nat) (S : Store) : Prop := ∃ j f, fs = [j, f] ∧ f ≠ j ∧ ∃ (sl : Int) (c : Nat) (fl : List Int), S[j]? = some (.dic (bd f sl c)) ∧ S[f]? = some (.lst (fl.map .int)) ∧ fl.length ≤ 63 ∧ c ≤ n
theorem bag_ok : DkOk Bag := by
  refine ⟨?_, ?_, ?_⟩
  · rintro fs n S ⟨j, f, rfl, _⟩; simp
  · rintro fs n S ⟨j, f, rfl, h1, sl, c, fl, a, b, _⟩ i hi
    simp only [List.mem_cons, List.not_mem_nil, or_false] at hi
    rcases hi with rfl | rfl
    · exact lt_of_at a
    · exact lt_of_at b
  · rintro fs n S S' ⟨j, f, rfl, h1, sl, c, fl, a, b, d⟩ h
    exact ⟨j, f, rfl, h1, sl, c, fl, by rw [h j (by simp)]; exact a, by rw [h f (by simp)]; exact b, d⟩
theorem pl_law_draw (xs : List PV) (S0 : Store) (P : PQ) (h : conDraw true Bag xs S0 P) : b_law_draw (xs.map some ++ List.replicate (N_law_draw.length - xs.length) none) S0 ⟨fun _ S' => P .non S', P, fun _ _ => False, fun _ _ => False⟩ := by
  obtain ⟨⟨fs, n, many⟩, ⟨j, fs', e0, rfl, hj, hm, hm2, hn⟩, hP⟩ := h
  dsimp only at *
  obtain ⟨j', f, e1, n1, sl, c, fl, a, b, d, hc⟩ := hj
  rw [e0] at e1; cases e1
  subst e0
  unfold b_law_draw
  walk_at "go"
  rw [g_far a]
  walk_at "go"
  refine ⟨sl_le (by decide), ?_⟩
  rw [fNe_ints_nil (at_old b) (at_new _ _)]
  walk_at "go"
  cases fl with
  | nil =>
    walk_at "go"
    rw [g_tu (at_old a)]
    walk_at "go"
    simp only [at_old a]
    refine ⟨sl_lt (Nat.le_of_ble_eq_true rfl), ?_⟩
    rw [b_tu]
    have a' : (List.set (S0 ++ [Cell.lst []]) j (.dic (bd f sl (c + 1))))[j]? = some (.dic (bd f sl (c + 1))) := at_set (at_old a)
    have b' : (List.set (S0 ++ [Cell.lst []]) j (.dic (bd f sl (c + 1))))[f]? = some (.lst (([] : List Int).map .int)) := at_set_ne n1.symm (at_old b)
    have k' : Kp [j, f] S0 (List.set (S0 ++ [Cell.lst []]) j (.dic (bd f sl (c + 1)))) := Kp.push.trans (.set (by simp))
    generalize (List.set (S0 ++ [Cell.lst []]) j (.dic (bd f sl (c + 1)))) = S1 at *
    rw [g_tu a']
    walk_at "go"
    rw [g_st a']
    walk_at "num"
    simp only [a']
    refine ⟨sl_lt (Nat.le_of_ble_eq_true rfl), ?_⟩
    rw [b_st]
    generalize hu : (_ : Int) % 4294967291 = u
    have fin : ∀ z : Int, P (.int (z % (many : Int))) (List.set S1 j (.dic (bd f u (c + 1)))) := fun z => by
      obtain ⟨dd, hd, ed⟩ := mod_nat z hm
      rw [ed]
      exact hP _ _ ⟨dd, hd, rfl, ⟨j, f, rfl, n1, u, c + 1, [], at_set a', at_set_ne n1.symm b', by decide, by simp; omega⟩, k'.trans (.set (by simp))⟩
    exact fin _
  | cons z zs =>
    walk_at "go"
    have b0 : (S0 ++ [Cell.lst []])[f]? = some (.lst (.int z :: zs.map .int)) := at_old b
    refine ⟨ty_l' b0, ?_⟩
    rw [onL_ok b0 ix0]
    walk_at "go"
    have b1 : (List.set (S0 ++ [Cell.lst []]) f (.lst (zs.map .int)))[f]? = some (.lst (zs.map .int)) := at_set b0
    have a1 : (List.set (S0 ++ [Cell.lst []]) f (.lst (zs.map .int)))[j]? = some (.dic (bd f sl c)) := at_set_ne n1 (at_old a)
    obtain ⟨dd, hd, ed⟩ := mod_nat z hm
    by_cases hz : (many : Int) ≤ z
    · rw [decide_eq_true hz]
      walk_at "go"
      refine ⟨ty_l' b1, ?_⟩
      walk_at "num"
      rw [onL_ok b1 (ins0 (by simp at d ⊢; omega))]
      walk_at "num"
      rw [ed]
      refine hP _ _ ⟨dd, hd, rfl, ⟨j, f, rfl, n1, sl, c, z / (many : Int) :: zs, at_set_ne n1 a1, by rw [at_set b1]; simp, by simp at d ⊢; omega, by simp; omega⟩, (Kp.push.trans (.set (by simp))).trans (.set (by simp))⟩
    · rw [decide_eq_false hz]
      walk_at "num"
      rw [ed]
      exact hP _ _ ⟨dd, hd, rfl, ⟨j, f, rfl, n1, sl, c, zs, a1, b1, by simp at d; omega, by simp; omega⟩, Kp.push.trans (.set (by simp))⟩
end Lw
set_option Elab.async false
set_option linter.all false
set_option maxRecDepth 100000
set_option maxHeartbeats 1000000
namespace Lw
open PySem PySem.Spec PyProof.Rows L2 Lt Vl
local macro_rules | `(tactic| walk_at "go") => `(tactic| try simp only [wSq, wSet, wRet, wDrop, wAsg, wPar, wNx, wIfS, wVar, wC, wOp, wCons, wNil, wB, wNot, wTup, wLst, wCall, wM, wOrT, wAndT, wIf, wNeg, wSl, wNoP, wP, wTru, wSeqI, wR1, wR2, wFor, wWhile, wYes, wDPut, wF, wFK, wEnum, wEnumA, wZipM, wM0, wJoined, wJs, wFmt, wNo, perm, List.getD_cons_zero, List.getD_cons_succ, bInt_b, keyOf_str, wDict, wPairs, wLc, wipeP, decide_true, decide_false, Bool.not_true, Bool.not_false, List.isEmpty_nil, List.isEmpty_cons,
  gN, gT, gsC, gsN, Option.bind_some, Option.map_some, List.getElem?_cons_zero, List.getElem?_cons_succ, List.set_cons_zero, List.set_cons_succ, List.map_cons, List.map_nil, List.length_cons, List.length_nil, List.replicate_succ, List.replicate_zero, List.append_nil, List.nil_append, List.cons_append,
  fAdd_ii, fI_ii, Lt.gSub, Lt.gB, opt_go, bMin_ii, bInt_i, bLen_t, fEq_ii, fNe_ii, tru_b, bIsi_tt, bIsi_it, bAbs_i])

local macro_rules | `(tactic| walk_at "num") => `(tactic| (walk_at "go"; try simp (disch := first | omega | decide) only [gMul_l, gMul_r, gDiv_ok, gMod_ok, gPow_1018, Option.map_some, opt_go, fI_ii, fAdd_ii, bInt_i]); walk_at "go")
theorem pl_law_bag (xs : List PV) (S0 : Store) (P : PQ) (h : conDeck Bag xs S0 P) : b_law_bag (xs.map some ++ List.replicate (N_law_bag.length - xs.length) none) S0 ⟨fun _ S' => P .non S', P, fun _ _ => False, fun _ _ => False⟩ := by
  obtain ⟨ns, ⟨rfl, h0, hl⟩, hP⟩ := h
  dsimp only at *
  unfold b_law_bag
  walk_at "go"
  rw [fSl_l h0 rfl]
  walk_at "go"
  obtain ⟨ms, em, lm⟩ := cutP_int ns none (some 63)
  rw [em]
  refine seqI_go (at_new _ _) rfl ?_
  have s1 : (S0 ++ [Cell.lst (ms.map .int)])[S0.length]? = some (.lst (ms.map .int)) := at_new _ _
  have z1 := at_old (c := .lst (ms.map .int)) h0
  generalize (S0 ++ [Cell.lst (ms.map .int)]) = S1 at *
  refine lc_inv (n := ms.length) (fun i S => Kp [] S1 S ∧ S1.length < S.length ∧ ∃ cl : List Int, cl.length = i ∧ S[S1.length]? = some (.lst (cl.map .int))) ?_ ?_ ⟨.push, by simp, [], rfl, at_new _ _⟩
  · rintro i S hi ⟨q1, q2, cl, q3, q4⟩
    have hm : ms[i]? = some ms[i] := List.getElem?_eq_getElem hi
    generalize hv : ms[i] = v at hm
    refine ⟨.int v, _, (eGL (q1.at_ _ _ (by simp) s1) rfl).trans (congrArg some (at_int hm)), rfl, fun Qt Qe hq _ ht => ?_⟩
    walk_at "go"
    refine ht _ ?_
    have fin : ∀ u : Int, Qe (.int u) S := fun u => hq _ _ _ q4 (sl_lt (by simp; omega)) ⟨q1.set_new (Nat.le_refl _), by simpa using q2, cl ++ [u], by simp [q3], by rw [at_set q4]; simp⟩
    walk_at "num"
    exact fin _
  rintro S ⟨q1, q2, cl, q3, q4⟩
  refine ⟨(eGL (q1.at_ _ _ (by simp) s1) rfl).trans (congrArg some (by simp)), ?_⟩
  walk_at "go"
  have z2 := q1.at_ _ _ (by simp) z1
  rw [bLen_l z2 rfl]
  walk_at "num"
  refine seqI_go q4 rfl ?_
  generalize S1.length = d at *
  refine loop_inv (n := cl.length) (fun i env S' => ∃ (sl : Int) (e3 : Option PV), env = [some (.ref 0), some (.ref d), some (.int sl), e3] ∧ S' = S) ?_ ?_ ⟨_, _, rfl, rfl⟩
  · rintro i env S' hi ⟨sl, e3, rfl, rfl⟩
    have hm : cl[i]? = some cl[i] := List.getElem?_eq_getElem hi
    refine ⟨.int cl[i], _, (eGL q4 rfl).trans (congrArg some (at_int hm)), rfl, fun D' hnx _ _ _ => ?_⟩
    walk_at "num"
    exact hnx _ _ ⟨_, _, rfl, rfl⟩
  rintro env S' ⟨sl, e3, rfl, rfl⟩
  refine ⟨(eGL q4 rfl).trans (congrArg some (by simp)), ?_⟩
  walk_at "go"
  have d1 : (S' ++ [Cell.dic []])[S'.length]? = some (.dic []) := at_new _ _
  have d2 := at_old (c := .dic []) q4
  have dl := lt_of_at q4
  refine seqI_go d2 rfl ?_
  generalize hA : (S' ++ [Cell.dic []]) = SA at *
  have lA : SA.length = S'.length + 1 := by rw [← hA]; simp
  refine lc_inv (n := cl.length) (fun i S => Kp [] SA S ∧ SA.length < S.length ∧ ∃ fl : List Int, fl.length ≤ i ∧ S[SA.length]? = some (.lst (fl.map .int))) ?_ ?_ ⟨.push, by simp, [], Nat.le_refl _, at_new _ _⟩
  · rintro i S hi ⟨p1, p2, fl, p3, p4⟩
    have hm : cl[i]? = some cl[i] := List.getElem?_eq_getElem hi
    generalize hv : cl[i] = v at hm
    refine ⟨.int v, _, (eGL (p1.at_ _ _ (by simp) d2) rfl).trans (congrArg some (at_int hm)), rfl, fun Qt Qe hq hn ht => ?_⟩
    walk_at "num"
    rw [show gPow 10 15 = some (.int 1000000000000000) from rfl]
    walk_at "go"
    by_cases hz : 1000000000000000 ≤ v
    · rw [decide_eq_true hz]
      refine ht _ ?_
      walk_at "go"
      exact hq _ _ _ p4 (sl_lt (by simp; omega)) ⟨p1.set_new (Nat.le_refl _), by simpa using p2, fl ++ [v], by simp; omega, by rw [at_set p4]; simp⟩
    · rw [decide_eq_false hz]
      exact hn _ ⟨p1, p2, fl, by omega, p4⟩
  rintro S ⟨p1, p2, fl, p3, p4⟩
  refine ⟨(eGL (p1.at_ _ _ (by simp) d2) rfl).trans (congrArg some (by simp)), ?_⟩
  walk_at "go"
  have d3 := p1.at_ _ _ (by simp) d1
  refine ⟨d3, by decide, ?_⟩
  rw [b_fold]
  exact hP _ _ ⟨S'.length, [SA.length], rfl, S'.length, SA.length, rfl, by omega, sl, 0, fl, at_set d3, at_set_ne (by omega) p4, by omega, Nat.le_refl _⟩
end Lw
set_option Elab.async false
set_option linter.all false
set_option maxRecDepth 100000
set_option maxHeartbeats 1000000
namespace Lw
open PySem PySem.Spec PyProof.Rows L2 Lt Vl
local macro_rules | `(tactic| walk_at "v") => `(tactic| try simp only [vSq, vSet, vSetO, vRet, vRetN, vDrop, vAsg, vPar, vPar3, vParLO, vNx, vIfS, vVar, vC, vTy, vOp, vCons, vN, vB, vNot, vTup, vLst, vCall, vMo, vExt, vOrT, vAndT, vIf, vAnd, vOr, vNotV, vNeg, vSl, vNoP, vP, vTru, vSeq, vR1, vR2, vR3, vFor, vYes, vF, vFK, goF, vEnumA, vZip, vRev, vJoined, vJs, vFmt, vNo, vIsi, vDict, vPairs, vFrz, vAug, vSub, vCh, vMs, vIdxL, vTry, vSetX, vRaise, vIsX, vLstX, vKd, vTIx, bang_d, bang_fr, bang_ow, bang_tok, bang_b,
  dat2, dat, pl, stab, someD, someP, optV, optB, optL, asB, setV, retV, owAt, allS, allD, allA, argS, argD, seqD, tupD, toX, vEnd, VEnv.put, wipeV, hN, hT, hsC, hsN, perm, isFlat, flatD, isNone_n, isNone_i, isNone_s, isNone_b, isNone_t, isNone_l, truD, vIs_n, vIsNot_n, vTup_t, vTup_l, vList_t, vList_l, vLen_t, vLen_l, vInt_i, vInt_b, vAbs_i, vMin_ii, vMax_ii, vMax3_i, vSl_t, vSl_l,
  Int.reduceEq, Int.reduceLT, Int.reduceLE, Int.reduceAdd, Int.reduceSub, Int.reduceToNat, Nat.reduceAdd, Nat.reduceSub, Nat.reduceLT, Nat.reduceLeDiff, Option.bind_some, Option.map_some, Option.isSome_some, List.getElem?_cons_zero, List.getElem?_cons_succ, List.getElem?_nil, List.set_cons_zero, List.set_cons_succ, List.map_cons, List.map_nil, List.length_cons, List.length_nil, List.replicate_succ, List.replicate_zero, List.append_nil, List.nil_append, List.cons_append, List.getD_cons_zero, List.getD_cons_succ, List.all_cons, List.all_nil, List.isEmpty_nil, List.isEmpty_cons, decide_true, decide_false, Bool.not_true, Bool.not_false, Bool.and_true, Bool.true_and, Bool.or_false, Bool.false_or,
  sizeLine_eq, ↓reduceIte, vAdd_ll', vAdd_tt', app', vIx_t', vIx_l', atI_0, atI_1, atI_2, atI_3, atI_4, atI_5, atI_6, atI_7, atI_8, atI_9, atI_10, atI_11, atI_12, atI_13, atI_14, atI_15, atI_16, atI_17, atI_18, atI_19, cutL_0, cutR_0, cutL_1, cutR_1, cutL_2, cutR_2, cutL_3, cutR_3, cutL_4, cutR_4, cutL_5, cutR_5, cutL_6, cutR_6, cutL_7, cutR_7, cutL_8, cutR_8, cutL_9, cutR_9, cutL_10, cutR_10, cutL_11, cutR_11, cutL_12, cutR_12, cutL_13, cutR_13, cutM_6_7, cutM_8_11, cutM_0_2, List.take_succ_cons, List.take_zero, List.drop_succ_cons, List.drop_zero, inV_cons, inV_nil, eqV_ss, eqV_ii, eqV_ni, eqV_in,
  vAdd_ii, vSub_ii, vLt_ii, vLe_ii, vGt_ii, vGe_ii, eqD_ii, eqD_ss, eqD_bb, vEq, vNe, vIn, vNotIn, inD, dV, allDV, true_and, and_true, vInY_s, vInY_it, vInY_il, vInY_n, vNotInY_s, vNotInY_it, vNotInY_il, vNotInY_n, vInY_st1, vInY_st2, vNotInY_st1, vNotInY_st2, isNone_nD])
local macro_rules | `(tactic| walk_at "pt") => `(tactic| repeat' (first | apply Vl.PT.or | apply Vl.PT.and | apply Vl.PT.not | apply Vl.PB.or | apply Vl.PB.and | apply Vl.PB.not | (apply Vl.PT.ofB; first | apply Vl.PB.or | apply Vl.PB.and | apply Vl.PB.not | (intro Q; walk_at "v"; first | done | rfl)) | (intro Q; walk_at "v"; first | done | rfl)))
/-! pick -/
theorem vp_pick (us : List VV) (n : Nat) (Q : VV → Nat → Prop) (h : cPick true us n Q) : v_law_pick (cDraw true) ⟨us.map toX ++ List.replicate (2 - us.length) none, n⟩ (vEnd Q) := by
  obtain ⟨p, ds, rfl, hs, h1, h2, h3, hQ⟩ := h
  unfold v_law_pick
  walk_at "v"
  rw [vlen_seq hs]
  walk_at "v"
  refine ⟨ds.length, rfl, h1, h2, h3, fun d hd => ?_⟩
  walk_at "v"
  rw [vix_seq hs (List.getElem?_eq_getElem hd)]
  walk_at "v"
  exact hQ _ (List.getElem_mem hd)
/-! the words -/
abbrev w3 (a b c : Str) : PyData := .tuple [.str a, .str b, .str c]
abbrev w2 (a b : Str) : PyData := .tuple [.str a, .str b]
def wordsD : List PyData := [w3 "none" "perhaps" "sure", w3 "none" "perhaps" "sure", w3 "marked" "unraised" "never", w3 "answer" "check" "work", w3 "answer" "check" "work", w2 "values" "mark", w2 "none" "sure",
  w3 "first" "last" "between", w3 "ahead" "behind" "unless", w2 "ahead" "behind", w2 "struck" "kept", w2 "one" "any"]
theorem wordsD_eq : wordsD = wordsS.map fun ws => .tuple (ws.map .str) := rfl
def cWords : VCon := fun us n Q => us = [] ∧ Q (.fr wordsD) n
theorem vp_words (us : List VV) (n : Nat) (Q : VV → Nat → Prop) (h : cWords us n Q) : v_law_words ⟨us.map toX ++ List.replicate (3 - us.length) none, n⟩ (vEnd Q) := by
  obtain ⟨rfl, hQ⟩ := h
  unfold v_law_words
  walk_at "v"
  exact hQ
/-! books: twelve texts -/
def cAny : VCon := fun us n Q => us = [.tok 0] ∧ n < 2 ^ 59 ∧ ∀ ss : List Str, Bw ss → Q (.d (bP ss)) (n + 12)
theorem words_str {i : Nat} {p : PyData} (h : wordsD[i]? = some p) : ∃ ws : List Str, p = .tuple (ws.map .str) ∧ wordsS[i]? = some ws ∧ 0 < ws.length ∧ ws.length ≤ 3 := by
  rw [wordsD_eq, List.getElem?_map] at h
  obtain ⟨ws, hw, rfl⟩ := Option.map_eq_some_iff.mp h
  obtain ⟨ws', a, b, c, _⟩ := wordsS_at (List.getElem?_eq_some_iff.mp hw).1
  rw [hw] at a; cases a
  exact ⟨ws, rfl, hw, b, c⟩
theorem words_len : wordsD.length = 12 := rfl
theorem vp_any_book (us : List VV) (n : Nat) (Q : VV → Nat → Prop) (h : cAny us n Q) : v_law_any_book cWords (cPick true) ⟨us.map toX ++ List.replicate (2 - us.length) none, n⟩ (vEnd Q) := by
  obtain ⟨rfl, hn, hQ⟩ := h
  unfold v_law_any_book
  walk_at "v"
  refine ⟨rfl, ?_⟩
  walk_at "v"
  refine ⟨rfl, ?_⟩
  refine vlc_inv (by rw [words_len]; decide) (fun i m acc => m = n + i ∧ ∃ ss : List Str, acc = ss.map .str ∧ ss.length = i ∧ ∀ k s, ss[k]? = some s → WAt k s) ?_ ?_ ⟨rfl, [], rfl, rfl, by simp⟩
  · rintro i m acc p hp ⟨rfl, ss, rfl, hl, hw⟩
    have hi := (List.getElem?_eq_some_iff.mp hp).1
    rw [words_len] at hi
    obtain ⟨ws, rfl, h3, h1, h2⟩ := words_str hp
    refine ⟨_, rfl, fun Qt Qe hq _ ht => ?_⟩
    walk_at "v"
    refine ht _ rfl ?_
    walk_at "v"
    refine ⟨_, ws.map .str, rfl, rfl, by simpa using h1, by simp; omega, show n + i < 2 ^ 60 by omega, fun x hx => ?_⟩
    obtain ⟨s, hs, rfl⟩ := List.mem_map.mp hx
    refine hq _ _ _ rfl rfl ⟨show n + i + 1 = n + (i + 1) by omega, ss ++ [s], by simp, by simp [hl], fun k t ht => ?_⟩
    rw [List.getElem?_append] at ht
    split at ht
    · exact hw k t ht
    · rename_i hk
      have hk0 : k - ss.length = 0 := by
        have := (List.getElem?_eq_some_iff.mp ht).1
        simpa using this
      rw [hk0] at ht
      cases ht
      have : k = i := by omega
      subst this
      exact ⟨ws, h3, hs⟩
  · rintro m acc ⟨rfl, ss, rfl, hl, hw⟩
    walk_at "v"
    exact hQ ss ⟨hl, hw⟩
def cTurn : VCon := fun us n Q => ∃ (ss : List Str) (k : Nat) (s : Str), us = [.d (bP ss), .d (.int k), .d (.str s)] ∧ ss.length = 12 ∧ k < 12 ∧ Q (.d (bP (ss.set k s))) n
theorem vp_turned (us : List VV) (n : Nat) (Q : VV → Nat → Prop) (h : cTurn us n Q) : v_law_turned ⟨us.map toX ++ List.replicate (3 - us.length) none, n⟩ (vEnd Q) := by
  obtain ⟨ss, k, s, rfl, hl, hk, hQ⟩ := h
  unfold v_law_turned
  walk_at "v"
  rw [cutD_lo (by simp; omega), if_pos (by simp; omega)]
  walk_at "v"
  rw [show ((k : Int) + 1) = ((k + 1 : Nat) : Int) by omega, cutD_hi (by simp; omega), if_pos (by simp; omega)]
  walk_at "v"
  rw [set_cut (by omega)]
  exact hQ
def cLCS : VCon := fun us n Q => ∃ ss : List Str, us = [.d (bP ss)] ∧ ss.length = 12 ∧ Q (.d (.tuple [.bool (pe ss), .bool (su ss)])) n
theorem vp_law_can_stand (us : List VV) (n : Nat) (Q : VV → Nat → Prop) (h : cLCS us n Q) : v_law_can_stand ⟨us.map toX ++ List.replicate (1 - us.length) none, n⟩ (vEnd Q) := by
  obtain ⟨ss, rfl, hl, hQ⟩ := h
  obtain ⟨a0, a1, a2, a3, a4, a5, a6, a7, a8, a9, a10, a11, rfl⟩ := b12 hl
  unfold v_law_can_stand
  walk_at "v"
  exact hQ
end Lw
set_option Elab.async false
set_option linter.all false
set_option maxRecDepth 100000
set_option maxHeartbeats 1000000
namespace Lw
open PySem PySem.Spec PyProof.Rows L2 Lt Vl
local macro_rules | `(tactic| walk_at "v") => `(tactic| try simp only [vSq, vSet, vSetO, vRet, vRetN, vDrop, vAsg, vPar, vPar3, vParLO, vNx, vIfS, vVar, vC, vTy, vOp, vCons, vN, vB, vNot, vTup, vLst, vCall, vMo, vExt, vOrT, vAndT, vIf, vAnd, vOr, vNotV, vNeg, vSl, vNoP, vP, vTru, vSeq, vR1, vR2, vR3, vFor, vYes, vF, vFK, goF, vEnumA, vZip, vRev, vJoined, vJs, vFmt, vNo, vIsi, vDict, vPairs, vFrz, vAug, vSub, vCh, vMs, vIdxL, vTry, vSetX, vRaise, vIsX, vLstX, vKd, vTIx, bang_d, bang_fr, bang_ow, bang_tok, bang_b,
  dat2, dat, pl, stab, someD, someP, optV, optB, optL, asB, setV, retV, owAt, allS, allD, allA, argS, argD, seqD, tupD, toX, vEnd, VEnv.put, wipeV, hN, hT, hsC, hsN, perm, isFlat, flatD, isNone_n, isNone_i, isNone_s, isNone_b, isNone_t, isNone_l, truD, vIs_n, vIsNot_n, vTup_t, vTup_l, vList_t, vList_l, vLen_t, vLen_l, vInt_i, vInt_b, vAbs_i, vMin_ii, vMax_ii, vMax3_i, vSl_t, vSl_l,
  Int.reduceEq, Int.reduceLT, Int.reduceLE, Int.reduceAdd, Int.reduceSub, Int.reduceToNat, Nat.reduceAdd, Nat.reduceSub, Nat.reduceLT, Nat.reduceLeDiff, Option.bind_some, Option.map_some, Option.isSome_some, List.getElem?_cons_zero, List.getElem?_cons_succ, List.getElem?_nil, List.set_cons_zero, List.set_cons_succ, List.map_cons, List.map_nil, List.length_cons, List.length_nil, List.replicate_succ, List.replicate_zero, List.append_nil, List.nil_append, List.cons_append, List.getD_cons_zero, List.getD_cons_succ, List.all_cons, List.all_nil, List.isEmpty_nil, List.isEmpty_cons, decide_true, decide_false, Bool.not_true, Bool.not_false, Bool.and_true, Bool.true_and, Bool.or_false, Bool.false_or,
  sizeLine_eq, ↓reduceIte, vAdd_ll', vAdd_tt', app', vIx_t', vIx_l', atI_0, atI_1, atI_2, atI_3, atI_4, atI_5, atI_6, atI_7, atI_8, atI_9, atI_10, atI_11, atI_12, atI_13, atI_14, atI_15, atI_16, atI_17, atI_18, atI_19, cutL_0, cutR_0, cutL_1, cutR_1, cutL_2, cutR_2, cutL_3, cutR_3, cutL_4, cutR_4, cutL_5, cutR_5, cutL_6, cutR_6, cutL_7, cutR_7, cutL_8, cutR_8, cutL_9, cutR_9, cutL_10, cutR_10, cutL_11, cutR_11, cutL_12, cutR_12, cutL_13, cutR_13, cutM_6_7, cutM_8_11, cutM_0_2, List.take_succ_cons, List.take_zero, List.drop_succ_cons, List.drop_zero, inV_cons, inV_nil, eqV_ss, eqV_ii, eqV_ni, eqV_in,
  vAdd_ii, vSub_ii, vLt_ii, vLe_ii, vGt_ii, vGe_ii, eqD_ii, eqD_ss, eqD_bb, vEq, vNe, vIn, vNotIn, inD, dV, allDV, true_and, and_true, vInY_s, vInY_it, vInY_il, vInY_n, vNotInY_s, vNotInY_it, vNotInY_il, vNotInY_n, vInY_st1, vInY_st2, vNotInY_st1, vNotInY_st2, isNone_nD])
local macro_rules | `(tactic| walk_at "pt") => `(tactic| repeat' (first | apply Vl.PT.or | apply Vl.PT.and | apply Vl.PT.not | apply Vl.PB.or | apply Vl.PB.and | apply Vl.PB.not | (apply Vl.PT.ofB; first | apply Vl.PB.or | apply Vl.PB.and | apply Vl.PB.not | (intro Q; walk_at "v"; first | done | rfl)) | (intro Q; walk_at "v"; first | done | rfl)))
/-! the program: books by its words -/
def cCS : VCon := fun us n Q => ∃ ss : List Str, us = [.d (bP ss)] ∧ ss.length = 12 ∧ Q (.d (.tuple (stand (pe ss) (su ss)))) n
theorem vp_can_stand (us : List VV) (n : Nat) (Q : VV → Nat → Prop) (h : cCS us n Q) : v_can_stand ⟨us.map toX ++ List.replicate (2 - us.length) none, n⟩ (vEnd Q) := by
  obtain ⟨ss, rfl, hl, hQ⟩ := h
  obtain ⟨a0, a1, a2, a3, a4, a5, a6, a7, a8, a9, a10, a11, rfl⟩ := b12 hl
  simp only [pe, su] at hQ
  unfold v_can_stand
  walk_at "v"
  cases hp : (a0 == Str.ofString "perhaps" || a1 == Str.ofString "perhaps") <;> cases hs : (a0 == Str.ofString "sure" || (a1 == Str.ofString "sure" || a6 == Str.ofString "sure")) <;> simp only [hp, hs, stand, cond_true, cond_false] at hQ ⊢ <;> walk_at "v" <;> exact hQ
def cB (f : List Str → Bool) : VCon := fun us n Q => ∃ ss : List Str, us = [.d (bP ss)] ∧ ss.length = 12 ∧ Q (.d (.bool (f ss))) n
theorem vp_marks_nobody (us : List VV) (n : Nat) (Q : VV → Nat → Prop) (h : cB mnB us n Q) : v_marks_nobody ⟨us.map toX ++ List.replicate (1 - us.length) none, n⟩ (vEnd Q) := by
  obtain ⟨ss, rfl, hl, hQ⟩ := h
  obtain ⟨a0, a1, a2, a3, a4, a5, a6, a7, a8, a9, a10, a11, rfl⟩ := b12 hl
  unfold v_marks_nobody
  exact ret_b (by walk_at "pt") hQ
theorem vp_answers_mark (us : List VV) (n : Nat) (Q : VV → Nat → Prop) (h : cB amB us n Q) : v_answers_mark cCS ⟨us.map toX ++ List.replicate (2 - us.length) none, n⟩ (vEnd Q) := by
  obtain ⟨ss, rfl, hl, hQ⟩ := h
  unfold v_answers_mark
  refine sq_mid (fun e' => e' = ⟨[some (.d (bP ss)), some (.d (.tuple (stand (pe ss) (su ss))))], n⟩) (fun N hN => ?_) ?_
  · walk_at "v"
    refine ⟨ss, rfl, hl, ?_⟩
    walk_at "v"
    exact hN _ rfl
  rintro e' rfl
  obtain ⟨a0, a1, a2, a3, a4, a5, a6, a7, a8, a9, a10, a11, rfl⟩ := b12 hl
  exact ret_b (by walk_at "pt") hQ
theorem vp_raises_no_direct_reader (us : List VV) (n : Nat) (Q : VV → Nat → Prop) (h : cB rdB us n Q) : v_raises_no_direct_reader cCS ⟨us.map toX ++ List.replicate (1 - us.length) none, n⟩ (vEnd Q) := by
  obtain ⟨ss, rfl, hl, hQ⟩ := h
  unfold v_raises_no_direct_reader
  walk_at "v"
  refine ⟨ss, rfl, hl, ?_⟩
  obtain ⟨a0, a1, a2, a3, a4, a5, a6, a7, a8, a9, a10, a11, rfl⟩ := b12 hl
  simp only [rdB] at hQ
  generalize pe [a0, a1, a2, a3, a4, a5, a6, a7, a8, a9, a10, a11] = x1 at hQ ⊢
  generalize su [a0, a1, a2, a3, a4, a5, a6, a7, a8, a9, a10, a11] = x2 at hQ ⊢
  walk_at "v"
  revert hQ
  cases x1
  · walk_at "v"
    exact id
  walk_at "v"
  cases (a3 == Str.ofString "check")
  · walk_at "v"
    exact id
  walk_at "v"
  cases (a5 == Str.ofString "mark")
  · walk_at "v"
    exact id
  walk_at "v"
  cases (a0 == Str.ofString "sure") <;> cases (a6 == Str.ofString "sure") <;> walk_at "v" <;> exact id
theorem vp_strikes_what_it_asks_for (us : List VV) (n : Nat) (Q : VV → Nat → Prop) (h : cB stB us n Q) : v_strikes_what_it_asks_for cCS ⟨us.map toX ++ List.replicate (1 - us.length) none, n⟩ (vEnd Q) := by
  obtain ⟨ss, rfl, hl, hQ⟩ := h
  unfold v_strikes_what_it_asks_for
  walk_at "v"
  refine ⟨ss, rfl, hl, ?_⟩
  obtain ⟨a0, a1, a2, a3, a4, a5, a6, a7, a8, a9, a10, a11, rfl⟩ := b12 hl
  simp only [stB] at hQ
  generalize pe [a0, a1, a2, a3, a4, a5, a6, a7, a8, a9, a10, a11] = x1 at hQ ⊢
  generalize su [a0, a1, a2, a3, a4, a5, a6, a7, a8, a9, a10, a11] = x2 at hQ ⊢
  walk_at "v"
  revert hQ
  cases x2
  · walk_at "v"
    exact id
  walk_at "v"
  cases (a4 == Str.ofString "check")
  · walk_at "v"
    exact id
  walk_at "v"
  cases (a5 == Str.ofString "mark")
  · walk_at "v"
    exact id
  walk_at "v"
  exact id
def cBw (f : List Str → Bool) : VCon := fun us n Q => ∃ ss : List Str, us = [.d (bP ss)] ∧ Bw ss ∧ Q (.d (.bool (f ss))) n
def cN (f : List Str → Nat) : VCon := fun us n Q => ∃ ss : List Str, us = [.d (bP ss)] ∧ Bw ss ∧ Q (.d (nD (f ss))) n
theorem vp_leaves_marks_below_clean (us : List VV) (n : Nat) (Q : VV → Nat → Prop) (h : cBw lmB us n Q) : v_leaves_marks_below_clean ⟨us.map toX ++ List.replicate (1 - us.length) none, n⟩ (vEnd Q) := by
  obtain ⟨ss, rfl, hw, hQ⟩ := h
  obtain ⟨a0, a1, a2, a3, a4, a5, a6, a7, a8, a9, a10, a11, rfl⟩ := b12 hw.len
  have h8 := w3_of (hw.at_ 8 a8 rfl) rfl
  clear hw
  simp only [lmB] at hQ
  unfold v_leaves_marks_below_clean
  refine if_ret (by walk_at "pt") (fun hb => ?_) (fun hb => ?_)
  · have e : ((a6 == Str.ofString "sure" && !(a2 == Str.ofString "never")) = false) := by revert hb; cases (a6 == Str.ofString "sure") <;> cases (a2 == Str.ofString "never") <;> simp
    rw [e] at hQ
    exact hQ
  have e : ((a6 == Str.ofString "sure" && !(a2 == Str.ofString "never")) = true) := by revert hb; cases (a6 == Str.ofString "sure") <;> cases (a2 == Str.ofString "never") <;> simp
  rw [e, Bool.true_and] at hQ
  refine if_ret (by walk_at "pt") (fun hb => ?_) (fun hb2 => ?_)
  · rw [hb] at hQ
    exact hQ
  rw [hb2, Bool.false_or] at hQ
  refine sq_if (by walk_at "pt") (fun hb3 => ?_) (fun hb3 => ?_)
  · refine ret_b (by walk_at "pt") ?_
    rcases h8 with rfl | rfl | rfl
    · show Q _ n
      exact (by simpa [show (Str.ofString "ahead" == Str.ofString "behind") = false by decide] using hQ)
    · exact absurd hb3 (by decide)
    · exact absurd hb3 (by decide)
  · refine ret_b (by walk_at "pt") ?_
    rcases h8 with rfl | rfl | rfl
    · exact absurd hb3 (by decide)
    · show Q _ n
      exact (by simpa [show (Str.ofString "behind" == Str.ofString "ahead") = false by decide] using hQ)
    · exact absurd hb2 (by decide)
theorem vp_slip_alone (us : List VV) (n : Nat) (Q : VV → Nat → Prop) (h : cN aloneN us n Q) : v_slip_alone (cB mnB) (cB amB) (cB rdB) (cB stB) (cBw lmB) ⟨us.map toX ++ List.replicate (1 - us.length) none, n⟩ (vEnd Q) := by
  obtain ⟨ss, rfl, hw, hQ⟩ := h
  unfold v_slip_alone
  unfold aloneN at hQ
  walk_at "v"
  refine ⟨ss, rfl, hw.len, ?_⟩
  walk_at "v"
  cases h1 : mnB ss
  case true => rw [h1] at hQ; walk_at "v"; exact hQ
  rw [h1] at hQ
  walk_at "v"
  refine ⟨ss, rfl, hw.len, ?_⟩
  walk_at "v"
  cases h2 : amB ss
  case true => rw [h2] at hQ; walk_at "v"; exact hQ
  rw [h2] at hQ
  walk_at "v"
  refine ⟨ss, rfl, hw.len, ?_⟩
  walk_at "v"
  cases h3 : rdB ss
  case true => rw [h3] at hQ; walk_at "v"; exact hQ
  rw [h3] at hQ
  walk_at "v"
  refine ⟨ss, rfl, hw.len, ?_⟩
  walk_at "v"
  cases h4 : stB ss
  case true => rw [h4] at hQ; walk_at "v"; exact hQ
  rw [h4] at hQ
  walk_at "v"
  refine ⟨ss, rfl, hw, ?_⟩
  walk_at "v"
  cases h5 : lmB ss
  case true => rw [h5] at hQ; walk_at "v"; exact hQ
  rw [h5] at hQ
  walk_at "v"
  exact hQ
theorem vp_safe_alone (us : List VV) (n : Nat) (Q : VV → Nat → Prop) (h : cBw (fun ss => aloneN ss == 0) us n Q) : v_safe_alone (cN aloneN) ⟨us.map toX ++ List.replicate (1 - us.length) none, n⟩ (vEnd Q) := by
  obtain ⟨ss, rfl, hw, hQ⟩ := h
  unfold v_safe_alone
  walk_at "v"
  refine ⟨ss, rfl, hw, ?_⟩
  walk_at "v"
  exact hQ
def qtB (ss : List Str) : Bool := aloneN ss == 0 && (match ss with
  | [_, _, _, _, _, _, a6, _, a8, _, a10, _] => a10 == "struck" && (a6 == "none" || a8 == "behind")
  | _ => false)
theorem vp_is_quiet (us : List VV) (n : Nat) (Q : VV → Nat → Prop) (h : cBw qtB us n Q) : v_is_quiet (cBw (fun ss => aloneN ss == 0)) ⟨us.map toX ++ List.replicate (1 - us.length) none, n⟩ (vEnd Q) := by
  obtain ⟨ss, rfl, hw, hQ⟩ := h
  unfold v_is_quiet
  walk_at "v"
  refine ⟨ss, rfl, hw, ?_⟩
  obtain ⟨a0, a1, a2, a3, a4, a5, a6, a7, a8, a9, a10, a11, rfl⟩ := b12 hw.len
  simp only [qtB] at hQ
  dsimp only
  generalize (aloneN [a0, a1, a2, a3, a4, a5, a6, a7, a8, a9, a10, a11] == 0) = q at hQ ⊢
  revert hQ
  cases q
  · walk_at "v"
    exact id
  walk_at "v"
  cases (a10 == Str.ofString "struck")
  · walk_at "v"
    exact id
  walk_at "v"
  cases (a6 == Str.ofString "none")
  · walk_at "v"
    exact id
  walk_at "v"
  exact id
end Lw
set_option Elab.async false
set_option linter.all false
set_option maxRecDepth 100000
set_option maxHeartbeats 1000000
namespace Lw
open PySem PySem.Spec PyProof.Rows L2 Lt Vl
local macro_rules | `(tactic| walk_at "v") => `(tactic| try simp only [vSq, vSet, vSetO, vRet, vRetN, vDrop, vAsg, vPar, vPar3, vParLO, vNx, vIfS, vVar, vC, vTy, vOp, vCons, vN, vB, vNot, vTup, vLst, vCall, vMo, vExt, vOrT, vAndT, vIf, vAnd, vOr, vNotV, vNeg, vSl, vNoP, vP, vTru, vSeq, vR1, vR2, vR3, vFor, vYes, vF, vFK, goF, vEnumA, vZip, vRev, vJoined, vJs, vFmt, vNo, vIsi, vDict, vPairs, vFrz, vAug, vSub, vCh, vMs, vIdxL, vTry, vSetX, vRaise, vIsX, vLstX, vKd, vTIx, bang_d, bang_fr, bang_ow, bang_tok, bang_b,
  dat2, dat, pl, stab, someD, someP, optV, optB, optL, asB, setV, retV, owAt, allS, allD, allA, argS, argD, seqD, tupD, toX, vEnd, VEnv.put, wipeV, hN, hT, hsC, hsN, perm, isFlat, flatD, isNone_n, isNone_i, isNone_s, isNone_b, isNone_t, isNone_l, truD, vIs_n, vIsNot_n, vTup_t, vTup_l, vList_t, vList_l, vLen_t, vLen_l, vInt_i, vInt_b, vAbs_i, vMin_ii, vMax_ii, vMax3_i, vSl_t, vSl_l,
  Int.reduceEq, Int.reduceLT, Int.reduceLE, Int.reduceAdd, Int.reduceSub, Int.reduceToNat, Nat.reduceAdd, Nat.reduceSub, Nat.reduceLT, Nat.reduceLeDiff, Option.bind_some, Option.map_some, Option.isSome_some, List.getElem?_cons_zero, List.getElem?_cons_succ, List.getElem?_nil, List.set_cons_zero, List.set_cons_succ, List.map_cons, List.map_nil, List.length_cons, List.length_nil, List.replicate_succ, List.replicate_zero, List.append_nil, List.nil_append, List.cons_append, List.getD_cons_zero, List.getD_cons_succ, List.all_cons, List.all_nil, List.isEmpty_nil, List.isEmpty_cons, decide_true, decide_false, Bool.not_true, Bool.not_false, Bool.and_true, Bool.true_and, Bool.or_false, Bool.false_or,
  sizeLine_eq, ↓reduceIte, vAdd_ll', vAdd_tt', app', vIx_t', vIx_l', atI_0, atI_1, atI_2, atI_3, atI_4, atI_5, atI_6, atI_7, atI_8, atI_9, atI_10, atI_11, atI_12, atI_13, atI_14, atI_15, atI_16, atI_17, atI_18, atI_19, cutL_0, cutR_0, cutL_1, cutR_1, cutL_2, cutR_2, cutL_3, cutR_3, cutL_4, cutR_4, cutL_5, cutR_5, cutL_6, cutR_6, cutL_7, cutR_7, cutL_8, cutR_8, cutL_9, cutR_9, cutL_10, cutR_10, cutL_11, cutR_11, cutL_12, cutR_12, cutL_13, cutR_13, cutM_6_7, cutM_8_11, cutM_0_2, List.take_succ_cons, List.take_zero, List.drop_succ_cons, List.drop_zero, inV_cons, inV_nil, eqV_ss, eqV_ii, eqV_ni, eqV_in,
  vAdd_ii, vSub_ii, vLt_ii, vLe_ii, vGt_ii, vGe_ii, eqD_ii, eqD_ss, eqD_bb, vEq, vNe, vIn, vNotIn, inD, dV, allDV, true_and, and_true, vInY_s, vInY_it, vInY_il, vInY_n, vNotInY_s, vNotInY_it, vNotInY_il, vNotInY_n, vInY_st1, vInY_st2, vNotInY_st1, vNotInY_st2, isNone_nD])
local macro_rules | `(tactic| walk_at "pt") => `(tactic| repeat' (first | apply Vl.PT.or | apply Vl.PT.and | apply Vl.PT.not | apply Vl.PB.or | apply Vl.PB.and | apply Vl.PB.not | (apply Vl.PT.ofB; first | apply Vl.PB.or | apply Vl.PB.and | apply Vl.PB.not | (intro Q; walk_at "v"; first | done | rfl)) | (intro Q; walk_at "v"; first | done | rfl)))
/-! the law's own numbers -/
def lnN : List Str → Nat
  | ss@([a0, a1, a2, a3, a4, a5, a6, a7, a8, a9, a10, a11]) => bif mnB ss then 1 else bif amB ss then 2 else bif rdB ss then 3 else bif stB ss then 4 else bif a6 == "none" || a2 == "never" then 0 else
      bif a8 == "unless" || ((a8 == "ahead" && a9 == "behind") || (a8 == "behind" && a10 == "kept")) then 5 else 0
  | _ => 0
theorem ln_alone {ss : List Str} (h : Bw ss) : lnN ss = aloneN ss := by
  obtain ⟨a0, a1, a2, a3, a4, a5, a6, a7, a8, a9, a10, a11, rfl⟩ := b12 h.len
  have h6 := w2_of (h.at_ 6 a6 rfl) rfl
  unfold lnN aloneN
  simp only [lmB]
  cases mnB [a0, a1, a2, a3, a4, a5, a6, a7, a8, a9, a10, a11]
  case true => rfl
  cases amB [a0, a1, a2, a3, a4, a5, a6, a7, a8, a9, a10, a11]
  case true => rfl
  cases rdB [a0, a1, a2, a3, a4, a5, a6, a7, a8, a9, a10, a11]
  case true => rfl
  cases stB [a0, a1, a2, a3, a4, a5, a6, a7, a8, a9, a10, a11]
  case true => rfl
  simp only [cond_false]
  have e6 : (a6 == Str.ofString "none") = !(a6 == Str.ofString "sure") := by rcases h6 with rfl | rfl <;> decide
  rw [e6]
  cases (a6 == Str.ofString "sure") <;> cases (a2 == Str.ofString "never") <;> rfl
def cLN : VCon := fun us n Q => ∃ ss : List Str, us = [.d (bP ss)] ∧ ss.length = 12 ∧ Q (.d (.int (lnN ss : Nat))) n
theorem vp_law_number (us : List VV) (n : Nat) (Q : VV → Nat → Prop) (h : cLN us n Q) : v_law_number cLCS ⟨us.map toX ++ List.replicate (7 - us.length) none, n⟩ (vEnd Q) := by
  obtain ⟨ss, rfl, hl, hQ⟩ := h
  unfold v_law_number
  refine sq_mid (fun e' => e' = ⟨[some (.d (bP ss)), some (.d (.bool (pe ss))), some (.d (.bool (su ss))), none, none, none, none], n⟩) (fun N hN => ?_) ?_
  · walk_at "v"
    refine ⟨ss, rfl, hl, ?_⟩
    walk_at "v"
    exact hN _ rfl
  rintro e' rfl
  obtain ⟨a0, a1, a2, a3, a4, a5, a6, a7, a8, a9, a10, a11, rfl⟩ := b12 hl
  simp only [lnN, mnB, amB, rdB, stB] at hQ
  generalize pe [a0, a1, a2, a3, a4, a5, a6, a7, a8, a9, a10, a11] = x1 at hQ ⊢
  generalize su [a0, a1, a2, a3, a4, a5, a6, a7, a8, a9, a10, a11] = x2 at hQ ⊢
  refine sq_mid (fun e' => e' = ⟨[some (.d (bP [a0, a1, a2, a3, a4, a5, a6, a7, a8, a9, a10, a11])), some (.d (.bool x1)), some (.d (.bool x2)), some (.d (.str a8)), some (.d (.str a9)), some (.d (.str a10)), none], n⟩) (fun N hN => ?_) ?_
  · walk_at "v"
    exact hN _ rfl
  rintro e' rfl
  refine if_ret (b := (a0 == Str.ofString "none" || a1 == Str.ofString "none")) (by walk_at "pt") (fun hb => by rw [hb] at hQ; exact hQ) (fun hb => ?_)
  rw [hb, cond_false] at hQ
  clear hb
  refine if_ret (b := (x1 && a3 == Str.ofString "answer" || (x2 && a4 == Str.ofString "answer"))) (by walk_at "pt") (fun hb => by rw [hb] at hQ; exact hQ) (fun hb => ?_)
  rw [hb, cond_false] at hQ
  clear hb
  refine if_ret (b := (x1 && (a3 == Str.ofString "check" && (a5 == Str.ofString "mark" && (!(a0 == Str.ofString "sure") || !(a6 == Str.ofString "sure")))))) (by walk_at "pt") (fun hb => by rw [hb] at hQ; exact hQ) (fun hb => ?_)
  rw [hb, cond_false] at hQ
  clear hb
  refine if_ret (b := (x2 && (a4 == Str.ofString "check" && (a5 == Str.ofString "mark" && a8 == Str.ofString "ahead")))) (by walk_at "pt") (fun hb => by rw [hb] at hQ; exact hQ) (fun hb => ?_)
  rw [hb, cond_false] at hQ
  clear hb
  refine if_ret (b := (a6 == Str.ofString "none" || a2 == Str.ofString "never")) (by walk_at "pt") (fun hb => by rw [hb] at hQ; exact hQ) (fun hb => ?_)
  rw [hb, cond_false] at hQ
  clear hb
  refine set_sq (b := (a8 == Str.ofString "unless" || (a8 == Str.ofString "ahead" && a9 == Str.ofString "behind" || (a8 == Str.ofString "behind" && a10 == Str.ofString "kept")))) (by walk_at "pt") ?_
  revert hQ
  generalize (a8 == Str.ofString "unless" || (a8 == Str.ofString "ahead" && a9 == Str.ofString "behind" || (a8 == Str.ofString "behind" && a10 == Str.ofString "kept"))) = x
  cases x <;> walk_at "v" <;> exact id
theorem vp_is_calm (us : List VV) (n : Nat) (Q : VV → Nat → Prop) (h : cBw qtB us n Q) : v_law_is_calm cLN ⟨us.map toX ++ List.replicate (1 - us.length) none, n⟩ (vEnd Q) := by
  obtain ⟨ss, rfl, hw, hQ⟩ := h
  unfold v_law_is_calm
  walk_at "v"
  refine ⟨ss, rfl, hw.len, ?_⟩
  rw [ln_alone hw]
  unfold qtB at hQ
  walk_at "v"
  have e : ∀ k : Nat, decide ((k : Int) = 0) = (k == 0) := fun k => by
    cases k with
    | zero => rfl
    | succ k => rw [show ((k + 1 == 0) = false) from rfl]; exact decide_eq_false (by omega)
  rw [e]
  revert hQ
  cases aloneN ss == 0
  · walk_at "v"
    exact id
  obtain ⟨a0, a1, a2, a3, a4, a5, a6, a7, a8, a9, a10, a11, rfl⟩ := b12 hw.len
  walk_at "v"
  cases (a10 == Str.ofString "struck")
  · walk_at "v"
    exact id
  walk_at "v"
  cases (a6 == Str.ofString "none")
  · walk_at "v"
    exact id
  walk_at "v"
  exact id
/-! near ones -/
end Lw
set_option Elab.async false
set_option linter.all false
set_option maxRecDepth 100000
set_option maxHeartbeats 1000000
namespace Lw
open PySem PySem.Spec PyProof.Rows L2 Lt Vl
local macro_rules | `(tactic| walk_at "v") => `(tactic| try simp only [vSq, vSet, vSetO, vRet, vRetN, vDrop, vAsg, vPar, vPar3, vParLO, vNx, vIfS, vVar, vC, vTy, vOp, vCons, vN, vB, vNot, vTup, vLst, vCall, vMo, vExt, vOrT, vAndT, vIf, vAnd, vOr, vNotV, vNeg, vSl, vNoP, vP, vTru, vSeq, vR1, vR2, vR3, vFor, vYes, vF, vFK, goF, vEnumA, vZip, vRev, vJoined, vJs, vFmt, vNo, vIsi, vDict, vPairs, vFrz, vAug, vSub, vCh, vMs, vIdxL, vTry, vSetX, vRaise, vIsX, vLstX, vKd, vTIx, bang_d, bang_fr, bang_ow, bang_tok, bang_b,
  dat2, dat, pl, stab, someD, someP, optV, optB, optL, asB, setV, retV, owAt, allS, allD, allA, argS, argD, seqD, tupD, toX, vEnd, VEnv.put, wipeV, hN, hT, hsC, hsN, perm, isFlat, flatD, isNone_n, isNone_i, isNone_s, isNone_b, isNone_t, isNone_l, truD, vIs_n, vIsNot_n, vTup_t, vTup_l, vList_t, vList_l, vLen_t, vLen_l, vInt_i, vInt_b, vAbs_i, vMin_ii, vMax_ii, vMax3_i, vSl_t, vSl_l,
  Int.reduceEq, Int.reduceLT, Int.reduceLE, Int.reduceAdd, Int.reduceSub, Int.reduceToNat, Nat.reduceAdd, Nat.reduceSub, Nat.reduceLT, Nat.reduceLeDiff, Option.bind_some, Option.map_some, Option.isSome_some, List.getElem?_cons_zero, List.getElem?_cons_succ, List.getElem?_nil, List.set_cons_zero, List.set_cons_succ, List.map_cons, List.map_nil, List.length_cons, List.length_nil, List.replicate_succ, List.replicate_zero, List.append_nil, List.nil_append, List.cons_append, List.getD_cons_zero, List.getD_cons_succ, List.all_cons, List.all_nil, List.isEmpty_nil, List.isEmpty_cons, decide_true, decide_false, Bool.not_true, Bool.not_false, Bool.and_true, Bool.true_and, Bool.or_false, Bool.false_or,
  sizeLine_eq, ↓reduceIte, vAdd_ll', vAdd_tt', app', vIx_t', vIx_l', atI_0, atI_1, atI_2, atI_3, atI_4, atI_5, atI_6, atI_7, atI_8, atI_9, atI_10, atI_11, atI_12, atI_13, atI_14, atI_15, atI_16, atI_17, atI_18, atI_19, cutL_0, cutR_0, cutL_1, cutR_1, cutL_2, cutR_2, cutL_3, cutR_3, cutL_4, cutR_4, cutL_5, cutR_5, cutL_6, cutR_6, cutL_7, cutR_7, cutL_8, cutR_8, cutL_9, cutR_9, cutL_10, cutR_10, cutL_11, cutR_11, cutL_12, cutR_12, cutL_13, cutR_13, cutM_6_7, cutM_8_11, cutM_0_2, List.take_succ_cons, List.take_zero, List.drop_succ_cons, List.drop_zero, inV_cons, inV_nil, eqV_ss, eqV_ii, eqV_ni, eqV_in,
  vAdd_ii, vSub_ii, vLt_ii, vLe_ii, vGt_ii, vGe_ii, eqD_ii, eqD_ss, eqD_bb, vEq, vNe, vIn, vNotIn, inD, dV, allDV, true_and, and_true, vInY_s, vInY_it, vInY_il, vInY_n, vNotInY_s, vNotInY_it, vNotInY_il, vNotInY_n, vInY_st1, vInY_st2, vNotInY_st1, vNotInY_st2, isNone_nD])
local macro_rules | `(tactic| walk_at "pt") => `(tactic| repeat' (first | apply Vl.PT.or | apply Vl.PT.and | apply Vl.PT.not | apply Vl.PB.or | apply Vl.PB.and | apply Vl.PB.not | (apply Vl.PT.ofB; first | apply Vl.PB.or | apply Vl.PB.and | apply Vl.PB.not | (intro Q; walk_at "v"; first | done | rfl)) | (intro Q; walk_at "v"; first | done | rfl)))
/-! safe books -/
theorem t_mn {ss : List Str} (hl : ss.length = 12) {w : Str} : mnB (ss.set 2 w) = mnB ss ∧ mnB (ss.set 3 w) = mnB ss ∧ mnB (ss.set 4 w) = mnB ss ∧ mnB (ss.set 5 w) = mnB ss ∧ mnB (ss.set 8 w) = mnB ss ∧ mnB (ss.set 10 w) = mnB ss := by
  obtain ⟨a0, a1, a2, a3, a4, a5, a6, a7, a8, a9, a10, a11, rfl⟩ := b12 hl
  exact ⟨rfl, rfl, rfl, rfl, rfl, rfl⟩
theorem t_am {ss : List Str} (hl : ss.length = 12) {w : Str} : amB (ss.set 2 w) = amB ss ∧ amB (ss.set 5 w) = amB ss ∧ amB (ss.set 8 w) = amB ss ∧ amB (ss.set 10 w) = amB ss := by
  obtain ⟨a0, a1, a2, a3, a4, a5, a6, a7, a8, a9, a10, a11, rfl⟩ := b12 hl
  exact ⟨rfl, rfl, rfl, rfl⟩
theorem t_ps {ss : List Str} (hl : ss.length = 12) {w : Str} : pe (ss.set 3 w) = pe ss ∧ su (ss.set 3 w) = su ss := by
  obtain ⟨a0, a1, a2, a3, a4, a5, a6, a7, a8, a9, a10, a11, rfl⟩ := b12 hl
  exact ⟨rfl, rfl⟩
theorem t_rd {ss : List Str} (hl : ss.length = 12) {w : Str} : rdB (ss.set 2 w) = rdB ss ∧ rdB (ss.set 8 w) = rdB ss ∧ rdB (ss.set 10 w) = rdB ss ∧ rdB (ss.set 5 "values") = false := by
  obtain ⟨a0, a1, a2, a3, a4, a5, a6, a7, a8, a9, a10, a11, rfl⟩ := b12 hl
  refine ⟨rfl, rfl, rfl, ?_⟩
  simp only [List.set_cons_succ, List.set_cons_zero, rdB, show (Str.ofString "values" == Str.ofString "mark") = false by decide, Bool.false_and, Bool.and_false]
theorem t_st {ss : List Str} (hl : ss.length = 12) {w : Str} : stB (ss.set 2 w) = stB ss ∧ stB (ss.set 10 w) = stB ss ∧ stB (ss.set 8 "behind") = false ∧ stB (ss.set 5 "values") = false := by
  obtain ⟨a0, a1, a2, a3, a4, a5, a6, a7, a8, a9, a10, a11, rfl⟩ := b12 hl
  refine ⟨rfl, rfl, ?_, ?_⟩
  · simp only [List.set_cons_succ, List.set_cons_zero, stB, show (Str.ofString "behind" == Str.ofString "ahead") = false by decide, Bool.false_and, Bool.and_false]
  · simp only [List.set_cons_succ, List.set_cons_zero, stB, show (Str.ofString "values" == Str.ofString "mark") = false by decide, Bool.false_and, Bool.and_false]
theorem t_lm {ss : List Str} (hl : ss.length = 12) : lmB (ss.set 2 "never") = false := by
  obtain ⟨a0, a1, a2, a3, a4, a5, a6, a7, a8, a9, a10, a11, rfl⟩ := b12 hl
  simp only [List.set_cons_succ, List.set_cons_zero, lmB, show (Str.ofString "never" == Str.ofString "never") = true by decide, Bool.not_true, Bool.false_and, Bool.and_false]
structure Mid (ss : List Str) : Prop where
  w : Bw ss
  mn : mnB ss = false
  am : amB ss = false
theorem no34 {ss : List Str} (h : Mid ss) (h3 : aloneN ss ≠ 3) (h4 : aloneN ss ≠ 4) : rdB ss = false ∧ stB ss = false := by
  unfold aloneN at h3 h4
  rw [h.mn, h.am] at h3 h4
  cases h1 : rdB ss <;> cases h2 : stB ss <;> rw [h1] at h3 h4 <;> (try rw [h2] at h3 h4) <;> simp at h3 h4 ⊢
theorem no5 {ss : List Str} (h : Mid ss) (hr : rdB ss = false) (hs : stB ss = false) (h5 : aloneN ss ≠ 5) : aloneN ss = 0 := by
  unfold aloneN at h5 ⊢
  rw [h.mn, h.am, hr, hs] at h5 ⊢
  cases hl : lmB ss <;> rw [hl] at h5 <;> simp at h5 ⊢
def cSafe : VCon := fun us n Q => us = [.tok 0] ∧ n < 2 ^ 58 ∧ ∀ (ss : List Str) (n' : Nat), Bw ss → aloneN ss = 0 → n' ≤ n + 40 → Q (.d (bP ss)) n'
theorem vp_safe_book (us : List VV) (n : Nat) (Q : VV → Nat → Prop) (h : cSafe us n Q) : v_law_safe_book cAny cTurn (cPick true) cLCS (cDraw true) cLN ⟨us.map toX ++ List.replicate (5 - us.length) none, n⟩ (vEnd Q) := by
  obtain ⟨rfl, hn, hQ⟩ := h
  unfold v_law_safe_book
  refine sq_mid (fun e' => ∃ ss, Bw ss ∧ e' = ⟨[some (.tok 0), some (.d (bP ss)), none, none, none], n + 12⟩) (fun N hN => ?_) ?_
  · walk_at "v"
    refine ⟨rfl, by omega, fun ss hb => ?_⟩
    walk_at "v"
    exact hN _ ⟨ss, hb, rfl⟩
  rintro e' ⟨ss, hb, rfl⟩
  -- a word drawn, and put
  have put : ∀ {ss : List Str} {k : Nat} {a b : Str} {e2 e3 e4 : Option VX} {m : Nat} {D : VEnds}, Bw ss → k < 12 → m < 2 ^ 59 → (∀ s, s = a ∨ s = b → D.nx ⟨[some (.tok 0), some (.d (bP (ss.set k s))), e2, e3, e4], m + 1⟩) →
      vSet 1 (vF cTurn (vCons (vVar 1) (vCons (vC (.int k)) (vCons (vF (cPick true) (vCons (vVar 0) (vCons (vLst (vCons (vC (.str a)) (vCons (vC (.str b)) vN))) vN))) vN)))) ⟨[some (.tok 0), some (.d (bP ss)), e2, e3, e4], m⟩ D := fun {ss k a b e2 e3 e4 m D} hb hk hm hD => by
    walk_at "v"
    refine ⟨_, [.str a, .str b], rfl, rfl, by simp, by simp, show m < 2 ^ 60 by omega, fun x hx => ?_⟩
    have hx' : ∃ s, (s = a ∨ s = b) ∧ x = .str s := by
      simp only [List.mem_cons, List.not_mem_nil, or_false] at hx
      rcases hx with rfl | rfl
      · exact ⟨a, .inl rfl, rfl⟩
      · exact ⟨b, .inr rfl, rfl⟩
    obtain ⟨s, hs, rfl⟩ := hx'
    walk_at "v"
    refine ⟨ss, k, s, rfl, hb.len, hk, ?_⟩
    walk_at "v"
    exact hD _ hs
  -- for spot in (0, 1)
  refine sq_mid (fun e' => ∃ ss e2, Bw ss ∧ mnB ss = false ∧ e' = ⟨[some (.tok 0), some (.d (bP ss)), e2, none, none], n + 14⟩) (fun N hN => ?_) ?_
  · walk_at "v"
    simp only [vLoop]
    walk_at "v"
    refine ⟨_, [.str "perhaps", .str "sure"], rfl, rfl, by simp, by simp, show n + 12 < 2 ^ 60 by omega, fun x hx => ?_⟩
    have hx' : ∃ s, (s = Str.ofString "perhaps" ∨ s = Str.ofString "sure") ∧ x = .str s := by
      simp only [List.mem_cons, List.not_mem_nil, or_false] at hx
      rcases hx with rfl | rfl
      · exact ⟨_, .inl rfl, rfl⟩
      · exact ⟨_, .inr rfl, rfl⟩
    obtain ⟨s, hs, rfl⟩ := hx'
    walk_at "v"
    refine ⟨ss, 0, s, rfl, hb.len, by decide, ?_⟩
    walk_at "v"
    refine ⟨_, [.str "perhaps", .str "sure"], rfl, rfl, by simp, by simp, show n + 13 < 2 ^ 60 by omega, fun x hx => ?_⟩
    have hx' : ∃ s, (s = Str.ofString "perhaps" ∨ s = Str.ofString "sure") ∧ x = .str s := by
      simp only [List.mem_cons, List.not_mem_nil, or_false] at hx
      rcases hx with rfl | rfl
      · exact ⟨_, .inl rfl, rfl⟩
      · exact ⟨_, .inr rfl, rfl⟩
    obtain ⟨s2, hs2, rfl⟩ := hx'
    walk_at "v"
    have h0 : WAt 0 s := by rcases hs with rfl | rfl <;> exact wat rfl (by decide)
    have h1 : WAt 1 s2 := by rcases hs2 with rfl | rfl <;> exact wat rfl (by decide)
    refine ⟨_, 1, s2, rfl, (hb.set h0).len, by decide, ?_⟩
    walk_at "v"
    refine hN _ ⟨_, _, (hb.set h0).set h1, ?_, rfl⟩
    obtain ⟨a0, a1, a2, a3, a4, a5, a6, a7, a8, a9, a10, a11, rfl⟩ := b12 hb.len
    simp only [List.set_cons_succ, List.set_cons_zero, mnB]
    rcases hs with rfl | rfl <;> rcases hs2 with rfl | rfl <;> decide
  rintro e' ⟨ss, e2, hb, hmn, rfl⟩
  refine sq_mid (fun e' => e' = ⟨[some (.tok 0), some (.d (bP ss)), e2, some (.d (.bool (pe ss))), some (.d (.bool (su ss)))], n + 14⟩) (fun N hN => ?_) ?_
  · walk_at "v"
    refine ⟨ss, rfl, hb.len, ?_⟩
    walk_at "v"
    exact hN _ rfl
  rintro e' rfl
  generalize hx1 : pe ss = x1
  generalize hx2 : su ss = x2
  refine sq_mid (fun e' => ∃ ss m, Bw ss ∧ mnB ss = false ∧ su ss = x2 ∧ (∀ a, ss[3]? = some a → (x1 && a == Str.ofString "answer") = false) ∧ pe ss = x1 ∧ m ≤ n + 15 ∧ e' = ⟨[some (.tok 0), some (.d (bP ss)), e2, some (.d (.bool x1)), some (.d (.bool x2))], m⟩) (fun N hN => ?_) ?_
  · obtain ⟨a0, a1, a2, a3, a4, a5, a6, a7, a8, a9, a10, a11, rfl⟩ := b12 hb.len
    refine if_go (b := x1 && a3 == Str.ofString "answer") (by walk_at "pt") (fun hb1 => ?_) (fun hb1 => ?_)
    · refine put hb (by decide) (by omega) fun s hs => hN _ ⟨_, _, hb.set ?_, ?_, ?_, ?_, ?_, Nat.le_refl _, rfl⟩
      · rcases hs with rfl | rfl <;> exact wat rfl (by decide)
      · rw [(t_mn hb.len).2.1]; exact hmn
      · rw [(t_ps hb.len).2]; exact hx2
      · rintro a ha
        cases ha
        rw [show (s == Str.ofString "answer") = false by rcases hs with rfl | rfl <;> decide, Bool.and_false]
      · rw [(t_ps hb.len).1]; exact hx1
    · walk_at "v"
      exact hN _ ⟨_, _, hb, hmn, hx2, fun a ha => by cases ha; exact hb1, hx1, by omega, rfl⟩
  clear hx1 hx2 hmn hb
  rintro e' ⟨ss, m, hb, hmn, hx2, h3, hx1, hm, rfl⟩
  refine sq_mid (fun e' => ∃ ss m, Mid ss ∧ m ≤ n + 16 ∧ e' = ⟨[some (.tok 0), some (.d (bP ss)), e2, some (.d (.bool x1)), some (.d (.bool x2))], m⟩) (fun N hN => ?_) ?_
  · obtain ⟨a0, a1, a2, a3, a4, a5, a6, a7, a8, a9, a10, a11, rfl⟩ := b12 hb.len
    have h3' := h3 a3 rfl
    refine if_go (b := x2 && a4 == Str.ofString "answer") (by walk_at "pt") (fun hb1 => ?_) (fun hb1 => ?_)
    · refine put hb (by decide) (by omega) fun s hs => hN _ ⟨_, _, ⟨hb.set ?_, ?_, ?_⟩, by omega, rfl⟩
      · rcases hs with rfl | rfl <;> exact wat rfl (by decide)
      · rw [(t_mn hb.len).2.2.1]; exact hmn
      · show (pe _ && a3 == Str.ofString "answer" || (su _ && s == Str.ofString "answer")) = false
        rw [show pe [a0, a1, a2, a3, s, a5, a6, a7, a8, a9, a10, a11] = x1 from hx1, h3', show (s == Str.ofString "answer") = false by rcases hs with rfl | rfl <;> decide, Bool.and_false]
        rfl
    · walk_at "v"
      refine hN _ ⟨_, _, ⟨hb, hmn, ?_⟩, by omega, rfl⟩
      show (pe _ && a3 == Str.ofString "answer" || (su _ && a4 == Str.ofString "answer")) = false
      rw [hx1, hx2, h3', hb1]
      rfl
  clear hx1 hx2 hmn hb h3
  rintro e' ⟨ss, m, hd, hm, rfl⟩
  have setM : ∀ {ss : List Str}, Mid ss → Mid (ss.set 8 "behind") := fun {ss} h => ⟨h.w.set (wat rfl (by decide)), by rw [(t_mn h.w.len).2.2.2.2.1]; exact h.mn, by rw [(t_am h.w.len).2.2.1]; exact h.am⟩
  have setO : ∀ {ss : List Str}, Mid ss → Mid (ss.set 10 "struck") := fun {ss} h => ⟨h.w.set (wat rfl (by decide)), by rw [(t_mn h.w.len).2.2.2.2.2]; exact h.mn, by rw [(t_am h.w.len).2.2.2]; exact h.am⟩
  have setV : ∀ {ss : List Str}, Mid ss → Mid (ss.set 5 "values") := fun {ss} h => ⟨h.w.set (wat rfl (by decide)), by rw [(t_mn h.w.len).2.2.2.1]; exact h.mn, by rw [(t_am h.w.len).2.1]; exact h.am⟩
  have setN : ∀ {ss : List Str}, Mid ss → Mid (ss.set 2 "never") := fun {ss} h => ⟨h.w.set (wat rfl (by decide)), by rw [(t_mn h.w.len).1]; exact h.mn, by rw [(t_am h.w.len).1]; exact h.am⟩
  refine sq_mid (fun e' => ∃ ss m', Mid ss ∧ m' ≤ n + 17 ∧ e' = ⟨[some (.tok 0), some (.d (bP ss)), e2, some (.d (.bool x1)), some (.d (.bool x2))], m'⟩) (fun N hN => ?_) ?_
  · walk_at "v"
    refine ⟨ss, rfl, hd.w.len, ?_⟩
    walk_at "v"
    cases decide (((lnN ss : Nat) : Int) = 4)
    · exact hN _ ⟨ss, m, hd, by omega, rfl⟩
    · walk_at "v"
      refine ⟨2, rfl, by decide, by decide, by omega, fun d hd2 => ?_⟩
      walk_at "v"
      cases decide ((d : Int) = 0)
      · exact hN _ ⟨ss, m + 1, hd, by omega, rfl⟩
      · walk_at "v"
        refine ⟨ss, 8, _, rfl, hd.w.len, by decide, ?_⟩
        walk_at "v"
        exact hN _ ⟨_, m + 1, setM hd, by omega, rfl⟩
  clear hd hm
  rintro e' ⟨ss, m, hd, hm, rfl⟩
  refine sq_mid (fun e' => ∃ ss, Mid ss ∧ rdB ss = false ∧ stB ss = false ∧ e' = ⟨[some (.tok 0), some (.d (bP ss)), e2, some (.d (.bool x1)), some (.d (.bool x2))], m⟩) (fun N hN => ?_) ?_
  · walk_at "v"
    refine ⟨ss, rfl, hd.w.len, ?_⟩
    walk_at "v"
    cases h34 : ((3 : Int) == ((lnN ss : Nat) : Int) || (4 : Int) == ((lnN ss : Nat) : Int))
    · rw [ln_alone hd.w] at h34
      have h34' := no34 hd (fun e => by rw [e] at h34; exact absurd h34 (by decide)) (fun e => by rw [e] at h34; exact absurd h34 (by decide))
      exact hN _ ⟨ss, hd, h34'.1, h34'.2, rfl⟩
    · walk_at "v"
      refine ⟨ss, 5, _, rfl, hd.w.len, by decide, ?_⟩
      walk_at "v"
      exact hN _ ⟨_, setV hd, (t_rd hd.w.len (w := "")).2.2.2, (t_st hd.w.len (w := "")).2.2.2, rfl⟩
  clear hd
  rintro e' ⟨ss, hd, hr, hs, rfl⟩
  refine sq_mid (fun e' => ∃ ss m', Mid ss ∧ rdB ss = false ∧ stB ss = false ∧ m' ≤ n + 18 ∧ e' = ⟨[some (.tok 0), some (.d (bP ss)), e2, some (.d (.bool x1)), some (.d (.bool x2))], m'⟩) (fun N hN => ?_) ?_
  · walk_at "v"
    refine ⟨ss, rfl, hd.w.len, ?_⟩
    walk_at "v"
    cases decide (((lnN ss : Nat) : Int) = 5)
    · exact hN _ ⟨ss, m, hd, hr, hs, by omega, rfl⟩
    · walk_at "v"
      refine ⟨2, rfl, by decide, by decide, by omega, fun d hd2 => ?_⟩
      walk_at "v"
      cases decide ((d : Int) = 0)
      · exact hN _ ⟨ss, m + 1, hd, hr, hs, by omega, rfl⟩
      · walk_at "v"
        refine ⟨ss, 8, _, rfl, hd.w.len, by decide, ?_⟩
        walk_at "v"
        have hd' := setM hd
        refine ⟨_, 10, _, rfl, hd'.w.len, by decide, ?_⟩
        walk_at "v"
        refine hN _ ⟨_, m + 1, setO hd', ?_, ?_, by omega, rfl⟩
        · rw [(t_rd hd'.w.len).2.2.1, (t_rd hd.w.len).2.1]; exact hr
        · rw [(t_st hd'.w.len).2.1]; exact (t_st hd.w.len (w := "")).2.2.1
  clear hd hr hs hm
  rintro e' ⟨ss, m, hd, hr, hs, hm, rfl⟩
  walk_at "v"
  refine ⟨ss, rfl, hd.w.len, ?_⟩
  walk_at "v"
  cases h5 : decide (((lnN ss : Nat) : Int) = 5)
  · walk_at "v"
    rw [ln_alone hd.w] at h5
    exact hQ _ _ hd.w (no5 hd hr hs (fun e => by rw [e] at h5; exact absurd h5 (by decide))) (by omega)
  · walk_at "v"
    refine ⟨ss, 2, _, rfl, hd.w.len, by decide, ?_⟩
    walk_at "v"
    have hd' := setN hd
    refine hQ _ _ hd'.w ?_ (by omega)
    unfold aloneN
    rw [hd'.mn, hd'.am, (t_rd hd.w.len).1, hr, (t_st hd.w.len).1, hs, t_lm hd.w.len]
    rfl
/-! calm ones -/
theorem alone0 {ss : List Str} : aloneN ss = 0 ↔ mnB ss = false ∧ amB ss = false ∧ rdB ss = false ∧ stB ss = false ∧ lmB ss = false := by
  unfold aloneN
  cases mnB ss <;> cases amB ss <;> cases rdB ss <;> cases stB ss <;> cases lmB ss <;> decide
theorem qt_struck {ss : List Str} (h : Bw ss) (h0 : aloneN ss = 0) : aloneN (ss.set 10 "struck") = 0 := by
  obtain ⟨h1, h2, h3, h4, h5⟩ := alone0.mp h0
  refine alone0.mpr ⟨by rw [(t_mn h.len).2.2.2.2.2]; exact h1, by rw [(t_am h.len).2.2.2]; exact h2, by rw [(t_rd h.len).2.2.1]; exact h3, by rw [(t_st h.len).2.1]; exact h4, ?_⟩
  obtain ⟨a0, a1, a2, a3, a4, a5, a6, a7, a8, a9, a10, a11, rfl⟩ := b12 h.len
  revert h5
  simp only [List.set_cons_succ, List.set_cons_zero, lmB, show (Str.ofString "struck" == Str.ofString "kept") = false by decide, Bool.and_false, Bool.or_false]
  generalize (a6 == Str.ofString "sure" && !(a2 == Str.ofString "never")) = y1
  generalize (a8 == Str.ofString "unless") = y2
  generalize (a8 == Str.ofString "ahead" && a9 == Str.ofString "behind") = y3
  generalize (a8 == Str.ofString "behind" && a10 == Str.ofString "kept") = y4
  cases y1 <;> cases y2 <;> cases y3 <;> cases y4 <;> decide
theorem qt_behind {ss : List Str} (h : Bw ss) (h10 : ss[10]? = some (Str.ofString "struck")) (h0 : aloneN ss = 0) : aloneN (ss.set 8 "behind") = 0 := by
  obtain ⟨h1, h2, h3, h4, h5⟩ := alone0.mp h0
  refine alone0.mpr ⟨by rw [(t_mn h.len).2.2.2.2.1]; exact h1, by rw [(t_am h.len).2.2.1]; exact h2, by rw [(t_rd h.len).2.1]; exact h3, (t_st h.len (w := "")).2.2.1, ?_⟩
  obtain ⟨a0, a1, a2, a3, a4, a5, a6, a7, a8, a9, a10, a11, rfl⟩ := b12 h.len
  cases h10
  simp only [List.set_cons_succ, List.set_cons_zero, lmB, show (Str.ofString "behind" == Str.ofString "unless") = false by decide, show (Str.ofString "behind" == Str.ofString "ahead") = false by decide, show (Str.ofString "struck" == Str.ofString "kept") = false by decide, Bool.false_and, Bool.and_false, Bool.or_false]
def cCalm : VCon := fun us n Q => us = [.tok 0] ∧ n < 2 ^ 58 ∧ ∀ (ss : List Str) (n' : Nat), Bw ss → qtB ss = true → n' ≤ n + 40 → Q (.d (bP ss)) n'
theorem vp_calm_book (us : List VV) (n : Nat) (Q : VV → Nat → Prop) (h : cCalm us n Q) : v_law_calm_book cTurn cSafe ⟨us.map toX ++ List.replicate (2 - us.length) none, n⟩ (vEnd Q) := by
  obtain ⟨rfl, hn, hQ⟩ := h
  unfold v_law_calm_book
  walk_at "v"
  refine ⟨rfl, hn, fun ss m hb h0 hm => ?_⟩
  walk_at "v"
  refine ⟨ss, 10, _, rfl, hb.len, by decide, ?_⟩
  have h1 := qt_struck hb h0
  have hb1 := hb.set (k := 10) (s := "struck") (wat rfl (by decide))
  have h10 : (ss.set 10 (Str.ofString "struck"))[10]? = some (Str.ofString "struck") := by rw [List.getElem?_set]; simp [hb.len]
  generalize ss.set 10 (Str.ofString "struck") = tt at *
  have fin8 := qt_behind hb1 h10 h1
  have hb8 := hb1.set (k := 8) (s := "behind") (wat rfl (by decide))
  obtain ⟨a0, a1, a2, a3, a4, a5, a6, a7, a8, a9, a10, a11, rfl⟩ := b12 hb1.len
  cases h10
  walk_at "v"
  cases h6 : (a6 == Str.ofString "none")
  · walk_at "v"
    refine ⟨_, 8, _, rfl, hb1.len, by decide, ?_⟩
    refine hQ _ _ hb8 ?_ hm
    unfold qtB
    rw [fin8]
    simp only [List.set_cons_succ, List.set_cons_zero]
    rw [show (Str.ofString "struck" == Str.ofString "struck") = true by decide, show (Str.ofString "behind" == Str.ofString "behind") = true by decide, Bool.or_true]
    rfl
  · walk_at "v"
    refine hQ _ _ hb1 ?_ hm
    unfold qtB
    rw [h1]
    dsimp only
    rw [h6, show (Str.ofString "struck" == Str.ofString "struck") = true by decide]
    rfl
theorem qt_7 {ss : List Str} (hl : ss.length = 12) {w : Str} : qtB (ss.set 7 w) = qtB ss ∧ qtB (ss.set 11 w) = qtB ss := by
  obtain ⟨a0, a1, a2, a3, a4, a5, a6, a7, a8, a9, a10, a11, rfl⟩ := b12 hl
  exact ⟨rfl, rfl⟩
theorem qt_9 {ss : List Str} (h : Bw ss) {w : Str} (hq : qtB ss = true) : qtB (ss.set 9 w) = true := by
  obtain ⟨a0, a1, a2, a3, a4, a5, a6, a7, a8, a9, a10, a11, rfl⟩ := b12 h.len
  have h6 := w2_of (h.at_ 6 a6 rfl) rfl
  have h8 := w3_of (h.at_ 8 a8 rfl) rfl
  revert hq
  simp only [List.set_cons_succ, List.set_cons_zero]
  unfold qtB aloneN
  rw [show mnB [a0, a1, a2, a3, a4, a5, a6, a7, a8, w, a10, a11] = mnB [a0, a1, a2, a3, a4, a5, a6, a7, a8, a9, a10, a11] from rfl, show amB [a0, a1, a2, a3, a4, a5, a6, a7, a8, w, a10, a11] = amB [a0, a1, a2, a3, a4, a5, a6, a7, a8, a9, a10, a11] from rfl,
    show rdB [a0, a1, a2, a3, a4, a5, a6, a7, a8, w, a10, a11] = rdB [a0, a1, a2, a3, a4, a5, a6, a7, a8, a9, a10, a11] from rfl, show stB [a0, a1, a2, a3, a4, a5, a6, a7, a8, w, a10, a11] = stB [a0, a1, a2, a3, a4, a5, a6, a7, a8, a9, a10, a11] from rfl]
  generalize mnB [a0, a1, a2, a3, a4, a5, a6, a7, a8, a9, a10, a11] = b1
  generalize amB [a0, a1, a2, a3, a4, a5, a6, a7, a8, a9, a10, a11] = b2
  generalize rdB [a0, a1, a2, a3, a4, a5, a6, a7, a8, a9, a10, a11] = b3
  generalize stB [a0, a1, a2, a3, a4, a5, a6, a7, a8, a9, a10, a11] = b4
  simp only [lmB]
  rcases h6 with rfl | rfl
  · rw [show (Str.ofString "none" == Str.ofString "sure") = false by decide]
    simp only [Bool.false_and]
    exact id
  · rw [show (Str.ofString "sure" == Str.ofString "none") = false by decide, Bool.false_or]
    rcases h8 with rfl | rfl | rfl
    · rw [show (Str.ofString "ahead" == Str.ofString "behind") = false by decide, Bool.and_false, Bool.and_false]
      intro h; cases h
    · rw [show (Str.ofString "behind" == Str.ofString "ahead") = false by decide]
      simp only [Bool.false_and]
      exact id
    · rw [show (Str.ofString "unless" == Str.ofString "behind") = false by decide, Bool.and_false, Bool.and_false]
      intro h; cases h
end Lw
set_option Elab.async false
set_option linter.all false
set_option maxRecDepth 100000
set_option maxHeartbeats 1000000
namespace Lw
open PySem PySem.Spec PyProof.Rows L2 Lt Vl
local macro_rules | `(tactic| walk_at "v") => `(tactic| try simp only [vSq, vSet, vSetO, vRet, vRetN, vDrop, vAsg, vPar, vPar3, vParLO, vNx, vIfS, vVar, vC, vTy, vOp, vCons, vN, vB, vNot, vTup, vLst, vCall, vMo, vExt, vOrT, vAndT, vIf, vAnd, vOr, vNotV, vNeg, vSl, vNoP, vP, vTru, vSeq, vR1, vR2, vR3, vFor, vYes, vF, vFK, goF, vEnumA, vZip, vRev, vJoined, vJs, vFmt, vNo, vIsi, vDict, vPairs, vFrz, vAug, vSub, vCh, vMs, vIdxL, vTry, vSetX, vRaise, vIsX, vLstX, vKd, vTIx, bang_d, bang_fr, bang_ow, bang_tok, bang_b,
  dat2, dat, pl, stab, someD, someP, optV, optB, optL, asB, setV, retV, owAt, allS, allD, allA, argS, argD, seqD, tupD, toX, vEnd, VEnv.put, wipeV, hN, hT, hsC, hsN, perm, isFlat, flatD, isNone_n, isNone_i, isNone_s, isNone_b, isNone_t, isNone_l, truD, vIs_n, vIsNot_n, vTup_t, vTup_l, vList_t, vList_l, vLen_t, vLen_l, vInt_i, vInt_b, vAbs_i, vMin_ii, vMax_ii, vMax3_i, vSl_t, vSl_l,
  Int.reduceEq, Int.reduceLT, Int.reduceLE, Int.reduceAdd, Int.reduceSub, Int.reduceToNat, Nat.reduceAdd, Nat.reduceSub, Nat.reduceLT, Nat.reduceLeDiff, Option.bind_some, Option.map_some, Option.isSome_some, List.getElem?_cons_zero, List.getElem?_cons_succ, List.getElem?_nil, List.set_cons_zero, List.set_cons_succ, List.map_cons, List.map_nil, List.length_cons, List.length_nil, List.replicate_succ, List.replicate_zero, List.append_nil, List.nil_append, List.cons_append, List.getD_cons_zero, List.getD_cons_succ, List.all_cons, List.all_nil, List.isEmpty_nil, List.isEmpty_cons, decide_true, decide_false, Bool.not_true, Bool.not_false, Bool.and_true, Bool.true_and, Bool.or_false, Bool.false_or,
  sizeLine_eq, ↓reduceIte, vAdd_ll', vAdd_tt', app', vIx_t', vIx_l', atI_0, atI_1, atI_2, atI_3, atI_4, atI_5, atI_6, atI_7, atI_8, atI_9, atI_10, atI_11, atI_12, atI_13, atI_14, atI_15, atI_16, atI_17, atI_18, atI_19, cutL_0, cutR_0, cutL_1, cutR_1, cutL_2, cutR_2, cutL_3, cutR_3, cutL_4, cutR_4, cutL_5, cutR_5, cutL_6, cutR_6, cutL_7, cutR_7, cutL_8, cutR_8, cutL_9, cutR_9, cutL_10, cutR_10, cutL_11, cutR_11, cutL_12, cutR_12, cutL_13, cutR_13, cutM_6_7, cutM_8_11, cutM_0_2, List.take_succ_cons, List.take_zero, List.drop_succ_cons, List.drop_zero, inV_cons, inV_nil, eqV_ss, eqV_ii, eqV_ni, eqV_in,
  vAdd_ii, vSub_ii, vLt_ii, vLe_ii, vGt_ii, vGe_ii, eqD_ii, eqD_ss, eqD_bb, vEq, vNe, vIn, vNotIn, inD, dV, allDV, true_and, and_true, vInY_s, vInY_it, vInY_il, vInY_n, vNotInY_s, vNotInY_it, vNotInY_il, vNotInY_n, vInY_st1, vInY_st2, vNotInY_st1, vNotInY_st2, isNone_nD])
local macro_rules | `(tactic| walk_at "pt") => `(tactic| repeat' (first | apply Vl.PT.or | apply Vl.PT.and | apply Vl.PT.not | apply Vl.PB.or | apply Vl.PB.and | apply Vl.PB.not | (apply Vl.PT.ofB; first | apply Vl.PB.or | apply Vl.PB.and | apply Vl.PB.not | (intro Q; walk_at "v"; first | done | rfl)) | (intro Q; walk_at "v"; first | done | rfl)))
/-! safe books -/
/-! what situations there are, and what they mark -/
def mkI (s : Str) : Int := if s = "perhaps" then 1 else if s = "sure" then 2 else 0
abbrev mks : List Str := ["none", "perhaps", "sure"]
theorem mk_at {s : Str} (h : s ∈ mks) : dv_MARKS.lookup s = some (.int (mkI s)) := by
  simp only [List.mem_cons, List.not_mem_nil, or_false] at h
  rcases h with rfl | rfl | rfl <;> rfl
def sits : List Str → List (Str × Int)
  | [a0, a1, _, _, _, _, a6, _, _, _, _, _] => [("written", mkI a0), ("further", mkI a1), ("both", mx (mkI a0) (mkI a1)), ("changed", mx (mkI a1) (mkI a6)), ("every", mx (mx (mkI a0) (mkI a1)) (mkI a6))]
  | _ => []
abbrev sitD (p : Str × Int) : PyData := .tuple [.str p.1, .int p.2]
theorem w_0 {s : Str} (h : WAt 0 s) : s ∈ mks := by obtain ⟨ws, h1, h2⟩ := h; cases h1; exact h2
theorem w_1 {s : Str} (h : WAt 1 s) : s ∈ mks := by obtain ⟨ws, h1, h2⟩ := h; cases h1; exact h2
theorem w_6 {s : Str} (h : WAt 6 s) : s ∈ mks := by
  obtain ⟨ws, h1, h2⟩ := h; cases h1
  simp only [List.mem_cons, List.not_mem_nil, or_false] at h2 ⊢
  rcases h2 with rfl | rfl <;> simp
def cSit : VCon := fun us n Q => ∃ ss : List Str, us = [.d (bP ss)] ∧ Bw ss ∧ Q (.d (.tuple ((sits ss).map sitD))) n
theorem vp_sits (us : List VV) (n : Nat) (Q : VV → Nat → Prop) (h : cSit us n Q) : v_marks_of_situations ⟨us.map toX ++ List.replicate (4 - us.length) none, n⟩ (vEnd Q) := by
  obtain ⟨ss, rfl, hw, hQ⟩ := h
  obtain ⟨a0, a1, a2, a3, a4, a5, a6, a7, a8, a9, a10, a11, rfl⟩ := b12 hw.len
  have h0 := mk_at (w_0 (hw.at_ 0 a0 rfl))
  have h1 := mk_at (w_1 (hw.at_ 1 a1 rfl))
  have h6 := mk_at (w_6 (hw.at_ 6 a6 rfl))
  unfold v_marks_of_situations
  generalize dv_MARKS = dv at h0 h1 h6 ⊢
  walk_at "v"
  simp only [h0, h1, h6]
  walk_at "v"
  exact hQ
def wkB (m : Int) : List Str → Bool
  | [_, _, _, a3, a4, a5, _, _, _, _, _, _] => (if m = 1 then a3 else a4) == "work" || (decide (m = 2) && ((if m = 1 then a3 else a4) == "check" && a5 == "mark"))
  | _ => false
def cWk : VCon := fun us n Q => ∃ (ss : List Str) (m : Int), us = [.d (bP ss), .d (.int m)] ∧ ss.length = 12 ∧ Q (.d (.bool (wkB m ss))) n
theorem vp_works_at (us : List VV) (n : Nat) (Q : VV → Nat → Prop) (h : cWk us n Q) : v_works_at ⟨us.map toX ++ List.replicate (3 - us.length) none, n⟩ (vEnd Q) := by
  obtain ⟨ss, m, rfl, hl, hQ⟩ := h
  obtain ⟨a0, a1, a2, a3, a4, a5, a6, a7, a8, a9, a10, a11, rfl⟩ := b12 hl
  unfold v_works_at
  unfold wkB at hQ
  by_cases h1 : m = 1
  · subst h1
    walk_at "v"
    simp only [if_true, show decide ((1 : Int) = 2) = false by decide, Bool.false_and, Bool.or_false] at hQ
    revert hQ
    cases a3 == Str.ofString "work" <;> exact id
  · simp only [if_neg h1] at hQ
    walk_at "v"
    simp only [decide_eq_false h1]
    walk_at "v"
    revert hQ
    cases a4 == Str.ofString "work"
    · cases decide (m = 2)
      · exact id
      · cases a4 == Str.ofString "check"
        · exact id
        · walk_at "v"
          exact id
    · exact id
def hsL (ss : List Str) : List Str := ((sits ss).filter fun p => wkB p.2 ss).map (·.1)
theorem sits_len {ss : List Str} (h : ss.length = 12) : (sits ss).length = 5 := by
  obtain ⟨a0, a1, a2, a3, a4, a5, a6, a7, a8, a9, a10, a11, rfl⟩ := b12 h
  rfl
abbrev sitN : List Str := ["written", "further", "both", "changed", "every"]
theorem sits_n {ss : List Str} : ∀ p ∈ sits ss, p.1 ∈ sitN := by
  intro p hp
  unfold sits at hp
  split at hp
  · simp only [List.mem_cons, List.not_mem_nil, or_false] at hp
    rcases hp with rfl | rfl | rfl | rfl | rfl <;> simp
  · cases hp
theorem hs_n {ss : List Str} : ∀ s ∈ hsL ss, s ∈ sitN := by
  intro s hs
  obtain ⟨p, hp, rfl⟩ := List.mem_map.mp hs
  exact sits_n p (List.mem_filter.mp hp).1
theorem hs_len {ss : List Str} (h : ss.length = 12) : (hsL ss).length ≤ 5 := by
  unfold hsL
  rw [List.length_map]
  exact Nat.le_trans (List.length_filter_le _ _) (Nat.le_of_eq (sits_len h))
def hsV (ss : List Str) : VV := if qtB ss = true then .d (.tuple ((hsL ss).map .str)) else bngV
def cHasty : VCon := fun us n Q => ∃ ss : List Str, us = [.d (bP ss)] ∧ Bw ss ∧ Q (hsV ss) n
theorem vp_hasty (us : List VV) (n : Nat) (Q : VV → Nat → Prop) (h : cHasty us n Q) : v_hasty (cBw qtB) cSit cWk ⟨us.map toX ++ List.replicate (3 - us.length) none, n⟩ (vEnd Q) := by
  obtain ⟨ss, rfl, hw, hQ⟩ := h
  unfold v_hasty
  unfold hsV at hQ
  walk_at "v"
  refine ⟨ss, rfl, hw, ?_⟩
  cases hq : qtB ss
  · rw [hq, if_neg (by decide)] at hQ
    walk_at "v"
    exact hQ
  rw [hq, if_pos rfl] at hQ
  walk_at "v"
  unfold vLc
  walk_at "v"
  refine ⟨ss, rfl, hw, ?_⟩
  walk_at "v"
  refine ⟨rfl, ?_⟩
  refine vlc_inv (ps := (sits ss).map sitD) (by rw [List.length_map, sits_len hw.len]; decide) (fun i m acc => m = n ∧ acc = ((((sits ss).take i).filter fun p => wkB p.2 ss).map (·.1)).map PyData.str) ?_ ?_ ⟨rfl, rfl⟩
  · rintro i m acc p hp ⟨rfl, rfl⟩
    rw [List.getElem?_map] at hp
    obtain ⟨x, hx, rfl⟩ := Option.map_eq_some_iff.mp hp
    refine ⟨_, rfl, fun Qt Qe hq hf ht => ?_⟩
    have step : (sits ss).take (i + 1) = (sits ss).take i ++ [x] := by rw [List.take_add_one, hx]; rfl
    walk_at "v"
    refine ⟨ss, x.2, rfl, hw.len, ?_⟩
    cases hb : wkB x.2 ss
    · walk_at "v"
      refine hf _ rfl ⟨rfl, ?_⟩
      rw [step, List.filter_append, List.filter_cons_of_neg (by rw [hb]; decide), List.filter_nil, List.append_nil]
    · walk_at "v"
      refine ht _ rfl ?_
      walk_at "v"
      refine hq _ _ _ rfl rfl ⟨rfl, ?_⟩
      rw [step, List.filter_append, List.filter_cons_of_pos (by rw [hb]), List.filter_nil, List.map_append, List.map_append]
      rfl
  · rintro m acc ⟨rfl, rfl⟩
    walk_at "v"
    rw [List.length_map, List.take_of_length_le (Nat.le_refl _)]
    exact hQ
end Lw
set_option Elab.async false
set_option linter.all false
set_option maxRecDepth 100000
set_option maxHeartbeats 1000000
namespace Lw
open PySem PySem.Spec PyProof.Rows L2 Lt Vl
local macro_rules | `(tactic| walk_at "v") => `(tactic| try simp only [vSq, vSet, vSetO, vRet, vRetN, vDrop, vAsg, vPar, vPar3, vParLO, vNx, vIfS, vVar, vC, vTy, vOp, vCons, vN, vB, vNot, vTup, vLst, vCall, vMo, vExt, vOrT, vAndT, vIf, vAnd, vOr, vNotV, vNeg, vSl, vNoP, vP, vTru, vSeq, vR1, vR2, vR3, vFor, vYes, vF, vFK, goF, vEnumA, vZip, vRev, vJoined, vJs, vFmt, vNo, vIsi, vDict, vPairs, vFrz, vAug, vSub, vCh, vMs, vIdxL, vTry, vSetX, vRaise, vIsX, vLstX, vKd, vTIx, bang_d, bang_fr, bang_ow, bang_tok, bang_b,
  dat2, dat, pl, stab, someD, someP, optV, optB, optL, asB, setV, retV, owAt, allS, allD, allA, argS, argD, seqD, tupD, toX, vEnd, VEnv.put, wipeV, hN, hT, hsC, hsN, perm, isFlat, flatD, isNone_n, isNone_i, isNone_s, isNone_b, isNone_t, isNone_l, truD, vIs_n, vIsNot_n, vTup_t, vTup_l, vList_t, vList_l, vLen_t, vLen_l, vInt_i, vInt_b, vAbs_i, vMin_ii, vMax_ii, vMax3_i, vSl_t, vSl_l,
  Int.reduceEq, Int.reduceLT, Int.reduceLE, Int.reduceAdd, Int.reduceSub, Int.reduceToNat, Nat.reduceAdd, Nat.reduceSub, Nat.reduceLT, Nat.reduceLeDiff, Option.bind_some, Option.map_some, Option.isSome_some, List.getElem?_cons_zero, List.getElem?_cons_succ, List.getElem?_nil, List.set_cons_zero, List.set_cons_succ, List.map_cons, List.map_nil, List.length_cons, List.length_nil, List.replicate_succ, List.replicate_zero, List.append_nil, List.nil_append, List.cons_append, List.getD_cons_zero, List.getD_cons_succ, List.all_cons, List.all_nil, List.isEmpty_nil, List.isEmpty_cons, decide_true, decide_false, Bool.not_true, Bool.not_false, Bool.and_true, Bool.true_and, Bool.or_false, Bool.false_or,
  sizeLine_eq, ↓reduceIte, vAdd_ll', vAdd_tt', app', vIx_t', vIx_l', atI_0, atI_1, atI_2, atI_3, atI_4, atI_5, atI_6, atI_7, atI_8, atI_9, atI_10, atI_11, atI_12, atI_13, atI_14, atI_15, atI_16, atI_17, atI_18, atI_19, cutL_0, cutR_0, cutL_1, cutR_1, cutL_2, cutR_2, cutL_3, cutR_3, cutL_4, cutR_4, cutL_5, cutR_5, cutL_6, cutR_6, cutL_7, cutR_7, cutL_8, cutR_8, cutL_9, cutR_9, cutL_10, cutR_10, cutL_11, cutR_11, cutL_12, cutR_12, cutL_13, cutR_13, cutM_6_7, cutM_8_11, cutM_0_2, List.take_succ_cons, List.take_zero, List.drop_succ_cons, List.drop_zero, inV_cons, inV_nil, eqV_ss, eqV_ii, eqV_ni, eqV_in,
  vAdd_ii, vSub_ii, vLt_ii, vLe_ii, vGt_ii, vGe_ii, eqD_ii, eqD_ss, eqD_bb, vEq, vNe, vIn, vNotIn, inD, dV, allDV, true_and, and_true, vInY_s, vInY_it, vInY_il, vInY_n, vNotInY_s, vNotInY_it, vNotInY_il, vNotInY_n, vInY_st1, vInY_st2, vNotInY_st1, vNotInY_st2, isNone_nD])
local macro_rules | `(tactic| walk_at "pt") => `(tactic| repeat' (first | apply Vl.PT.or | apply Vl.PT.and | apply Vl.PT.not | apply Vl.PB.or | apply Vl.PB.and | apply Vl.PB.not | (apply Vl.PT.ofB; first | apply Vl.PB.or | apply Vl.PB.and | apply Vl.PB.not | (intro Q; walk_at "v"; first | done | rfl)) | (intro Q; walk_at "v"; first | done | rfl)))
/-! safe books -/
/-! one more, never more -/
theorem allDV_map : ∀ ws : List Str, allDV (ws.map .str) = some (ws.map L2.V.str)
  | [] => rfl
  | w :: ws => by
    show (match dV (PyData.str w), allDV (ws.map .str) with | some v, some vs => some (v :: vs) | _, _ => none) = _
    rw [allDV_map ws]
    rfl
theorem inV_str (s : Str) : ∀ ws : List Str, inV (.str s) (ws.map L2.V.str) = ws.any (· == s)
  | [] => rfl
  | w :: ws => by
    rw [List.map_cons, inV_cons, List.any_cons, inV_str s ws, eqV_ss]
theorem drop_at {α : Type} {xs : List α} {i : Nat} {x : α} (h : xs[i]? = some x) : xs.drop i = x :: xs.drop (i + 1) := by
  obtain ⟨h1, h2⟩ := List.getElem?_eq_some_iff.mp h
  rw [List.drop_eq_getElem_cons h1, h2]
def moreL (a b : List Str) : Option Str := a.find? fun s => !(b.any (· == s))
def moreD (a b : List Str) : PyData := match moreL a b with
  | some s => .str s
  | none => .none
def moV (a b : List Str) : VV := if qtB a = true then (if qtB b = true then .d (moreD (hsL a) (hsL b)) else bngV) else bngV
def cMore : VCon := fun us n Q => ∃ a b : List Str, us = [.d (bP a), .d (bP b)] ∧ Bw a ∧ Bw b ∧ Q (moV a b) n
theorem vp_more (us : List VV) (n : Nat) (Q : VV → Nat → Prop) (h : cMore us n Q) : v_more_situation cHasty ⟨us.map toX ++ List.replicate (5 - us.length) none, n⟩ (vEnd Q) := by
  obtain ⟨a, b, rfl, ha, hb, hQ⟩ := h
  unfold v_more_situation
  unfold moV at hQ
  refine sq_mid (fun e' => qtB a = true ∧ e' = ⟨[some (.d (bP a)), some (.d (bP b)), some (.d (.tuple ((hsL a).map .str))), none, none], n⟩) (fun N hN => ?_) ?_
  · walk_at "v"
    refine ⟨a, rfl, ha, ?_⟩
    unfold hsV
    cases hq : qtB a
    · rw [hq, if_neg (by decide)] at hQ
      walk_at "v"
      exact hQ
    · rw [if_pos rfl]
      walk_at "v"
      exact hN _ ⟨hq, rfl⟩
  rintro e' ⟨hqa, rfl⟩
  rw [hqa, if_pos rfl] at hQ
  refine sq_mid (fun e' => qtB b = true ∧ e' = ⟨[some (.d (bP a)), some (.d (bP b)), some (.d (.tuple ((hsL a).map .str))), some (.d (.tuple ((hsL b).map .str))), none], n⟩) (fun N hN => ?_) ?_
  · walk_at "v"
    refine ⟨b, rfl, hb, ?_⟩
    unfold hsV
    cases hq : qtB b
    · rw [hq, if_neg (by decide)] at hQ
      walk_at "v"
      exact hQ
    · rw [if_pos rfl]
      walk_at "v"
      exact hN _ ⟨hq, rfl⟩
  rintro e' ⟨hqb, rfl⟩
  rw [hqb, if_pos rfl] at hQ
  generalize hsL a = A at *
  generalize hsL b = B at *
  unfold moreD at hQ
  refine sq_mid (fun e' => moreL A B = none ∧ e'.n = n) (fun N hN => ?_) ?_
  · walk_at "v"
    refine vfor_inv (ps := A.map PyData.str) (fun i e => (∃ e4, e = ⟨[some (.d (bP a)), some (.d (bP b)), some (.d (.tuple (A.map .str))), some (.d (.tuple (B.map .str))), e4], n⟩) ∧ moreL A B = moreL (A.drop i) B) ?_ ?_ ⟨⟨_, rfl⟩, rfl⟩
    · rintro i e p hp ⟨⟨e4, rfl⟩, hf⟩
      rw [List.getElem?_map] at hp
      obtain ⟨x, hx, rfl⟩ := Option.map_eq_some_iff.mp hp
      refine ⟨_, rfl, fun D' hnx _ hrt _ => ?_⟩
      rw [drop_at hx] at hf
      unfold moreL at hf
      rw [List.find?_cons] at hf
      refine if_go (b := !(B.any (· == x))) ?_ (fun ht => ?_) (fun ht => ?_)
      · intro Q
        walk_at "v"
        simp only [allDV_map, inV_str, Option.map_some]
      · rw [ht] at hf
        unfold moreL at hQ
        rw [hf] at hQ
        walk_at "v"
        rw [hrt]
        exact hQ
      · rw [ht] at hf
        walk_at "v"
        exact hnx _ ⟨⟨_, rfl⟩, hf⟩
    · rintro e ⟨⟨e4, rfl⟩, hf⟩
      refine hN _ ⟨?_, rfl⟩
      rw [hf, List.length_map, List.drop_eq_nil_of_le (Nat.le_refl _)]
      rfl
  rintro ⟨e', n'⟩ ⟨he, rfl⟩
  rw [he] at hQ
  walk_at "v"
  exact hQ
def nevB (a b : List Str) : Bool := (moreL a b).isNone
def nevV (a b : List Str) : VV := if qtB a = true then (if qtB b = true then .d (.bool (nevB (hsL a) (hsL b))) else bngV) else bngV
def cNever : VCon := fun us n Q => ∃ a b : List Str, us = [.d (bP a), .d (bP b)] ∧ Bw a ∧ Bw b ∧ Q (nevV a b) n
theorem nev_is {a b : List Str} : isNoneD (moreD a b) = nevB a b := by
  unfold moreD nevB
  cases moreL a b <;> rfl
theorem vp_never (us : List VV) (n : Nat) (Q : VV → Nat → Prop) (h : cNever us n Q) : v_never_more cMore ⟨us.map toX ++ List.replicate (2 - us.length) none, n⟩ (vEnd Q) := by
  obtain ⟨a, b, rfl, ha, hb, hQ⟩ := h
  unfold v_never_more
  walk_at "v"
  refine ⟨a, b, rfl, ha, hb, ?_⟩
  unfold moV
  unfold nevV at hQ
  cases hqa : qtB a
  · rw [hqa, if_neg (by decide)] at hQ
    walk_at "v"
    exact hQ
  rw [hqa, if_pos rfl] at hQ
  rw [if_pos rfl]
  cases hqb : qtB b
  · rw [hqb, if_neg (by decide)] at hQ
    walk_at "v"
    exact hQ
  rw [hqb, if_pos rfl] at hQ
  rw [if_pos rfl]
  walk_at "v"
  rw [nev_is]
  exact hQ
/-! the law's own -/
def cMark : VCon := fun us n Q => ∃ s : Str, us = [.d (.str s)] ∧ s ∈ mks ∧ Q (.d (.int (mkI s))) n
theorem vp_mark (us : List VV) (n : Nat) (Q : VV → Nat → Prop) (h : cMark us n Q) : v_law_mark ⟨us.map toX ++ List.replicate (1 - us.length) none, n⟩ (vEnd Q) := by
  obtain ⟨s, rfl, hs, hQ⟩ := h
  unfold v_law_mark
  simp only [List.mem_cons, List.not_mem_nil, or_false] at hs
  rcases hs with rfl | rfl | rfl
  all_goals
    walk_at "v"
    exact hQ
end Lw
set_option Elab.async false
set_option linter.all false
set_option maxRecDepth 100000
set_option maxHeartbeats 1000000
namespace Lw
open PySem PySem.Spec PyProof.Rows L2 Lt Vl
open TL (tl)
local macro_rules | `(tactic| walk_at "v") => `(tactic| try simp only [vSq, vSet, vSetO, vRet, vRetN, vDrop, vAsg, vPar, vPar3, vParLO, vNx, vIfS, vVar, vC, vTy, vOp, vCons, vN, vB, vNot, vTup, vLst, vCall, vMo, vExt, vOrT, vAndT, vIf, vAnd, vOr, vNotV, vNeg, vSl, vNoP, vP, vTru, vSeq, vR1, vR2, vR3, vFor, vYes, vF, vFK, goF, vEnumA, vZip, vRev, vJoined, vJs, vFmt, vNo, vIsi, vDict, vPairs, vFrz, vAug, vSub, vCh, vMs, vIdxL, vTry, vSetX, vRaise, vIsX, vLstX, vKd, vTIx, bang_d, bang_fr, bang_ow, bang_tok, bang_b,
  dat2, dat, pl, stab, someD, someP, optV, optB, optL, asB, setV, retV, owAt, allS, allD, allA, argS, argD, seqD, tupD, toX, vEnd, VEnv.put, wipeV, hN, hT, hsC, hsN, perm, isFlat, flatD, isNone_n, isNone_i, isNone_s, isNone_b, isNone_t, isNone_l, truD, vIs_n, vIsNot_n, vTup_t, vTup_l, vList_t, vList_l, vLen_t, vLen_l, vInt_i, vInt_b, vAbs_i, vMin_ii, vMax_ii, vMax3_i, vSl_t, vSl_l,
  Int.reduceEq, Int.reduceLT, Int.reduceLE, Int.reduceAdd, Int.reduceSub, Int.reduceToNat, Nat.reduceAdd, Nat.reduceSub, Nat.reduceLT, Nat.reduceLeDiff, Option.bind_some, Option.map_some, Option.isSome_some, List.getElem?_cons_zero, List.getElem?_cons_succ, List.getElem?_nil, List.set_cons_zero, List.set_cons_succ, List.map_cons, List.map_nil, List.length_cons, List.length_nil, List.replicate_succ, List.replicate_zero, List.append_nil, List.nil_append, List.cons_append, List.getD_cons_zero, List.getD_cons_succ, List.all_cons, List.all_nil, List.isEmpty_nil, List.isEmpty_cons, decide_true, decide_false, Bool.not_true, Bool.not_false, Bool.and_true, Bool.true_and, Bool.or_false, Bool.false_or,
  sizeLine_eq, ↓reduceIte, vAdd_ll', vAdd_tt', app', vIx_t', vIx_l', atI_0, atI_1, atI_2, atI_3, atI_4, atI_5, atI_6, atI_7, atI_8, atI_9, atI_10, atI_11, atI_12, atI_13, atI_14, atI_15, atI_16, atI_17, atI_18, atI_19, cutL_0, cutR_0, cutL_1, cutR_1, cutL_2, cutR_2, cutL_3, cutR_3, cutL_4, cutR_4, cutL_5, cutR_5, cutL_6, cutR_6, cutL_7, cutR_7, cutL_8, cutR_8, cutL_9, cutR_9, cutL_10, cutR_10, cutL_11, cutR_11, cutL_12, cutR_12, cutL_13, cutR_13, cutM_6_7, cutM_8_11, cutM_0_2, List.take_succ_cons, List.take_zero, List.drop_succ_cons, List.drop_zero, inV_cons, inV_nil, eqV_ss, eqV_ii, eqV_ni, eqV_in,
  vAdd_ii, vSub_ii, vLt_ii, vLe_ii, vGt_ii, vGe_ii, eqD_ii, eqD_ss, eqD_bb, vEq, vNe, vIn, vNotIn, inD, dV, allDV, true_and, and_true, vInY_s, vInY_it, vInY_il, vInY_n, vNotInY_s, vNotInY_it, vNotInY_il, vNotInY_n, vInY_st1, vInY_st2, vNotInY_st1, vNotInY_st2, isNone_nD])
local macro_rules | `(tactic| walk_at "pt") => `(tactic| repeat' (first | apply Vl.PT.or | apply Vl.PT.and | apply Vl.PT.not | apply Vl.PB.or | apply Vl.PB.and | apply Vl.PB.not | (apply Vl.PT.ofB; first | apply Vl.PB.or | apply Vl.PB.and | apply Vl.PB.not | (intro Q; walk_at "v"; first | done | rfl)) | (intro Q; walk_at "v"; first | done | rfl)))
/-! safe books -/
/-! data that may be shown -/
structure Sh (k L : Nat) (d : PyData) : Prop where
  sh : d.showable = true
  dp : d.depth ≤ k
  ln : d.shown.length ≤ L
theorem Sh.mono {k L k' L' : Nat} {d : PyData} (h : Sh k L d) (h1 : k ≤ k') (h2 : L ≤ L') : Sh k' L' d := ⟨h.sh, Nat.le_trans h.dp h1, Nat.le_trans h.ln h2⟩
theorem Sh.ok {k L : Nat} {d : PyData} (h : Sh k L d) (h1 : k ≤ 60) (h2 : L ≤ 16777216) : ReprOk d := ⟨h.sh, Nat.le_trans h.dp h1, Nat.le_trans h.ln h2⟩
theorem sh_of {k L : Nat} {d : PyData} (h : Okd k L d) : Sh k L d := ⟨h.sh, h.dp, h.ln⟩
theorem sh_all {k L : Nat} : ∀ {ds : List PyData}, (∀ d ∈ ds, Sh k L d) → PyData.showableAll ds = true ∧ PyData.depthAll ds ≤ k
  | [], _ => by simp [PyData.showableAll, PyData.depthAll]
  | d :: r, h => by
    have h1 := h d (by simp)
    obtain ⟨b, c⟩ := sh_all (ds := r) fun x hx => h x (List.mem_cons_of_mem _ hx)
    refine ⟨by simp [PyData.showableAll, h1.sh, b], ?_⟩
    simp only [PyData.depthAll]
    exact Nat.max_le.mpr ⟨h1.dp, c⟩
theorem Sh.tup {k L : Nat} {ds : List PyData} (h : ∀ d ∈ ds, Sh k L d) : Sh (k + 1) (ds.length * (L + 2) + 3) (.tuple ds) := by
  obtain ⟨b, c⟩ := sh_all h
  refine ⟨by simp [PyData.showable, b], by simp only [PyData.depth]; omega, ?_⟩
  have := tupleText_bd (mem_shownAll fun d hd => (h d hd).ln)
  rw [shownAll_len] at this
  simpa only [PyData.shown] using this
theorem Sh.lst {k L : Nat} {ds : List PyData} (h : ∀ d ∈ ds, Sh k L d) : Sh (k + 1) (ds.length * (L + 2) + 3) (.list ds) := by
  obtain ⟨b, c⟩ := sh_all h
  refine ⟨by simp [PyData.showable, b], by simp only [PyData.depth]; omega, ?_⟩
  have := listText_bd (mem_shownAll fun d hd => (h d hd).ln)
  rw [shownAll_len] at this
  simpa only [PyData.shown] using this
theorem sh_str {x : Str} (h : Asc x) (hl : x.length ≤ 30) : Sh 0 302 (.str x) := (sh_of (okd_str h hl)).mono (by omega) (by omega)
theorem sh_word {s : Str} (h : s ∈ allWords) : Sh 0 302 (.str s) := (sh_of (okd_word h)).mono (by omega) (by omega)
/-! texts, so many -/
def Wl (k : Nat) (X : List PyData) : Prop := (∀ d ∈ X, Sh 0 302 d) ∧ X.length ≤ k
theorem Wl.app {a b : Nat} {X Y : List PyData} (h : Wl a X) (g : Wl b Y) : Wl (a + b) (X ++ Y) := ⟨fun d hd => (List.mem_append.mp hd).elim (h.1 d) (g.1 d), by have := h.2; have := g.2; simp; omega⟩
theorem Wl.cut {a : Nat} {X : List PyData} {lo hi : Option Int} (h : Wl a X) : Wl a (Vl.cutD X lo hi) := by
  unfold Vl.cutD
  refine ⟨fun d hd => h.1 d ?_, ?_⟩
  · first | exact List.mem_of_mem_drop (List.mem_of_mem_take hd) | exact List.mem_of_mem_take (List.mem_of_mem_drop hd)
  · have := h.2
    simp
    omega
theorem Wl.one {X : List PyData} {x : PyData} {a : Nat} (h : Wl a X) (hx : x ∈ X) : Wl 1 [x] := ⟨fun d hd => by rw [List.mem_singleton] at hd; rw [hd]; exact h.1 x hx, by simp⟩
theorem Wl.tup {a : Nat} {X : List PyData} (h : Wl a X) (ha : a ≤ 40) : Sh 2 200000 (.tuple X) := by
  have := h.2
  exact (Sh.tup h.1).mono (by omega) (by have : X.length * 304 ≤ 40 * 304 := Nat.mul_le_mul_right _ (by omega); omega)
theorem Wl.lst {a : Nat} {X : List PyData} (h : Wl a X) (ha : a ≤ 40) : Sh 2 200000 (.list X) := by
  have := h.2
  exact (Sh.lst h.1).mono (by omega) (by have : X.length * 304 ≤ 40 * 304 := Nat.mul_le_mul_right _ (by omega); omega)
theorem bk_wl {ss : List Str} (hb : Bk ss) : Wl 12 (ss.map PyData.str) := ⟨fun d hd => by
    obtain ⟨s, hs, rfl⟩ := List.mem_map.mp hd
    exact sh_word (hb.wd s hs), by simp [hb.len]⟩
/-! what is rash -/
theorem sits_pos {ss : List Str} (h : Bw ss) (hq : qtB ss = true) : ∀ p ∈ sits ss, p.2 = 1 ∨ p.2 = 2 := by
  have h0 : aloneN ss = 0 := by
    unfold qtB at hq
    exact of_decide_eq_true (by
      have := (Bool.and_eq_true_iff.mp hq).1
      simpa using this)
  have hm := (alone0.mp h0).1
  obtain ⟨a0, a1, a2, a3, a4, a5, a6, a7, a8, a9, a10, a11, rfl⟩ := b12 h.len
  have h0 := w_0 (h.at_ 0 a0 rfl)
  have h1 := w_1 (h.at_ 1 a1 rfl)
  have h6 := w_6 (h.at_ 6 a6 rfl)
  have hm' : (a0 == "none" || a1 == "none") = false := hm
  clear hm hq h
  simp only [List.mem_cons, List.not_mem_nil, or_false] at h0 h1 h6
  show ∀ p ∈ ([("written", mkI a0), ("further", mkI a1), ("both", mx (mkI a0) (mkI a1)), ("changed", mx (mkI a1) (mkI a6)), ("every", mx (mx (mkI a0) (mkI a1)) (mkI a6))] : List (Str × Int)), p.2 = 1 ∨ p.2 = 2
  rcases h0 with rfl | rfl | rfl <;> rcases h1 with rfl | rfl | rfl <;> first | exact absurd hm' (by decide) | (rcases h6 with rfl | rfl | rfl <;> decide)
def cRash : VCon := fun us n Q => ∃ ss : List Str, us = [.d (bP ss)] ∧ Bw ss ∧ qtB ss = true ∧ Q (.d (.tuple ((hsL ss).map .str))) n
theorem vp_rash (us : List VV) (n : Nat) (Q : VV → Nat → Prop) (h : cRash us n Q) : v_law_rash cMark ⟨us.map toX ++ List.replicate (8 - us.length) none, n⟩ (vEnd Q) := by
  obtain ⟨ss, rfl, hw, hq, hQ⟩ := h
  have hpos := sits_pos hw hq
  have hl5 := sits_len hw.len
  unfold v_law_rash
  refine sq_mid (fun e' => ∃ e1 e2 e3, e' = ⟨[some (.d (bP ss)), e1, e2, e3, none, none, none, none], n⟩ ∧ ∃ r f c : Int, e1 = some (.d (.int r)) ∧ e2 = some (.d (.int f)) ∧ e3 = some (.d (.int c)) ∧ sits ss = ([("written", r), ("further", f), ("both", mx r f), ("changed", mx f c), ("every", mx (mx r f) c)] : List (Str × Int))) (fun N hN => ?_) ?_
  · obtain ⟨a0, a1, a2, a3, a4, a5, a6, a7, a8, a9, a10, a11, rfl⟩ := b12 hw.len
    have h0 := w_0 (hw.at_ 0 a0 rfl)
    have h1 := w_1 (hw.at_ 1 a1 rfl)
    have h6 := w_6 (hw.at_ 6 a6 rfl)
    walk_at "v"
    refine ⟨a0, rfl, h0, ?_⟩
    walk_at "v"
    refine ⟨a1, rfl, h1, ?_⟩
    walk_at "v"
    refine ⟨a6, rfl, h6, ?_⟩
    walk_at "v"
    exact hN _ ⟨_, _, _, rfl, _, _, _, rfl, rfl, rfl, rfl⟩
  rintro e' ⟨e1, e2, e3, rfl, r, f, c, rfl, rfl, rfl, hs⟩
  refine sq_mid (fun e' => e' = ⟨[some (.d (bP ss)), some (.d (.int r)), some (.d (.int f)), some (.d (.int c)), some (.d (.list [sitD ("written", r), sitD ("further", f), sitD ("both", mx r f)])), none, none, none], n⟩) (fun N hN => ?_) ?_
  · walk_at "v"
    exact hN _ rfl
  rintro e' rfl
  refine sq_mid (fun e' => e' = ⟨[some (.d (bP ss)), some (.d (.int r)), some (.d (.int f)), some (.d (.int c)), some (.d (.list ((sits ss).map sitD))), none, none, none], n⟩) (fun N hN => ?_) ?_
  · walk_at "v"
    rw [hs] at hN
    exact hN _ rfl
  rintro e' rfl
  clear hs
  refine sq_mid (fun e' => e' = ⟨[some (.d (bP ss)), some (.d (.int r)), some (.d (.int f)), some (.d (.int c)), some (.d (.list ((sits ss).map sitD))), some (.ow []), none, none], n⟩) (fun N hN => ?_) ?_
  · walk_at "v"
    exact hN _ rfl
  rintro e' rfl
  refine sq_mid (fun e' => ∃ e6 e7, e' = ⟨[some (.d (bP ss)), some (.d (.int r)), some (.d (.int f)), some (.d (.int c)), some (.d (.list ((sits ss).map sitD))), some (.ow ((hsL ss).map .str)), e6, e7], n⟩) (fun N hN => ?_) ?_
  · walk_at "v"
    refine vfor_inv (ps := (sits ss).map sitD) (fun i e => ∃ e6 e7, e = ⟨[some (.d (bP ss)), some (.d (.int r)), some (.d (.int f)), some (.d (.int c)), some (.d (.list ((sits ss).map sitD))), some (.ow (((((sits ss).take i).filter fun p => wkB p.2 ss).map (·.1)).map PyData.str)), e6, e7], n⟩) ?_ ?_ ⟨_, _, rfl⟩
    · rintro i e p hp ⟨e6, e7, rfl⟩
      rw [List.getElem?_map] at hp
      obtain ⟨x, hx, rfl⟩ := Option.map_eq_some_iff.mp hp
      have step : (sits ss).take (i + 1) = (sits ss).take i ++ [x] := by rw [List.take_add_one, hx]; rfl
      have hx2 := hpos x (List.mem_of_getElem? hx)
      have hlen : ((((sits ss).take i).filter fun p => wkB p.2 ss).map (·.1)).length ≤ 5 := by
        rw [List.length_map]
        refine Nat.le_trans (List.length_filter_le _ _) ?_
        rw [List.length_take]
        omega
      refine ⟨_, rfl, fun D' hnx _ hrt _ => ?_⟩
      refine if_go (b := wkB x.2 ss) ?_ (fun ht => ?_) (fun ht => ?_)
      · intro Q
        generalize (sits ss).map sitD = rows
        generalize ((((sits ss).take i).filter fun p => wkB p.2 ss).map (·.1)).map PyData.str = own
        clear hpos hx hp hlen step hnx
        obtain ⟨a0, a1, a2, a3, a4, a5, a6, a7, a8, a9, a10, a11, rfl⟩ := b12 hw.len
        obtain ⟨x1, x2⟩ := x
        dsimp only at hx2 ⊢
        unfold wkB
        rcases hx2 with rfl | rfl
        · walk_at "v"
          simp only [if_true, show decide ((1 : Int) = 2) = false by decide, Bool.false_and, Bool.or_false]
          cases a3 == Str.ofString "work" <;> rfl
        · walk_at "v"
          try simp only [show ¬ ((2 : Int) = 1) by decide, if_false, show decide ((2 : Int) = 2) = true by decide, Bool.true_and]
          cases a4 == Str.ofString "work"
          · cases a4 == Str.ofString "check"
            · rfl
            · cases a5 == Str.ofString "mark" <;> rfl
          · rfl
      · refine ?_
        walk_at "v"
        rw [if_pos (by rw [List.length_map]; omega)]
        refine hnx _ ⟨some (.d (.str x.1)), some (.d (.int x.2)), ?_⟩
        rw [step, List.filter_append, List.filter_cons_of_pos (by rw [ht]), List.filter_nil, List.map_append, List.map_append]
        rfl
      · walk_at "v"
        refine hnx _ ⟨some (.d (.str x.1)), some (.d (.int x.2)), ?_⟩
        rw [step, List.filter_append, List.filter_cons_of_neg (by rw [ht]; decide), List.filter_nil, List.append_nil]
    · rintro e ⟨e6, e7, rfl⟩
      refine hN _ ⟨e6, e7, ?_⟩
      rw [List.length_map, List.take_of_length_le (Nat.le_refl _)]
      rfl
  rintro e' ⟨e6, e7, rfl⟩
  walk_at "v"
  exact hQ
/-! heard -/
theorem bw_ok {ss : List Str} (hb : Bw ss) : Sh 2 200000 (bP ss) := (bk_wl hb.bk).tup (by omega)
theorem sitN_sh : ∀ s ∈ sitN, Sh 0 302 (.str s) := by
  have h : ∀ s ∈ sitN, (PyData.str s).showable = true ∧ (PyData.str s).depth ≤ 0 ∧ (PyData.str s).shown.length ≤ 302 := by decide +kernel
  exact fun s hs => ⟨(h s hs).1, (h s hs).2.1, (h s hs).2.2⟩
theorem unf_sh : ReprOk (.list [.str "unfit", .bool true]) := by
  have key : ∀ d ∈ [PyData.list [.str "unfit", .bool true]], d.showable = true ∧ d.depth ≤ 2 ∧ d.shown.length ≤ 302 := by decide +kernel
  obtain ⟨a, b, c⟩ := key _ (List.mem_cons_self ..)
  exact ⟨a, by omega, by omega⟩
theorem is_sh (b : Bool) : ReprOk (.list [.str "is", .bool b]) := by
  have key : ∀ d ∈ [PyData.list [.str "is", .bool true], .list [.str "is", .bool false]], d.showable = true ∧ d.depth ≤ 2 ∧ d.shown.length ≤ 302 := by decide +kernel
  cases b
  · obtain ⟨a, b, c⟩ := key (.list [.str "is", .bool false]) (by simp)
    exact ⟨a, by omega, by omega⟩
  · obtain ⟨a, b, c⟩ := key (.list [.str "is", .bool true]) (by simp)
    exact ⟨a, by omega, by omega⟩
def hdL (ss : List Str) : List PyData := if qtB ss = true then [.str "names", .tuple ((hsL ss).map .str)] else [.str "unfit", .bool true]
theorem hd_ok {ss : List Str} (hl : ss.length = 12) : ReprOk (.list (hdL ss)) := by
  unfold hdL
  split
  · have h1 : Sh 1 2000 (.tuple ((hsL ss).map .str)) := by
      refine (Sh.tup (k := 0) (L := 302) fun d hd => ?_).mono (by omega) ?_
      · obtain ⟨s, hs, rfl⟩ := List.mem_map.mp hd
        exact sitN_sh s (hs_n s hs)
      · have := hs_len hl
        rw [List.length_map]
        omega
    have h2 : Sh 0 302 (.str "names") := by
      have key : ∀ d ∈ [PyData.str "names"], d.showable = true ∧ d.depth ≤ 0 ∧ d.shown.length ≤ 302 := by decide +kernel
      obtain ⟨a, b, c⟩ := key _ (List.mem_cons_self ..)
      exact ⟨a, b, c⟩
    refine (Sh.lst (k := 1) (L := 2000) fun d hd => ?_).ok (by omega) (by simp)
    simp only [List.mem_cons, List.not_mem_nil, or_false] at hd
    rcases hd with rfl | rfl
    · exact h2.mono (by omega) (by omega)
    · exact h1
  · exact unf_sh
def cHeard : VCon := fun us n Q => ∃ (ss : List Str) (b : Bool), us = [.d (bP ss), .d (.bool b)] ∧ Bw ss ∧ Q (.fr (hdL ss)) n
theorem vp_heard (us : List VV) (n : Nat) (Q : VV → Nat → Prop) (h : cHeard us n Q) : v_law_heard cHasty ⟨us.map toX ++ List.replicate (3 - us.length) none, n⟩ (vEnd Q) := by
  obtain ⟨ss, b, rfl, hw, hQ⟩ := h
  unfold v_law_heard
  unfold hdL at hQ
  cases b
  all_goals
    walk_at "v"
    refine ⟨ss, rfl, hw, ?_⟩
    unfold hsV
    cases hq : qtB ss
    · rw [hq, if_neg (by decide)] at hQ
      walk_at "v"
      exact hQ
    · rw [hq, if_pos rfl] at hQ
      rw [if_pos rfl]
      walk_at "v"
      exact hQ
def cpL (a b : List Str) : List PyData := if qtB a = true then (if qtB b = true then [.str "is", .bool (nevB (hsL a) (hsL b))] else [.str "unfit", .bool true]) else [.str "unfit", .bool true]
theorem cp_ok {a b : List Str} : ReprOk (.list (cpL a b)) := by
  unfold cpL
  split
  · split
    · exact is_sh _
    · exact unf_sh
  · exact unf_sh
def cComp : VCon := fun us n Q => ∃ (s t : List Str) (b : Bool), us = [.d (bP s), .d (bP t), .d (.bool b)] ∧ Bw s ∧ Bw t ∧ Q (.fr (cpL s t)) n
theorem vp_compared (us : List VV) (n : Nat) (Q : VV → Nat → Prop) (h : cComp us n Q) : v_law_compared cNever ⟨us.map toX ++ List.replicate (4 - us.length) none, n⟩ (vEnd Q) := by
  obtain ⟨s, t, b, rfl, hs, ht, hQ⟩ := h
  unfold v_law_compared
  unfold cpL at hQ
  cases b
  all_goals
    walk_at "v"
    refine ⟨s, t, rfl, hs, ht, ?_⟩
    unfold nevV
    cases hqs : qtB s
    · rw [hqs, if_neg (by decide)] at hQ
      walk_at "v"
      exact hQ
    rw [hqs, if_pos rfl] at hQ
    rw [if_pos rfl]
    cases hqt : qtB t
    · rw [hqt, if_neg (by decide)] at hQ
      walk_at "v"
      exact hQ
    rw [hqt, if_pos rfl] at hQ
    rw [if_pos rfl]
    walk_at "v"
    exact hQ
def cRight : VCon := fun us n Q => ∃ ss : List Str, us = [.d (bP ss)] ∧ Bw ss ∧ Q (.d (.bool true)) n
theorem vp_is_right (us : List VV) (n : Nat) (Q : VV → Nat → Prop) (h : cRight us n Q) : v_law_is_right (cBw qtB) cRash cHeard ⟨us.map toX ++ List.replicate (2 - us.length) none, n⟩ (vEnd Q) := by
  obtain ⟨ss, rfl, hw, hQ⟩ := h
  have hok := hd_ok hw.len
  have hbk : ReprOk (bP ss) := (bw_ok hw).ok (by omega) (by omega)
  unfold v_law_is_right
  refine sq_mid (fun e' => e' = ⟨[some (.d (bP ss)), some (.d (.str (PyData.list (hdL ss)).shown))], n⟩) (fun N hN => ?_) ?_
  · walk_at "v"
    refine ⟨ss, rfl, hw, ?_⟩
    unfold hdL at hN hok
    cases hq : qtB ss
    · rw [hq, if_neg (by decide)] at hN hok
      walk_at "v"
      rw [vRepr_ok hok]
      walk_at "v"
      exact hN _ rfl
    · rw [hq, if_pos rfl] at hN hok
      walk_at "v"
      refine ⟨ss, rfl, hw, hq, ?_⟩
      walk_at "v"
      rw [vRepr_ok hok]
      walk_at "v"
      exact hN _ rfl
  rintro e' rfl
  have heard : ∀ (b : Bool) (Q : VV → Nat → Prop), Q (.fr (hdL ss)) n → cHeard [.d (bP ss), .d (.bool b)] n Q := fun b Q hq => ⟨ss, b, rfl, hw, hq⟩
  generalize hdL ss = hl at *
  have hbk' : ReprOk (.tuple (ss.map .str)) := hbk
  have heard' : ∀ (b : Bool) (Q : VV → Nat → Prop), Q (.fr hl) n → cHeard [.d (.tuple (ss.map .str)), .d (.bool b)] n Q := heard
  show (vRet _ : VS) ⟨[some (.d (.tuple (ss.map .str))), some (.d (.str (PyData.list hl).shown))], n⟩ _
  clear heard hbk
  generalize ss.map PyData.str = bs at *
  walk_at "v"
  refine heard' _ _ ?_
  walk_at "v"
  rw [vRepr_ok hok]
  walk_at "v"
  rw [beq_self_eq_true]
  dsimp only
  rw [vRepr_ok hbk']
  walk_at "v"
  rw [beq_self_eq_true]
  exact hQ
/-! pairs -/
theorem strOk_sit : ∀ s ∈ sitN, PyData.canLay0 (.str s) = true := by decide +kernel
theorem lay_sit : ∀ {ws : List Str}, (∀ s ∈ ws, s ∈ sitN) → PyData.canLayAll0 (ws.map .str) = true ∧ PyData.depthAll (ws.map .str) ≤ 0
  | [], _ => by simp [PyData.canLayAll0, PyData.depthAll]
  | w :: ws, h => by
    obtain ⟨a, b⟩ := lay_sit (ws := ws) fun s hs => h s (List.mem_cons_of_mem _ hs)
    refine ⟨?_, ?_⟩
    · show (PyData.canLay0 (.str w) && PyData.canLayAll0 (ws.map .str)) = true
      rw [a, Bool.and_true]
      exact strOk_sit w (h w (List.mem_cons_self ..))
    · show max (PyData.depth (.str w)) (PyData.depthAll (ws.map .str)) ≤ 0
      exact Nat.max_le.mpr ⟨by simp [PyData.depth], b⟩
theorem eq_nil {ws : List Str} (h : ∀ s ∈ ws, s ∈ sitN) : eqD (.list (ws.map .str)) (.list []) = some ws.isEmpty := by
  obtain ⟨a, b⟩ := lay_sit h
  have s1 : SeqAt.shaped (.list (ws.map .str)) = true := by
    show (PyData.canLayAll0 (ws.map .str) && decide (PyData.depth (.list (ws.map .str)) ≤ 64)) = true
    rw [a, Bool.true_and, decide_eq_true_eq]
    simp only [PyData.depth]
    omega
  show (if SeqAt.shaped (.list (ws.map .str)) = true ∧ SeqAt.shaped (.list []) = true then some (PyData.eqv (.list (ws.map .str)) (.list [])) else none) = _
  rw [if_pos ⟨s1, rfl⟩]
  cases ws <;> rfl
theorem nev_fil (b : List Str) : ∀ a : List Str, nevB a b = (a.filter fun s => !(b.any (· == s))).isEmpty
  | [] => rfl
  | x :: a => by
    unfold nevB moreL
    rw [List.find?_cons, List.filter_cons]
    cases hx : (!(b.any (· == x)))
    · simp only [Bool.false_eq_true, if_false]
      exact nev_fil b a
    · rfl
def cPair : VCon := fun us n Q => ∃ s t : List Str, us = [.d (bP s), .d (bP t)] ∧ Bw s ∧ Bw t ∧ Q (.d (.bool true)) n
theorem vp_is_pair_right (us : List VV) (n : Nat) (Q : VV → Nat → Prop) (h : cPair us n Q) : v_law_is_pair_right (cBw qtB) cRash cComp ⟨us.map toX ++ List.replicate (5 - us.length) none, n⟩ (vEnd Q) := by
  obtain ⟨s, t, rfl, hs, ht, hQ⟩ := h
  unfold v_law_is_pair_right
  refine sq_mid (fun e' => e' = ⟨[some (.d (bP s)), some (.d (bP t)), some (.d (.str (PyData.list [.str "unfit", .bool true]).shown)), none, none], n⟩) (fun N hN => ?_) ?_
  · have hu := unf_sh
    generalize PyData.str "unfit" = u at *
    walk_at "v"
    rw [vRepr_ok hu]
    walk_at "v"
    exact hN _ rfl
  rintro e' rfl
  refine sq_mid (fun e' => ∃ e3 e4, e' = ⟨[some (.d (bP s)), some (.d (bP t)), some (.d (.str (PyData.list (cpL s t)).shown)), e3, e4], n⟩) (fun N hN => ?_) ?_
  · have hcp := cp_ok (a := s) (b := t)
    have hcpe : cpL s t = if qtB s = true then (if qtB t = true then [.str "is", .bool (nevB (hsL s) (hsL t))] else [.str "unfit", .bool true]) else [.str "unfit", .bool true] := rfl
    generalize cpL s t = cp at *
    walk_at "v"
    refine ⟨s, rfl, hs, ?_⟩
    cases hqs : qtB s
    · rw [hqs, if_neg (by decide)] at hcpe
      rw [← hcpe]
      walk_at "v"
      exact hN _ ⟨_, _, rfl⟩
    rw [hqs, if_pos rfl] at hcpe
    walk_at "v"
    refine ⟨t, rfl, ht, ?_⟩
    cases hqt : qtB t
    · rw [hqt, if_neg (by decide)] at hcpe
      rw [← hcpe]
      walk_at "v"
      exact hN _ ⟨_, _, rfl⟩
    rw [hqt, if_pos rfl] at hcpe
    rw [nev_fil] at hcpe
    walk_at "v"
    refine ⟨t, rfl, ht, hqt, ?_⟩
    walk_at "v"
    unfold vLc
    walk_at "v"
    refine ⟨s, rfl, hs, hqs, ?_⟩
    walk_at "v"
    have hn := hs_n (ss := s)
    have hl5 := hs_len hs.len
    generalize hsL s = A at *
    generalize hsL t = B at *
    refine ⟨rfl, ?_⟩
    refine vlc_inv (ps := A.map PyData.str) (by rw [List.length_map]; omega) (fun i m acc => m = n ∧ acc = ((A.take i).filter fun x => !(B.any (· == x))).map PyData.str) ?_ ?_ ⟨rfl, rfl⟩
    · rintro i m acc p hp ⟨rfl, rfl⟩
      rw [List.getElem?_map] at hp
      obtain ⟨x, hx, rfl⟩ := Option.map_eq_some_iff.mp hp
      refine ⟨_, rfl, fun Qt Qe hq hf ht => ?_⟩
      have step : A.take (i + 1) = A.take i ++ [x] := by rw [List.take_add_one, hx]; rfl
      walk_at "v"
      simp only [allDV_map, inV_str, Option.map_some]
      cases hb : (!(B.any (· == x)))
      · refine hf _ rfl ⟨rfl, ?_⟩
        rw [step, List.filter_append, List.filter_cons_of_neg (by rw [hb]; decide), List.filter_nil, List.append_nil]
      · refine ht _ rfl ?_
        walk_at "v"
        refine hq _ _ _ rfl rfl ⟨rfl, ?_⟩
        rw [step, List.filter_append, List.filter_cons_of_pos (by rw [hb]), List.filter_nil, List.map_append]
        rfl
    · rintro m acc ⟨rfl, rfl⟩
      rw [List.length_map, List.take_of_length_le (Nat.le_refl _)]
      have hF : ∀ x ∈ A.filter (fun x => !(B.any (· == x))), x ∈ sitN := fun x hx => hn x (List.mem_filter.mp hx).1
      generalize A.filter (fun x => !(B.any (· == x))) = F at *
      walk_at "v"
      rw [eq_nil hF]
      walk_at "v"
      rw [← hcpe, vRepr_ok hcp]
      walk_at "v"
      exact hN _ ⟨_, _, rfl⟩
  rintro e' ⟨e3, e4, rfl⟩
  have hcp := cp_ok (a := s) (b := t)
  have comp : ∀ (b : Bool) (Q : VV → Nat → Prop), Q (.fr (cpL s t)) n → cComp [.d (bP s), .d (bP t), .d (.bool b)] n Q := fun b Q hq => ⟨s, t, b, rfl, hs, ht, hq⟩
  generalize cpL s t = cp at *
  generalize bP s = b1 at *
  generalize bP t = b2 at *
  walk_at "v"
  refine comp _ _ ?_
  walk_at "v"
  rw [vRepr_ok hcp]
  walk_at "v"
  rw [beq_self_eq_true]
  walk_at "v"
  refine comp _ _ ?_
  walk_at "v"
  rw [vRepr_ok hcp]
  walk_at "v"
  rw [beq_self_eq_true]
  exact hQ
end Lw
set_option Elab.async false
set_option linter.all false
set_option maxRecDepth 100000
set_option maxHeartbeats 1000000
namespace Lw
open PySem PySem.Spec PyProof.Rows L2 Lt Vl
open TL (tl)
local macro_rules | `(tactic| walk_at "v") => `(tactic| try simp only [vSq, vSet, vSetO, vRet, vRetN, vDrop, vAsg, vPar, vPar3, vParLO, vNx, vIfS, vVar, vC, vTy, vOp, vCons, vN, vB, vNot, vTup, vLst, vCall, vMo, vExt, vOrT, vAndT, vIf, vAnd, vOr, vNotV, vNeg, vSl, vNoP, vP, vTru, vSeq, vR1, vR2, vR3, vFor, vYes, vF, vFK, goF, vEnumA, vZip, vRev, vJoined, vJs, vFmt, vNo, vIsi, vDict, vPairs, vFrz, vAug, vSub, vCh, vMs, vIdxL, vTry, vSetX, vRaise, vIsX, vLstX, vKd, vTIx, bang_d, bang_fr, bang_ow, bang_tok, bang_b,
  dat2, dat, pl, stab, someD, someP, optV, optB, optL, asB, setV, retV, owAt, allS, allD, allA, argS, argD, seqD, tupD, toX, vEnd, VEnv.put, wipeV, hN, hT, hsC, hsN, perm, isFlat, flatD, isNone_n, isNone_i, isNone_s, isNone_b, isNone_t, isNone_l, truD, vIs_n, vIsNot_n, vTup_t, vTup_l, vList_t, vList_l, vLen_t, vLen_l, vInt_i, vInt_b, vAbs_i, vMin_ii, vMax_ii, vMax3_i, vSl_t, vSl_l,
  Int.reduceEq, Int.reduceLT, Int.reduceLE, Int.reduceAdd, Int.reduceSub, Int.reduceToNat, Nat.reduceAdd, Nat.reduceSub, Nat.reduceLT, Nat.reduceLeDiff, Option.bind_some, Option.map_some, Option.isSome_some, List.getElem?_cons_zero, List.getElem?_cons_succ, List.getElem?_nil, List.set_cons_zero, List.set_cons_succ, List.map_cons, List.map_nil, List.length_cons, List.length_nil, List.replicate_succ, List.replicate_zero, List.append_nil, List.nil_append, List.cons_append, List.getD_cons_zero, List.getD_cons_succ, List.all_cons, List.all_nil, List.isEmpty_nil, List.isEmpty_cons, decide_true, decide_false, Bool.not_true, Bool.not_false, Bool.and_true, Bool.true_and, Bool.or_false, Bool.false_or,
  sizeLine_eq, ↓reduceIte, vAdd_ll', vAdd_tt', app', vIx_t', vIx_l', atI_0, atI_1, atI_2, atI_3, atI_4, atI_5, atI_6, atI_7, atI_8, atI_9, atI_10, atI_11, atI_12, atI_13, atI_14, atI_15, atI_16, atI_17, atI_18, atI_19, cutL_0, cutR_0, cutL_1, cutR_1, cutL_2, cutR_2, cutL_3, cutR_3, cutL_4, cutR_4, cutL_5, cutR_5, cutL_6, cutR_6, cutL_7, cutR_7, cutL_8, cutR_8, cutL_9, cutR_9, cutL_10, cutR_10, cutL_11, cutR_11, cutL_12, cutR_12, cutL_13, cutR_13, cutM_6_7, cutM_8_11, cutM_0_2, List.take_succ_cons, List.take_zero, List.drop_succ_cons, List.drop_zero, inV_cons, inV_nil, eqV_ss, eqV_ii, eqV_ni, eqV_in,
  vAdd_ii, vSub_ii, vLt_ii, vLe_ii, vGt_ii, vGe_ii, eqD_ii, eqD_ss, eqD_bb, vEq, vNe, vIn, vNotIn, inD, dV, allDV, true_and, and_true, vInY_s, vInY_it, vInY_il, vInY_n, vNotInY_s, vNotInY_it, vNotInY_il, vNotInY_n, vInY_st1, vInY_st2, vNotInY_st1, vNotInY_st2, isNone_nD])
local macro_rules | `(tactic| walk_at "pt") => `(tactic| repeat' (first | apply Vl.PT.or | apply Vl.PT.and | apply Vl.PT.not | apply Vl.PB.or | apply Vl.PB.and | apply Vl.PB.not | (apply Vl.PT.ofB; first | apply Vl.PB.or | apply Vl.PB.and | apply Vl.PB.not | (intro Q; walk_at "v"; first | done | rfl)) | (intro Q; walk_at "v"; first | done | rfl)))
/-! safe books -/
theorem iota_at {n i : Nat} {p : PyData} (h : (iota 0 n)[i]? = some p) : i < n ∧ p = .int (i : Nat) := by
  unfold iota at h
  rw [List.getElem?_map] at h
  obtain ⟨j, hj, rfl⟩ := Option.map_eq_some_iff.mp h
  obtain ⟨h1, h2⟩ := List.getElem?_eq_some_iff.mp hj
  rw [List.getElem_range] at h2
  subst h2
  exact ⟨by simpa using h1, by simp⟩
theorem some_ok {sss : List (List Str)} (h : ∀ t ∈ sss, Bw t) (hl : sss.length ≤ 10) : ReprOk (.list (sss.map bP)) := by
  refine (Sh.lst (k := 2) (L := 200000) fun d hd => ?_).ok (by omega) ?_
  · obtain ⟨t, ht, rfl⟩ := List.mem_map.mp hd
    exact bw_ok (h t ht)
  · rw [List.length_map]
    omega
theorem hvR : v_lawR cCalm (cDraw true) cTurn (cPick true) cWords cRight cHeard cPair ⟨none :: some (.tok 0) :: List.replicate 8 none, 0⟩ (vEnd fun r _ => r = .d (.bool true)) := by
  unfold v_lawR
  refine sq_mid (fun e' => e' = ⟨[none, some (.tok 0), some (.d (.list [])), none, none, none, none, none, none, none], 0⟩) (fun N hN => ?_) ?_
  · walk_at "v"
    exact hN _ rfl
  rintro e' rfl
  refine sq_mid (fun e' => ∃ (sss : List (List Str)) (n : Nat) (e3 e5 e6 e7 : Option VX), sss.length = 10 ∧ (∀ t ∈ sss, Bw t) ∧ n ≤ 500 ∧ e' = ⟨[none, some (.tok 0), some (.d (.list (sss.map bP))), e3, none, e5, e6, e7, none, none], n⟩) (fun N hN => ?_) ?_
  · walk_at "v"
    refine ⟨by decide, ?_⟩
    refine vfor_inv (fun i e => ∃ (sss : List (List Str)) (n : Nat) (e3 e5 e6 e7 : Option VX), sss.length = 2 * i ∧ (∀ t ∈ sss, Bw t) ∧ n ≤ 100 * i ∧ e = ⟨[none, some (.tok 0), some (.d (.list (sss.map bP))), e3, none, e5, e6, e7, none, none], n⟩) ?_ ?_ ⟨[], 0, _, _, _, _, rfl, by simp, by omega, rfl⟩
    rotate_left
    · rintro e' ⟨sss, n, e3, e5, e6, e7, h1, h2, h3, rfl⟩
      exact hN _ ⟨sss, n, e3, e5, e6, e7, h1, h2, h3, rfl⟩
    rintro i e p hp ⟨sss, n, e3, e5, e6, e7, h1, h2, h3, rfl⟩
    obtain ⟨hi, rfl⟩ := iota_at hp
    refine ⟨_, rfl, fun D' hnx _ hrt _ => ?_⟩
    refine sq_mid (fun e' => ∃ (ss : List Str) (k m : Nat), Bw ss ∧ k < 12 ∧ m ≤ n + 41 ∧ e' = ⟨[none, some (.tok 0), some (.d (.list (sss.map bP))), some (.d (.int i)), none, some (.d (bP ss)), some (.d (.int k)), e7, none, none], m⟩) (fun N hN => ?_) ?_
    · walk_at "v"
      refine ⟨rfl, by omega, fun ss m hw hq hm => ?_⟩
      walk_at "v"
      refine ⟨12, rfl, by omega, by omega, by omega, fun k hk => ?_⟩
      walk_at "v"
      exact hN _ ⟨ss, k, m + 1, hw, hk, by omega, rfl⟩
    rintro e' ⟨ss, k, m, hw, hk, hm, rfl⟩
    refine sq_mid (fun e' => ∃ (tt : List Str), Bw tt ∧ e' = ⟨[none, some (.tok 0), some (.d (.list (sss.map bP))), some (.d (.int i)), none, some (.d (bP ss)), some (.d (.int k)), some (.d (bP tt)), none, none], m + 1⟩) (fun N hN => ?_) ?_
    · obtain ⟨ws, hws, hl0, hl3, hall⟩ := wordsS_at hk
      have hat : atI wordsD (k : Int) = some (.tuple (ws.map .str)) := atI_n (by rw [wordsD_eq, List.getElem?_map, hws]; rfl)
      walk_at "v"
      refine ⟨rfl, ?_⟩
      walk_at "v"
      rw [hat]
      walk_at "v"
      refine ⟨_, ws.map .str, rfl, rfl, by simpa using hl0, by simp; omega, by omega, fun y hy => ?_⟩
      obtain ⟨s, hs, rfl⟩ := List.mem_map.mp hy
      walk_at "v"
      refine ⟨ss, k, s, rfl, hw.len, hk, ?_⟩
      walk_at "v"
      exact hN _ ⟨_, hw.set ⟨ws, hws, hs⟩, rfl⟩
    rintro e' ⟨tt, ht, rfl⟩
    have hhd := hd_ok (ss := tt) ht.len
    have heard : ∀ (b : Bool) (Q : VV → Nat → Prop), Q (.fr (hdL tt)) (m + 1) → cHeard [.d (bP tt), .d (.bool b)] (m + 1) Q := fun b Q hq => ⟨tt, b, rfl, ht, hq⟩
    generalize hdL tt = hl at *
    walk_at "v"
    refine ⟨ss, rfl, hw, ?_⟩
    walk_at "v"
    refine ⟨tt, rfl, ht, ?_⟩
    walk_at "v"
    refine heard _ _ ?_
    walk_at "v"
    rw [vRepr_ok hhd]
    walk_at "v"
    refine heard _ _ ?_
    walk_at "v"
    rw [vRepr_ok hhd]
    walk_at "v"
    rw [beq_self_eq_true]
    walk_at "v"
    rw [if_pos (by rw [List.length_map]; omega)]
    walk_at "v"
    refine hnx _ ⟨sss ++ [ss, tt], m + 1, _, _, _, _, by simp; omega, fun x hx => ?_, by omega, by rw [List.map_append]; rfl⟩
    rcases List.mem_append.mp hx with hx | hx
    · exact h2 x hx
    · simp only [List.mem_cons, List.not_mem_nil, or_false] at hx
      rcases hx with rfl | rfl
      · exact hw
      · exact ht
  rintro e' ⟨sss, n, e3, e5, e6, e7, h1, h2, h3, rfl⟩
  have hok := some_ok h2 (by omega)
  have hlen : (sss.map bP).length = 10 := by rw [List.length_map]; exact h1
  have hmem : ∀ d ∈ sss.map bP, ∃ t, d = bP t ∧ Bw t := fun d hd => by
    obtain ⟨t, ht, rfl⟩ := List.mem_map.mp hd
    exact ⟨t, rfl, h2 t ht⟩
  generalize sss.map bP = L at *
  refine sq_mid (fun e' => e' = ⟨[none, some (.tok 0), some (.d (.list L)), e3, some (.d (.str (PyData.list L).shown)), e5, e6, e7, none, none], n⟩) (fun N hN => ?_) ?_
  · walk_at "v"
    rw [vRepr_ok hok]
    walk_at "v"
    exact hN _ rfl
  rintro e' rfl
  refine sq_mid (fun e' => ∃ e3 e8 e9 n, e' = ⟨[none, some (.tok 0), some (.d (.list L)), e3, some (.d (.str (PyData.list L).shown)), e5, e6, e7, e8, e9], n⟩) (fun N hN => ?_) ?_
  · walk_at "v"
    refine ⟨by decide, ?_⟩
    refine vfor_inv (fun i e => ∃ e3 e8 e9 m, m ≤ 500 + 10 * i ∧ e = ⟨[none, some (.tok 0), some (.d (.list L)), e3, some (.d (.str (PyData.list L).shown)), e5, e6, e7, e8, e9], m⟩) ?_ ?_ ⟨_, _, _, n, by omega, rfl⟩
    rotate_left
    · rintro e' ⟨e3, e8, e9, m, hm, rfl⟩
      exact hN _ ⟨_, _, _, _, rfl⟩
    rintro i e p hp ⟨e3, e8, e9, m, hm, rfl⟩
    obtain ⟨hi, rfl⟩ := iota_at hp
    refine ⟨_, rfl, fun D' hnx _ hrt _ => ?_⟩
    walk_at "v"
    refine ⟨_, L, rfl, rfl, by omega, by omega, by omega, fun y hy => ?_⟩
    obtain ⟨s, rfl, hs⟩ := hmem y hy
    walk_at "v"
    refine ⟨_, L, rfl, rfl, by omega, by omega, by omega, fun y hy => ?_⟩
    obtain ⟨t, rfl, ht⟩ := hmem y hy
    walk_at "v"
    refine ⟨s, t, rfl, hs, ht, ?_⟩
    walk_at "v"
    refine ⟨t, s, rfl, ht, hs, ?_⟩
    walk_at "v"
    exact hnx _ ⟨_, _, _, _, by omega, rfl⟩
  rintro e' ⟨e3, e8, e9, m, rfl⟩
  walk_at "v"
  rw [vRepr_ok hok]
  walk_at "v"
  rw [beq_self_eq_true]
end Lw
set_option Elab.async false
set_option linter.all false
set_option maxRecDepth 100000
set_option maxHeartbeats 1000000
namespace Lw
open PySem PySem.Spec PyProof.Rows L2 Lt Vl
open TL (tl)
local macro_rules | `(tactic| walk_at "v") => `(tactic| try simp only [vSq, vSet, vSetO, vRet, vRetN, vDrop, vAsg, vPar, vPar3, vParLO, vNx, vIfS, vVar, vC, vTy, vOp, vCons, vN, vB, vNot, vTup, vLst, vCall, vMo, vExt, vOrT, vAndT, vIf, vAnd, vOr, vNotV, vNeg, vSl, vNoP, vP, vTru, vSeq, vR1, vR2, vR3, vFor, vYes, vF, vFK, goF, vEnumA, vZip, vRev, vJoined, vJs, vFmt, vNo, vIsi, vDict, vPairs, vFrz, vAug, vSub, vCh, vMs, vIdxL, vTry, vSetX, vRaise, vIsX, vLstX, vKd, vTIx, bang_d, bang_fr, bang_ow, bang_tok, bang_b,
  dat2, dat, pl, stab, someD, someP, optV, optB, optL, asB, setV, retV, owAt, allS, allD, allA, argS, argD, seqD, tupD, toX, vEnd, VEnv.put, wipeV, hN, hT, hsC, hsN, perm, isFlat, flatD, isNone_n, isNone_i, isNone_s, isNone_b, isNone_t, isNone_l, truD, vIs_n, vIsNot_n, vTup_t, vTup_l, vList_t, vList_l, vLen_t, vLen_l, vInt_i, vInt_b, vAbs_i, vMin_ii, vMax_ii, vMax3_i, vSl_t, vSl_l,
  Int.reduceEq, Int.reduceLT, Int.reduceLE, Int.reduceAdd, Int.reduceSub, Int.reduceToNat, Nat.reduceAdd, Nat.reduceSub, Nat.reduceLT, Nat.reduceLeDiff, Option.bind_some, Option.map_some, Option.isSome_some, List.getElem?_cons_zero, List.getElem?_cons_succ, List.getElem?_nil, List.set_cons_zero, List.set_cons_succ, List.map_cons, List.map_nil, List.length_cons, List.length_nil, List.replicate_succ, List.replicate_zero, List.append_nil, List.nil_append, List.cons_append, List.getD_cons_zero, List.getD_cons_succ, List.all_cons, List.all_nil, List.isEmpty_nil, List.isEmpty_cons, decide_true, decide_false, Bool.not_true, Bool.not_false, Bool.and_true, Bool.true_and, Bool.or_false, Bool.false_or,
  sizeLine_eq, ↓reduceIte, vAdd_ll', vAdd_tt', app', vIx_t', vIx_l', atI_0, atI_1, atI_2, atI_3, atI_4, atI_5, atI_6, atI_7, atI_8, atI_9, atI_10, atI_11, atI_12, atI_13, atI_14, atI_15, atI_16, atI_17, atI_18, atI_19, cutL_0, cutR_0, cutL_1, cutR_1, cutL_2, cutR_2, cutL_3, cutR_3, cutL_4, cutR_4, cutL_5, cutR_5, cutL_6, cutR_6, cutL_7, cutR_7, cutL_8, cutR_8, cutL_9, cutR_9, cutL_10, cutR_10, cutL_11, cutR_11, cutL_12, cutR_12, cutL_13, cutR_13, cutM_6_7, cutM_8_11, cutM_0_2, List.take_succ_cons, List.take_zero, List.drop_succ_cons, List.drop_zero, inV_cons, inV_nil, eqV_ss, eqV_ii, eqV_ni, eqV_in,
  vAdd_ii, vSub_ii, vLt_ii, vLe_ii, vGt_ii, vGe_ii, eqD_ii, eqD_ss, eqD_bb, vEq, vNe, vIn, vNotIn, inD, dV, allDV, true_and, and_true, vInY_s, vInY_it, vInY_il, vInY_n, vNotInY_s, vNotInY_it, vNotInY_il, vNotInY_n, vInY_st1, vInY_st2, vNotInY_st1, vNotInY_st2, isNone_nD])
local macro_rules | `(tactic| walk_at "pt") => `(tactic| repeat' (first | apply Vl.PT.or | apply Vl.PT.and | apply Vl.PT.not | apply Vl.PB.or | apply Vl.PB.and | apply Vl.PB.not | (apply Vl.PT.ofB; first | apply Vl.PB.or | apply Vl.PB.and | apply Vl.PB.not | (intro Q; walk_at "v"; first | done | rfl)) | (intro Q; walk_at "v"; first | done | rfl)))
/-! safe books -/
abbrev lvl : Nat := 11
theorem law_ready {P : Program} {w : World} {K : PySem.W.Frag} {mg : Str → Option Value} {fa : Addr} (D : Defs K mg) (hX : XcF P K mg "Unfit" "MarkError") (hM : DctF w K mg) (hfa : mg "law" = some (.ref fa)) :
    ∃ fd : FuncData, (∀ (s : Shared) (u : Value), BindsTo s fd ⟨[u], []⟩ [("script", u)]) ∧ ∀ base : Heap, SM base → K.In base → base.Ns mainGlobals mg → FnG P w K mg base CX0 lvl fa fd ["script"] (spC K Vl.conLaw) := by
  refine law_of (k := 10) (wb := b_law (conDeck Bag) (conV (tokOf Bag) cCalm) (conV (tokOf Bag) (cDraw true)) (conV (tokOf Bag) cTurn) (conV (tokOf Bag) (cPick true)) (conV (tokOf Bag) cWords) (conV (tokOf Bag) cRight) (conV (tokOf Bag) cHeard) (conV (tokOf Bag) cPair)) D.d_law rfl hfa sc_law (by rintro _ _ _ ⟨g, ⟨rfl, _⟩, _⟩; rfl) (fun base hS _ _ => ?_) ?pl
  case pl =>
    intro xs S0 P0 h
    rw [b_law_eq]
    exact law_start (n := N_law.length) bag_ok (sim_lawR (tokOf Bag) cCalm (cDraw true) cTurn (cPick true) cWords cRight cHeard cPair) (by decide) hvR xs S0 P0 h
  have C_law_bag : Callee P w K mg base "_law_bag" P_law_bag s_law_bag 1 (conDeck Bag) := callee_of D.d_law_bag sc_law_bag (by rintro _ _ _ ⟨g, ⟨rfl, _⟩, _⟩; rfl) (jb_law_bag D.T hS (k := 0)) pl_law_bag
  have C_law_draw : Callee P w K mg base "_law_draw" P_law_draw s_law_draw 1 (conV (tokOf Bag) (cDraw true)) := (callee_of D.d_law_draw sc_law_draw (by rintro _ _ _ ⟨g, ⟨_, _, _, rfl, _⟩, _⟩; rfl) (jb_law_draw D.T hS (k := 0)) pl_law_draw).weak draw_of
  have C_can_stand : Callee P w K mg base "can_stand" P_can_stand s_can_stand 1 (conV (tokOf Bag) cCS) := C_can_stand D.T hS D.d_can_stand (k := 0)  (fun us m Q h => by first | (obtain ⟨rfl, _⟩ := h; rfl) | (obtain ⟨_, rfl, _⟩ := h; rfl) | (obtain ⟨_, _, rfl, _⟩ := h; rfl) | (obtain ⟨_, _, _, rfl, _⟩ := h; rfl) | (obtain ⟨_, _, _, _, rfl, _⟩ := h; rfl)) vp_can_stand
  have C_marks_nobody : Callee P w K mg base "marks_nobody" P_marks_nobody s_marks_nobody 1 (conV (tokOf Bag) (cB mnB)) := C_marks_nobody D.T hS D.d_marks_nobody (k := 0)  (fun us m Q h => by first | (obtain ⟨rfl, _⟩ := h; rfl) | (obtain ⟨_, rfl, _⟩ := h; rfl) | (obtain ⟨_, _, rfl, _⟩ := h; rfl) | (obtain ⟨_, _, _, rfl, _⟩ := h; rfl) | (obtain ⟨_, _, _, _, rfl, _⟩ := h; rfl)) vp_marks_nobody
  have C_answers_mark : Callee P w K mg base "answers_mark" P_answers_mark s_answers_mark 2 (conV (tokOf Bag) (cB amB)) := C_answers_mark D.T hS D.d_answers_mark (k := 1) C_can_stand (by decide) (fun us m Q h => by first | (obtain ⟨rfl, _⟩ := h; rfl) | (obtain ⟨_, rfl, _⟩ := h; rfl) | (obtain ⟨_, _, rfl, _⟩ := h; rfl) | (obtain ⟨_, _, _, rfl, _⟩ := h; rfl) | (obtain ⟨_, _, _, _, rfl, _⟩ := h; rfl)) vp_answers_mark
  have C_raises_no_direct_reader : Callee P w K mg base "raises_no_direct_reader" P_raises_no_direct_reader s_raises_no_direct_reader 2 (conV (tokOf Bag) (cB rdB)) := C_raises_no_direct_reader D.T hS D.d_raises_no_direct_reader (k := 1) C_can_stand (by decide) (fun us m Q h => by first | (obtain ⟨rfl, _⟩ := h; rfl) | (obtain ⟨_, rfl, _⟩ := h; rfl) | (obtain ⟨_, _, rfl, _⟩ := h; rfl) | (obtain ⟨_, _, _, rfl, _⟩ := h; rfl) | (obtain ⟨_, _, _, _, rfl, _⟩ := h; rfl)) vp_raises_no_direct_reader
  have C_strikes_what_it_asks_for : Callee P w K mg base "strikes_what_it_asks_for" P_strikes_what_it_asks_for s_strikes_what_it_asks_for 2 (conV (tokOf Bag) (cB stB)) := C_strikes_what_it_asks_for D.T hS D.d_strikes_what_it_asks_for (k := 1) C_can_stand (by decide) (fun us m Q h => by first | (obtain ⟨rfl, _⟩ := h; rfl) | (obtain ⟨_, rfl, _⟩ := h; rfl) | (obtain ⟨_, _, rfl, _⟩ := h; rfl) | (obtain ⟨_, _, _, rfl, _⟩ := h; rfl) | (obtain ⟨_, _, _, _, rfl, _⟩ := h; rfl)) vp_strikes_what_it_asks_for
  have C_leaves_marks_below_clean : Callee P w K mg base "leaves_marks_below_clean" P_leaves_marks_below_clean s_leaves_marks_below_clean 1 (conV (tokOf Bag) (cBw lmB)) := C_leaves_marks_below_clean D.T hS D.d_leaves_marks_below_clean (k := 0)  (fun us m Q h => by first | (obtain ⟨rfl, _⟩ := h; rfl) | (obtain ⟨_, rfl, _⟩ := h; rfl) | (obtain ⟨_, _, rfl, _⟩ := h; rfl) | (obtain ⟨_, _, _, rfl, _⟩ := h; rfl) | (obtain ⟨_, _, _, _, rfl, _⟩ := h; rfl)) vp_leaves_marks_below_clean
  have C_slip_alone : Callee P w K mg base "slip_alone" P_slip_alone s_slip_alone 3 (conV (tokOf Bag) (cN aloneN)) := C_slip_alone D.T hS D.d_slip_alone (k := 2) C_marks_nobody (by decide) C_answers_mark (by decide) C_raises_no_direct_reader (by decide) C_strikes_what_it_asks_for (by decide) C_leaves_marks_below_clean (by decide) (fun us m Q h => by first | (obtain ⟨rfl, _⟩ := h; rfl) | (obtain ⟨_, rfl, _⟩ := h; rfl) | (obtain ⟨_, _, rfl, _⟩ := h; rfl) | (obtain ⟨_, _, _, rfl, _⟩ := h; rfl) | (obtain ⟨_, _, _, _, rfl, _⟩ := h; rfl)) vp_slip_alone
  have C_safe_alone : Callee P w K mg base "safe_alone" P_safe_alone s_safe_alone 4 (conV (tokOf Bag) (cBw fun ss => aloneN ss == 0)) := C_safe_alone D.T hS D.d_safe_alone (k := 3) C_slip_alone (by decide) (fun us m Q h => by first | (obtain ⟨rfl, _⟩ := h; rfl) | (obtain ⟨_, rfl, _⟩ := h; rfl) | (obtain ⟨_, _, rfl, _⟩ := h; rfl) | (obtain ⟨_, _, _, rfl, _⟩ := h; rfl) | (obtain ⟨_, _, _, _, rfl, _⟩ := h; rfl)) vp_safe_alone
  have C_is_quiet : Callee P w K mg base "is_quiet" P_is_quiet s_is_quiet 5 (conV (tokOf Bag) (cBw qtB)) := C_is_quiet D.T hS D.d_is_quiet (k := 4) C_safe_alone (by decide) (fun us m Q h => by first | (obtain ⟨rfl, _⟩ := h; rfl) | (obtain ⟨_, rfl, _⟩ := h; rfl) | (obtain ⟨_, _, rfl, _⟩ := h; rfl) | (obtain ⟨_, _, _, rfl, _⟩ := h; rfl) | (obtain ⟨_, _, _, _, rfl, _⟩ := h; rfl)) vp_is_quiet
  have C_marks_of_situations : Callee P w K mg base "marks_of_situations" P_marks_of_situations s_marks_of_situations 1 (conV (tokOf Bag) cSit) := C_marks_of_situations D.T hS hM D.d_marks_of_situations (k := 0)  (fun us m Q h => by first | (obtain ⟨rfl, _⟩ := h; rfl) | (obtain ⟨_, rfl, _⟩ := h; rfl) | (obtain ⟨_, _, rfl, _⟩ := h; rfl) | (obtain ⟨_, _, _, rfl, _⟩ := h; rfl) | (obtain ⟨_, _, _, _, rfl, _⟩ := h; rfl)) vp_sits
  have C_works_at : Callee P w K mg base "works_at" P_works_at s_works_at 1 (conV (tokOf Bag) cWk) := C_works_at D.T hS D.d_works_at (k := 0)  (fun us m Q h => by first | (obtain ⟨rfl, _⟩ := h; rfl) | (obtain ⟨_, rfl, _⟩ := h; rfl) | (obtain ⟨_, _, rfl, _⟩ := h; rfl) | (obtain ⟨_, _, _, rfl, _⟩ := h; rfl) | (obtain ⟨_, _, _, _, rfl, _⟩ := h; rfl)) vp_works_at
  have C_hasty : CalleeX P w K mg base (adr (mg "Unfit")) "hasty" P_hasty s_hasty 6 (conV (tokOf Bag) cHasty) := C_hasty D.T hS hX D.d_hasty (k := 5) (by decide) C_is_quiet (by decide) C_marks_of_situations (by decide) C_works_at (by decide) (fun us m Q h => by first | (obtain ⟨rfl, _⟩ := h; rfl) | (obtain ⟨_, rfl, _⟩ := h; rfl) | (obtain ⟨_, _, rfl, _⟩ := h; rfl) | (obtain ⟨_, _, _, rfl, _⟩ := h; rfl) | (obtain ⟨_, _, _, _, rfl, _⟩ := h; rfl)) vp_hasty
  have C_more_situation : CalleeX P w K mg base (adr (mg "Unfit")) "more_situation" P_more_situation s_more_situation 7 (conV (tokOf Bag) cMore) := C_more_situation D.T hS hX D.d_more_situation (k := 6) (by decide) C_hasty (by decide) (fun us m Q h => by first | (obtain ⟨rfl, _⟩ := h; rfl) | (obtain ⟨_, rfl, _⟩ := h; rfl) | (obtain ⟨_, _, rfl, _⟩ := h; rfl) | (obtain ⟨_, _, _, rfl, _⟩ := h; rfl) | (obtain ⟨_, _, _, _, rfl, _⟩ := h; rfl)) vp_more
  have C_never_more : CalleeX P w K mg base (adr (mg "Unfit")) "never_more" P_never_more s_never_more 8 (conV (tokOf Bag) cNever) := C_never_more D.T hS hX D.d_never_more (k := 7) (by decide) C_more_situation (by decide) (fun us m Q h => by first | (obtain ⟨rfl, _⟩ := h; rfl) | (obtain ⟨_, rfl, _⟩ := h; rfl) | (obtain ⟨_, _, rfl, _⟩ := h; rfl) | (obtain ⟨_, _, _, rfl, _⟩ := h; rfl) | (obtain ⟨_, _, _, _, rfl, _⟩ := h; rfl)) vp_never
  have C_law_pick : Callee P w K mg base "_law_pick" P_law_pick s_law_pick 2 (conV (tokOf Bag) (cPick true)) := C_law_pick D.T hS D.d_law_pick (k := 1) C_law_draw (by decide) (fun us m Q h => by first | (obtain ⟨rfl, _⟩ := h; rfl) | (obtain ⟨_, rfl, _⟩ := h; rfl) | (obtain ⟨_, _, rfl, _⟩ := h; rfl) | (obtain ⟨_, _, _, rfl, _⟩ := h; rfl) | (obtain ⟨_, _, _, _, rfl, _⟩ := h; rfl)) vp_pick
  have C_law_words : Callee P w K mg base "_law_words" P_law_words s_law_words 1 (conV (tokOf Bag) cWords) := C_law_words D.T hS D.d_law_words (k := 0)  (fun us m Q h => by first | (obtain ⟨rfl, _⟩ := h; rfl) | (obtain ⟨_, rfl, _⟩ := h; rfl) | (obtain ⟨_, _, rfl, _⟩ := h; rfl) | (obtain ⟨_, _, _, rfl, _⟩ := h; rfl) | (obtain ⟨_, _, _, _, rfl, _⟩ := h; rfl)) vp_words
  have C_law_mark : Callee P w K mg base "_law_mark" P_law_mark s_law_mark 1 (conV (tokOf Bag) cMark) := C_law_mark D.T hS D.d_law_mark (k := 0)  (fun us m Q h => by first | (obtain ⟨rfl, _⟩ := h; rfl) | (obtain ⟨_, rfl, _⟩ := h; rfl) | (obtain ⟨_, _, rfl, _⟩ := h; rfl) | (obtain ⟨_, _, _, rfl, _⟩ := h; rfl) | (obtain ⟨_, _, _, _, rfl, _⟩ := h; rfl)) vp_mark
  have C_law_any_book : Callee P w K mg base "_law_any_book" P_law_any_book s_law_any_book 3 (conV (tokOf Bag) cAny) := C_law_any_book D.T hS D.d_law_any_book (k := 2) C_law_words (by decide) C_law_pick (by decide) (fun us m Q h => by first | (obtain ⟨rfl, _⟩ := h; rfl) | (obtain ⟨_, rfl, _⟩ := h; rfl) | (obtain ⟨_, _, rfl, _⟩ := h; rfl) | (obtain ⟨_, _, _, rfl, _⟩ := h; rfl) | (obtain ⟨_, _, _, _, rfl, _⟩ := h; rfl)) vp_any_book
  have C_law_can_stand : Callee P w K mg base "_law_can_stand" P_law_can_stand s_law_can_stand 1 (conV (tokOf Bag) cLCS) := C_law_can_stand D.T hS D.d_law_can_stand (k := 0)  (fun us m Q h => by first | (obtain ⟨rfl, _⟩ := h; rfl) | (obtain ⟨_, rfl, _⟩ := h; rfl) | (obtain ⟨_, _, rfl, _⟩ := h; rfl) | (obtain ⟨_, _, _, rfl, _⟩ := h; rfl) | (obtain ⟨_, _, _, _, rfl, _⟩ := h; rfl)) vp_law_can_stand
  have C_law_number : Callee P w K mg base "_law_number" P_law_number s_law_number 2 (conV (tokOf Bag) cLN) := C_law_number D.T hS D.d_law_number (k := 1) C_law_can_stand (by decide) (fun us m Q h => by first | (obtain ⟨rfl, _⟩ := h; rfl) | (obtain ⟨_, rfl, _⟩ := h; rfl) | (obtain ⟨_, _, rfl, _⟩ := h; rfl) | (obtain ⟨_, _, _, rfl, _⟩ := h; rfl) | (obtain ⟨_, _, _, _, rfl, _⟩ := h; rfl)) vp_law_number
  have C_law_turned : Callee P w K mg base "_law_turned" P_law_turned s_law_turned 1 (conV (tokOf Bag) cTurn) := C_law_turned D.T hS D.d_law_turned (k := 0)  (fun us m Q h => by first | (obtain ⟨rfl, _⟩ := h; rfl) | (obtain ⟨_, rfl, _⟩ := h; rfl) | (obtain ⟨_, _, rfl, _⟩ := h; rfl) | (obtain ⟨_, _, _, rfl, _⟩ := h; rfl) | (obtain ⟨_, _, _, _, rfl, _⟩ := h; rfl)) vp_turned
  have C_law_safe_book : Callee P w K mg base "_law_safe_book" P_law_safe_book s_law_safe_book 4 (conV (tokOf Bag) cSafe) := C_law_safe_book D.T hS D.d_law_safe_book (k := 3) C_law_any_book (by decide) C_law_turned (by decide) C_law_pick (by decide) C_law_can_stand (by decide) C_law_draw (by decide) C_law_number (by decide) (fun us m Q h => by first | (obtain ⟨rfl, _⟩ := h; rfl) | (obtain ⟨_, rfl, _⟩ := h; rfl) | (obtain ⟨_, _, rfl, _⟩ := h; rfl) | (obtain ⟨_, _, _, rfl, _⟩ := h; rfl) | (obtain ⟨_, _, _, _, rfl, _⟩ := h; rfl)) vp_safe_book
  have C_law_is_calm : Callee P w K mg base "_law_is_calm" P_law_is_calm s_law_is_calm 3 (conV (tokOf Bag) (cBw qtB)) := C_law_is_calm D.T hS D.d_law_is_calm (k := 2) C_law_number (by decide) (fun us m Q h => by first | (obtain ⟨rfl, _⟩ := h; rfl) | (obtain ⟨_, rfl, _⟩ := h; rfl) | (obtain ⟨_, _, rfl, _⟩ := h; rfl) | (obtain ⟨_, _, _, rfl, _⟩ := h; rfl) | (obtain ⟨_, _, _, _, rfl, _⟩ := h; rfl)) vp_is_calm
  have C_law_calm_book : Callee P w K mg base "_law_calm_book" P_law_calm_book s_law_calm_book 5 (conV (tokOf Bag) cCalm) := C_law_calm_book D.T hS D.d_law_calm_book (k := 4) C_law_turned (by decide) C_law_safe_book (by decide) (fun us m Q h => by first | (obtain ⟨rfl, _⟩ := h; rfl) | (obtain ⟨_, rfl, _⟩ := h; rfl) | (obtain ⟨_, _, rfl, _⟩ := h; rfl) | (obtain ⟨_, _, _, rfl, _⟩ := h; rfl) | (obtain ⟨_, _, _, _, rfl, _⟩ := h; rfl)) vp_calm_book
  have C_law_rash : Callee P w K mg base "_law_rash" P_law_rash s_law_rash 2 (conV (tokOf Bag) cRash) := C_law_rash D.T hS D.d_law_rash (k := 1) C_law_mark (by decide) (fun us m Q h => by first | (obtain ⟨rfl, _⟩ := h; rfl) | (obtain ⟨_, rfl, _⟩ := h; rfl) | (obtain ⟨_, _, rfl, _⟩ := h; rfl) | (obtain ⟨_, _, _, rfl, _⟩ := h; rfl) | (obtain ⟨_, _, _, _, rfl, _⟩ := h; rfl)) vp_rash
  have C_law_heard : Callee P w K mg base "_law_heard" P_law_heard s_law_heard 7 (conV (tokOf Bag) cHeard) := C_law_heard D.T hS hX D.d_law_heard (k := 6) C_hasty (by decide) (fun us m Q h => by first | (obtain ⟨rfl, _⟩ := h; rfl) | (obtain ⟨_, rfl, _⟩ := h; rfl) | (obtain ⟨_, _, rfl, _⟩ := h; rfl) | (obtain ⟨_, _, _, rfl, _⟩ := h; rfl) | (obtain ⟨_, _, _, _, rfl, _⟩ := h; rfl)) vp_heard
  have C_law_compared : Callee P w K mg base "_law_compared" P_law_compared s_law_compared 9 (conV (tokOf Bag) cComp) := C_law_compared D.T hS hX D.d_law_compared (k := 8) C_never_more (by decide) (fun us m Q h => by first | (obtain ⟨rfl, _⟩ := h; rfl) | (obtain ⟨_, rfl, _⟩ := h; rfl) | (obtain ⟨_, _, rfl, _⟩ := h; rfl) | (obtain ⟨_, _, _, rfl, _⟩ := h; rfl) | (obtain ⟨_, _, _, _, rfl, _⟩ := h; rfl)) vp_compared
  have C_law_is_right : Callee P w K mg base "_law_is_right" P_law_is_right s_law_is_right 8 (conV (tokOf Bag) cRight) := C_law_is_right D.T hS D.d_law_is_right (k := 7) C_law_is_calm (by decide) C_law_rash (by decide) C_law_heard (by decide) (fun us m Q h => by first | (obtain ⟨rfl, _⟩ := h; rfl) | (obtain ⟨_, rfl, _⟩ := h; rfl) | (obtain ⟨_, _, rfl, _⟩ := h; rfl) | (obtain ⟨_, _, _, rfl, _⟩ := h; rfl) | (obtain ⟨_, _, _, _, rfl, _⟩ := h; rfl)) vp_is_right
  have C_law_is_pair_right : Callee P w K mg base "_law_is_pair_right" P_law_is_pair_right s_law_is_pair_right 10 (conV (tokOf Bag) cPair) := C_law_is_pair_right D.T hS D.d_law_is_pair_right (k := 9) C_law_is_calm (by decide) C_law_rash (by decide) C_law_compared (by decide) (fun us m Q h => by first | (obtain ⟨rfl, _⟩ := h; rfl) | (obtain ⟨_, rfl, _⟩ := h; rfl) | (obtain ⟨_, _, rfl, _⟩ := h; rfl) | (obtain ⟨_, _, _, rfl, _⟩ := h; rfl) | (obtain ⟨_, _, _, _, rfl, _⟩ := h; rfl)) vp_is_pair_right
  exact jb_law D.T hS (k := 10) C_law_bag (by decide) C_law_calm_book (by decide) C_law_draw (by decide) C_law_turned (by decide) C_law_pick (by decide) C_law_words (by decide) C_law_is_right (by decide) C_law_heard (by decide) C_law_is_pair_right (by decide)
end Lw
open PySem PySem.W PyProof.Rows
set_option maxRecDepth 100000 in
set_option maxHeartbeats 0 in
theorem PySem.Challenge.cw_keptmarks_k46_whole_situations_in_which_holds : PySem.Challenge.rw_keptmarks_k46_whole_situations_in_which.Holds := by
  w_on; o_law; k_head; (case hw => w_witness2)
  k_fill
  refine Lt.walk_ltG (l := PySem.Challenge.rw_keptmarks_k46_whole_situations_in_which) (c := Vl.conLaw) (k := Lw.lvl) (x := "script") rfl (by decide) rfl ⟨rfl, by decide, by decide⟩ (by decide +kernel) (fun w h Y => PySem.W.kIn_of Y) ?F Vl.law_true
  case F =>
    intro w mg fa h KX G hmg
    refine Lw.law_ready ?D ?X ?zM hmg
    case D =>
      refine' Lw.defs_mk KX G ?a_can_stand ?l_can_stand ?e_can_stand ?k_can_stand ?a_slip_alone ?l_slip_alone ?e_slip_alone ?k_slip_alone ?a_safe_alone ?l_safe_alone ?e_safe_alone ?k_safe_alone ?a_marks_nobody ?l_marks_nobody ?e_marks_nobody ?k_marks_nobody ?a_answers_mark ?l_answers_mark ?e_answers_mark ?k_answers_mark ?a_raises_no_direct_reader ?l_raises_no_direct_reader ?e_raises_no_direct_reader ?k_raises_no_direct_reader ?a_strikes_what_it_asks_for ?l_strikes_what_it_asks_for ?e_strikes_what_it_asks_for ?k_strikes_what_it_asks_for ?a_leaves_marks_below_clean ?l_leaves_marks_below_clean ?e_leaves_marks_below_clean ?k_leaves_marks_below_clean ?a_is_quiet ?l_is_quiet ?e_is_quiet ?k_is_quiet ?a_hasty ?l_hasty ?e_hasty ?k_hasty ?a_never_more ?l_never_more ?e_never_more ?k_never_more ?a_marks_of_situations ?l_marks_of_situations ?e_marks_of_situations ?k_marks_of_situations ?a_works_at ?l_works_at ?e_works_at ?k_works_at ?a_more_situation ?l_more_situation ?e_more_situation ?k_more_situation ?a_law_bag ?l_law_bag ?e_law_bag ?k_law_bag ?a_law_draw ?l_law_draw ?e_law_draw ?k_law_draw ?a_law_pick ?l_law_pick ?e_law_pick ?k_law_pick ?a_law_words ?l_law_words ?e_law_words ?k_law_words ?a_law_mark ?l_law_mark ?e_law_mark ?k_law_mark ?a_law_any_book ?l_law_any_book ?e_law_any_book ?k_law_any_book ?a_law_can_stand ?l_law_can_stand ?e_law_can_stand ?k_law_can_stand ?a_law_number ?l_law_number ?e_law_number ?k_law_number ?a_law_turned ?l_law_turned ?e_law_turned ?k_law_turned ?a_law_safe_book ?l_law_safe_book ?e_law_safe_book ?k_law_safe_book ?a_law_is_calm ?l_law_is_calm ?e_law_is_calm ?k_law_is_calm ?a_law_calm_book ?l_law_calm_book ?e_law_calm_book ?k_law_calm_book ?a_law_rash ?l_law_rash ?e_law_rash ?k_law_rash ?a_law_heard ?l_law_heard ?e_law_heard ?k_law_heard ?a_law_compared ?l_law_compared ?e_law_compared ?k_law_compared ?a_law_is_right ?l_law_is_right ?e_law_is_right ?k_law_is_right ?a_law_is_pair_right ?l_law_is_pair_right ?e_law_is_pair_right ?k_law_is_pair_right ?a_law ?l_law ?e_law ?k_law ?z_abs ?z_int ?z_isinstance ?z_len ?z_list ?z_max ?z_range ?z_repr ?z_tuple ?g_CHANGE ?g_CHECK ?g_ENTER ?g_FURTHER ?g_OLD ?g_PERHAPS ?g_READERS ?g_STOP ?g_STRIKE ?g_SURE
      (case a_can_stand => k_is); (case l_can_stand => k_is); (case e_can_stand => k_is); (case k_can_stand => k_is)
      (case a_slip_alone => k_is); (case l_slip_alone => k_is); (case e_slip_alone => k_is); (case k_slip_alone => k_is)
      (case a_safe_alone => k_is); (case l_safe_alone => k_is); (case e_safe_alone => k_is); (case k_safe_alone => k_is)
      (case a_marks_nobody => k_is); (case l_marks_nobody => k_is); (case e_marks_nobody => k_is); (case k_marks_nobody => k_is)
      (case a_answers_mark => k_is); (case l_answers_mark => k_is); (case e_answers_mark => k_is); (case k_answers_mark => k_is)
      (case a_raises_no_direct_reader => k_is); (case l_raises_no_direct_reader => k_is); (case e_raises_no_direct_reader => k_is); (case k_raises_no_direct_reader => k_is)
      (case a_strikes_what_it_asks_for => k_is); (case l_strikes_what_it_asks_for => k_is); (case e_strikes_what_it_asks_for => k_is); (case k_strikes_what_it_asks_for => k_is)
      (case a_leaves_marks_below_clean => k_is); (case l_leaves_marks_below_clean => k_is); (case e_leaves_marks_below_clean => k_is); (case k_leaves_marks_below_clean => k_is)
      (case a_is_quiet => k_is); (case l_is_quiet => k_is); (case e_is_quiet => k_is); (case k_is_quiet => k_is)
      (case a_hasty => k_is); (case l_hasty => k_is); (case e_hasty => k_is); (case k_hasty => k_is)
      (case a_never_more => k_is); (case l_never_more => k_is); (case e_never_more => k_is); (case k_never_more => k_is)
      (case a_marks_of_situations => k_is); (case l_marks_of_situations => k_is); (case e_marks_of_situations => k_is); (case k_marks_of_situations => k_is)
      (case a_works_at => k_is); (case l_works_at => k_is); (case e_works_at => k_is); (case k_works_at => k_is)
      (case a_more_situation => k_is); (case l_more_situation => k_is); (case e_more_situation => k_is); (case k_more_situation => k_is)
      (case a_law_bag => k_is); (case l_law_bag => k_is); (case e_law_bag => k_is); (case k_law_bag => k_is)
      (case a_law_draw => k_is); (case l_law_draw => k_is); (case e_law_draw => k_is); (case k_law_draw => k_is)
      (case a_law_pick => k_is); (case l_law_pick => k_is); (case e_law_pick => k_is); (case k_law_pick => k_is)
      (case a_law_words => k_is); (case l_law_words => k_is); (case e_law_words => k_is); (case k_law_words => k_is)
      (case a_law_mark => k_is); (case l_law_mark => k_is); (case e_law_mark => k_is); (case k_law_mark => k_is)
      (case a_law_any_book => k_is); (case l_law_any_book => k_is); (case e_law_any_book => k_is); (case k_law_any_book => k_is)
      (case a_law_can_stand => k_is); (case l_law_can_stand => k_is); (case e_law_can_stand => k_is); (case k_law_can_stand => k_is)
      (case a_law_number => k_is); (case l_law_number => k_is); (case e_law_number => k_is); (case k_law_number => k_is)
      (case a_law_turned => k_is); (case l_law_turned => k_is); (case e_law_turned => k_is); (case k_law_turned => k_is)
      (case a_law_safe_book => k_is); (case l_law_safe_book => k_is); (case e_law_safe_book => k_is); (case k_law_safe_book => k_is)
      (case a_law_is_calm => k_is); (case l_law_is_calm => k_is); (case e_law_is_calm => k_is); (case k_law_is_calm => k_is)
      (case a_law_calm_book => k_is); (case l_law_calm_book => k_is); (case e_law_calm_book => k_is); (case k_law_calm_book => k_is)
      (case a_law_rash => k_is); (case l_law_rash => k_is); (case e_law_rash => k_is); (case k_law_rash => k_is)
      (case a_law_heard => k_is); (case l_law_heard => k_is); (case e_law_heard => k_is); (case k_law_heard => k_is)
      (case a_law_compared => k_is); (case l_law_compared => k_is); (case e_law_compared => k_is); (case k_law_compared => k_is)
      (case a_law_is_right => k_is); (case l_law_is_right => k_is); (case e_law_is_right => k_is); (case k_law_is_right => k_is)
      (case a_law_is_pair_right => k_is); (case l_law_is_pair_right => k_is); (case e_law_is_pair_right => k_is); (case k_law_is_pair_right => k_is)
      (case a_law => k_is); (case l_law => k_is); (case e_law => k_is); (case k_law => k_is)
      (case z_abs => k_is)
      (case z_int => k_is)
      (case z_isinstance => k_is)
      (case z_len => k_is)
      (case z_list => k_is)
      (case z_max => k_is)
      (case z_range => k_is)
      (case z_repr => k_is)
      (case z_tuple => k_is)
      (case g_CHANGE => k_is)
      (case g_CHECK => k_is)
      (case g_ENTER => k_is)
      (case g_FURTHER => k_is)
      (case g_OLD => k_is)
      (case g_PERHAPS => k_is)
      (case g_READERS => k_is)
      (case g_STOP => k_is)
      (case g_STRIKE => k_is)
      (case g_SURE => k_is)
    case X =>
      refine' Lt.xcf_mk KX G ?zx_x1 ?zx_x2 (Lt.oexS_mk ?zx_q ?zx_kC ?zx_exC ?zx_tyC ?zx_ve ?zx_slf ?zx_stat ?zx_sup ?zx_sg ?zx_top ?zx_i1 ?zx_i2 ?zx_i3 ?zx_i4 ?zx_i5 ?zx_i6 ?zx_i7 ?zx_i8 ?zx_i9 ?zx_i10 ?zx_i11 ?zx_i12 ?zx_i13 ?zx_i14 ?zx_i15 ?zx_i16 ?zx_i17) ?zx_xe ⟨?zx_c1, ?zx_c2, ?zx_c3, ?zx_c4, ?zx_c5, ?zx_c6, ?zx_c7, ?zx_c8⟩ ?zx_xk
      (case zx_x1 => k_is)
      (case zx_x2 => k_is)
      (case zx_q => first | kx_is | kernel_rfl)
      (case zx_kC => k_is)
      (case zx_exC => k_is)
      (case zx_tyC => k_is)
      (case zx_ve => k_is)
      (case zx_slf => k_is)
      (case zx_stat => k_is)
      (case zx_sup => ks_is)
      (case zx_sg => k_is)
      (case zx_top => first | rfl | decide +kernel)
      (case zx_i1 => k_is)
      (case zx_i2 => first | k_is | kernel_rfl)
      (case zx_i3 => k_is)
      (case zx_i4 => k_is)
      (case zx_i5 => exact fun s e => BindsTo.of_eq rfl)
      (case zx_i6 => rfl)
      (case zx_i7 => k_is)
      (case zx_i8 => rfl)
      (case zx_i9 => first | rfl | decide +kernel)
      (case zx_i10 => k_is)
      (case zx_i11 => k_is)
      (case zx_i12 => rfl)
      (case zx_i13 => rfl)
      (case zx_i14 => rfl)
      (case zx_i15 => decide +kernel)
      (case zx_i16 => exact fun env => rfl)
      (case zx_i17 => exact fun env => rfl)
      (case zx_xe => first | k_is | kernel_rfl)
      (case zx_c1 => k_is)
      (case zx_c2 => k_is)
      (case zx_c3 => k_is)
      (case zx_c4 => first | k_is | kernel_rfl)
      (case zx_c5 => k_is)
      (case zx_c6 => k_is)
      (case zx_c7 => k_is)
      (case zx_c8 => k_is)
      (case zx_xk => first | k_is | kernel_rfl)
    case zM =>
      refine' ⟨Lt.gdk_mk KX G ?zm_MARKS ?zl_MARKS ?zk_MARKS ?zb_MARKS⟩
      (case zm_MARKS => k_is); (case zl_MARKS => k_is); (case zk_MARKS => (repeat' (first | exact True.intro | exact ⟨_, _, rfl, rfl⟩ | refine ⟨?_, ?_⟩))); (case zb_MARKS => rfl)
