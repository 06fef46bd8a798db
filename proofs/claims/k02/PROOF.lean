import PyProof.Rows.All
import HandS.ForMost
import HandS.Deep
import HandS.TupMul
import HandS.TupAny
import HandS.IsInst
import HandS.Style
import HandS.Wide
import HandS.More
import HandS.Ends
import HandS.Words
import PySem.Challenge.RW_keptmarks_k02_whole_true_values_and_read
set_option Elab.async false
set_option linter.all false
set_option maxRecDepth 100000
/-! Lt1: plain values and stores, how they lie in the abstract heap; readings over them. -/
namespace Lt
open PySem PySem.Spec PyProof.Rows L2

/-- a plain value: tuples by value, lists and dicts by their number in the store -/
inductive PV where
  | non | bl (b : Bool) | int (i : Int) | str (x : Str) | tup (xs : List PV) | ref (n : Nat) | ty (n : String)
/-- what the store holds -/
inductive Cell where
  | lst (xs : List PV)
  | ro (xs : List PV)
  | dic (kvs : List (Key × PV))
abbrev Store := List Cell
abbrev PEnv := List (Option PV)
abbrev LSt := L2.St

section
variable (K : PySem.W.Frag) (ι : List Addr) (H : Hp)
mutual
inductive RV : PV → V → Prop
  | non : RV .non .non
  | bl (b : Bool) : RV (.bl b) (.bl b)
  | int (i : Int) : RV (.int i) (.int i)
  | str (x : Str) : RV (.str x) (.str x)
  | ty (n : String) : RV (.ty n) (.ty n)
  | tup {xs : List PV} {a : Addr} {us : List V} : SqT K H a us → RVs xs us → RV (.tup xs) (.ref a)
  | ref {n : Nat} {a : Addr} : ι[n]? = some a → RV (.ref n) (.ref a)
inductive RVs : List PV → List V → Prop
  | nil : RVs [] []
  | cons {x : PV} {v : V} {xs : List PV} {vs : List V} : RV x v → RVs xs vs → RVs (x :: xs) (v :: vs)
end
/-- a list that may only be read: locked, or of the module -/
def RoL (a : Addr) (us : List V) : Prop :=
  (∃ o, H a = some (.frz o (.lst us))) ∨
    ∃ (o : Obj) (its : Array Value) (n : Nat), K.lookup a = some o ∧ o.cls = .type "list" ∧ o.dict = none ∧ o.data = .seq its n ∧ its.size ≤ sizeLine ∧ Vals us its.toList
inductive RKs : List (Key × PV) → List (Key × V) → Prop
  | nil : RKs [] []
  | cons {k : Key} {x : PV} {v : V} {xs : List (Key × PV)} {vs : List (Key × V)} : RV K ι H x v → RKs xs vs → RKs ((k, x) :: xs) ((k, v) :: vs)
def CellOk (a : Addr) : Cell → Prop
  | .lst xs => ∃ us, H a = some (.lst us) ∧ RVs K ι H xs us
  | .ro xs => ∃ us, RoL K H a us ∧ RVs K ι H xs us
  | .dic kvs => ∃ us, H a = some (.dK us) ∧ RKs K ι H kvs us
def Cell.mut : Cell → Bool
  | .ro _ => false
  | _ => true
/-- the store as it lies in the heap -/
structure RS (S : Store) : Prop where
  len : ι.length = S.length
  at_ : ∀ (n : Nat) (c : Cell), S[n]? = some c → ∃ a, ι[n]? = some a ∧ CellOk K ι H a c
  inj : ∀ (n m : Nat) (c d : Cell) (a : Addr), S[n]? = some c → S[m]? = some d → c.mut = true → d.mut = true → ι[n]? = some a → ι[m]? = some a → n = m
/-- the frame's values -/
structure REnv (env : PEnv) (σ : LSt) : Prop where
  len : env.length = σ.length
  at_ : ∀ (i : Nat) (x : PV), env[i]? = some (some x) → ∃ v, σ[i]? = some (some v) ∧ RV K ι H x v
end

/-- what may have come since -/
structure Ext (ι ι' : List Addr) (H H' : Hp) : Prop where
  pre : ∀ (n : Nat) (a : Addr), ι[n]? = some a → ι'[n]? = some a
  tup : ∀ a us, Rd H a (.tup us) → Rd H' a (.tup us)
theorem Ext.refl {ι : List Addr} {H : Hp} : Ext ι ι H H := ⟨fun _ _ h => h, fun _ _ h => h⟩
theorem Ext.trans {ι1 ι2 ι3 : List Addr} {H1 H2 H3 : Hp} (a : Ext ι1 ι2 H1 H2) (b : Ext ι2 ι3 H2 H3) : Ext ι1 ι3 H1 H3 :=
  ⟨fun n x h => b.pre n x (a.pre n x h), fun x us h => b.tup x us (a.tup x us h)⟩

section
variable {K : PySem.W.Frag} {ι ι' : List Addr} {H H' : Hp}
theorem Ext.sqT (e : Ext ι ι' H H') {a : Addr} {us : List V} (h : SqT K H a us) : SqT K H' a us := by
  rcases h with h | h
  · exact .inl (e.tup a us h)
  · exact .inr h
mutual
theorem RV.mono (e : Ext ι ι' H H') : ∀ {x : PV} {v : V}, RV K ι H x v → RV K ι' H' x v
  | _, _, .non => .non
  | _, _, .bl b => .bl b
  | _, _, .int i => .int i
  | _, _, .str x => .str x
  | _, _, .ty n => .ty n
  | _, _, .tup s r => .tup (e.sqT s) (RVs.mono e r)
  | _, _, .ref h => .ref (e.pre _ _ h)
theorem RVs.mono (e : Ext ι ι' H H') : ∀ {xs : List PV} {vs : List V}, RVs K ι H xs vs → RVs K ι' H' xs vs
  | _, _, .nil => .nil
  | _, _, .cons r t => .cons (RV.mono e r) (RVs.mono e t)
end
theorem RKs.mono (e : Ext ι ι' H H') : ∀ {xs : List (Key × PV)} {vs : List (Key × V)}, RKs K ι H xs vs → RKs K ι' H' xs vs
  | _, _, .nil => .nil
  | _, _, .cons r t => .cons (r.mono e) (RKs.mono e t)
theorem REnv.mono (e : Ext ι ι' H H') {env : PEnv} {σ : LSt} (h : REnv K ι H env σ) : REnv K ι' H' env σ :=
  ⟨h.len, fun i x hx => let ⟨v, h1, h2⟩ := h.at_ i x hx; ⟨v, h1, h2.mono e⟩⟩

theorem RVs.length : ∀ {xs : List PV} {vs : List V}, RVs K ι H xs vs → xs.length = vs.length
  | _, _, .nil => rfl
  | _, _, .cons _ t => congrArg (· + 1) (RVs.length t)
theorem RVs.get : ∀ {xs : List PV} {vs : List V} {i : Nat} {x : PV}, RVs K ι H xs vs → xs[i]? = some x → ∃ v, vs[i]? = some v ∧ RV K ι H x v
  | _, _, _, _, .nil, e => by simp at e
  | _, _, 0, _, .cons r _, e => by simp at e; subst e; exact ⟨_, rfl, r⟩
  | _, _, i + 1, x, .cons _ t, e => by
    obtain ⟨v, h1, h2⟩ := RVs.get (i := i) (x := x) t (by simpa using e)
    exact ⟨v, by simpa using h1, h2⟩
theorem RVs.get' : ∀ {xs : List PV} {vs : List V} {i : Nat} {v : V}, RVs K ι H xs vs → vs[i]? = some v → ∃ x, xs[i]? = some x ∧ RV K ι H x v
  | _, _, _, _, .nil, e => by simp at e
  | _, _, 0, _, .cons r _, e => by simp at e; subst e; exact ⟨_, rfl, r⟩
  | _, _, i + 1, v, .cons _ t, e => by
    obtain ⟨x, h1, h2⟩ := RVs.get' (i := i) (v := v) t (by simpa using e)
    exact ⟨x, by simpa using h1, h2⟩
theorem RVs.append : ∀ {xs ys : List PV} {vs us : List V}, RVs K ι H xs vs → RVs K ι H ys us → RVs K ι H (xs ++ ys) (vs ++ us)
  | _, _, _, _, .nil, s => s
  | _, _, _, _, .cons r t, s => .cons r (RVs.append t s)
theorem RVs.take : ∀ {xs : List PV} {vs : List V} (n : Nat), RVs K ι H xs vs → RVs K ι H (xs.take n) (vs.take n)
  | _, _, 0, _ => .nil
  | _, _, _ + 1, .nil => .nil
  | _, _, n + 1, .cons r t => .cons r (RVs.take n t)
theorem RVs.drop : ∀ {xs : List PV} {vs : List V} (n : Nat), RVs K ι H xs vs → RVs K ι H (xs.drop n) (vs.drop n)
  | _, _, 0, r => r
  | _, _, _ + 1, .nil => .nil
  | _, _, n + 1, .cons _ t => RVs.drop n t
theorem RVs.set {x : PV} {v : V} (r : RV K ι H x v) : ∀ {xs : List PV} {vs : List V} (i : Nat), RVs K ι H xs vs → RVs K ι H (xs.set i x) (vs.set i v)
  | _, _, _, .nil => .nil
  | _, _, 0, .cons _ t => .cons r t
  | _, _, i + 1, .cons q t => .cons q (RVs.set r i t)
theorem RVs.eraseIdx : ∀ {xs : List PV} {vs : List V} (i : Nat), RVs K ι H xs vs → RVs K ι H (xs.eraseIdx i) (vs.eraseIdx i)
  | _, _, _, .nil => .nil
  | _, _, 0, .cons _ t => t
  | _, _, i + 1, .cons q t => .cons q (RVs.eraseIdx i t)
theorem RVs.snoc {xs : List PV} {vs : List V} {x : PV} {v : V} (h : RVs K ι H xs vs) (r : RV K ι H x v) : RVs K ι H (xs ++ [x]) (vs ++ [v]) := h.append (.cons r .nil)
theorem RVs.dropLast {xs : List PV} {vs : List V} (h : RVs K ι H xs vs) : RVs K ι H xs.dropLast vs.dropLast := by
  rw [List.dropLast_eq_take, List.dropLast_eq_take, h.length]
  exact h.take _
theorem RVs.rep {xs : List PV} {vs : List V} (h : RVs K ι H xs vs) : ∀ k : Nat, RVs K ι H (List.replicate k xs).flatten (List.replicate k vs).flatten
  | 0 => .nil
  | k + 1 => by
    rw [List.replicate_succ, List.replicate_succ, List.flatten_cons, List.flatten_cons]
    exact h.append (RVs.rep h k)

/-! ### a new object, a written object -/
theorem rd_new {p : Addr} {o : HO} (hp : H p = none) {a : Addr} {u : HO} (h : Rd H a u) : Rd (upd H p o) a u := by
  rcases h with h | ⟨ob, h⟩
  · exact .inl (by rw [upd_ne (ne_of_none h hp)]; exact h)
  · exact .inr ⟨ob, by rw [upd_ne (ne_of_none h hp)]; exact h⟩
theorem ext_new {p : Addr} {o : HO} {l : List Addr} (hp : H p = none) : Ext ι (ι ++ l) H (upd H p o) :=
  ⟨fun n a h => by rw [List.getElem?_append_left (List.getElem?_eq_some_iff.mp h).1]; exact h, fun a us h => rd_new hp h⟩
theorem RoL.new {p : Addr} {o : HO} (hp : H p = none) {a : Addr} {us : List V} (h : RoL K H a us) : RoL K (upd H p o) a us := by
  rcases h with ⟨ob, h⟩ | h
  · exact .inl ⟨ob, by rw [upd_ne (ne_of_none h hp)]; exact h⟩
  · exact .inr h
theorem CellOk.new {p : Addr} {o : HO} {l : List Addr} (hp : H p = none) {a : Addr} {c : Cell} (h : CellOk K ι H a c) : CellOk K (ι ++ l) (upd H p o) a c := by
  cases c with
  | lst xs => obtain ⟨us, h1, h2⟩ := h; exact ⟨us, by rw [upd_ne (ne_of_none h1 hp)]; exact h1, h2.mono (ext_new hp)⟩
  | ro xs => obtain ⟨us, h1, h2⟩ := h; exact ⟨us, h1.new hp, h2.mono (ext_new hp)⟩
  | dic xs => obtain ⟨us, h1, h2⟩ := h; exact ⟨us, by rw [upd_ne (ne_of_none h1 hp)]; exact h1, h2.mono (ext_new hp)⟩
theorem CellOk.tracked {a : Addr} {c : Cell} (h : CellOk K ι H a c) (m : c.mut = true) : ∃ o, H a = some o ∧ (∀ us, o ≠ .tup us) ∧ ∀ ob u, o ≠ .frz ob u := by
  cases c with
  | lst xs => obtain ⟨us, h1, _⟩ := h; exact ⟨_, h1, (fun _ z => by cases z), (fun _ _ z => by cases z)⟩
  | ro xs => cases m
  | dic xs => obtain ⟨us, h1, _⟩ := h; exact ⟨_, h1, (fun _ z => by cases z), (fun _ _ z => by cases z)⟩
/-- a tuple is laid: the store stays -/
theorem RS.tup {S : Store} {p : Addr} {o : HO} (h : RS K ι H S) (hp : H p = none) : RS K ι (upd H p o) S := by
  refine ⟨h.len, fun n c hc => ?_, h.inj⟩
  obtain ⟨a, h1, h2⟩ := h.at_ n c hc
  have := h2.new (o := o) (l := []) hp
  rw [List.append_nil] at this
  exact ⟨a, h1, this⟩
/-- a cell is laid -/
theorem RS.cell {S : Store} {p : Addr} {o : HO} {c : Cell} (h : RS K ι H S) (hp : H p = none) (hc : CellOk K (ι ++ [p]) (upd H p o) p c) : RS K (ι ++ [p]) (upd H p o) (S ++ [c]) := by
  refine ⟨by rw [List.length_append, List.length_append, h.len]; rfl, fun n d hd => ?_, fun n m c1 d1 a hn hm m1 m2 an am => ?_⟩
  · by_cases hl : n < S.length
    · rw [List.getElem?_append_left hl] at hd
      obtain ⟨a, h1, h2⟩ := h.at_ n d hd
      exact ⟨a, by rw [List.getElem?_append_left (by rw [h.len]; exact hl)]; exact h1, h2.new hp⟩
    · have e : n = S.length := by
        have := (List.getElem?_eq_some_iff.mp hd).1
        rw [List.length_append] at this
        simp at this
        omega
      subst e
      rw [List.getElem?_append_right (Nat.le_refl _), Nat.sub_self] at hd
      have : c = d := by simpa using hd
      subst this
      exact ⟨p, by rw [← h.len, List.getElem?_append_right (Nat.le_refl _), Nat.sub_self]; rfl, hc⟩
  · have key : ∀ (i : Nat) (e : Cell), (S ++ [c])[i]? = some e → e.mut = true → (ι ++ [p])[i]? = some a → (i < S.length ∧ S[i]? = some e ∧ ι[i]? = some a) ∨ (i = S.length ∧ a = p) := by
      intro i e he hm' ha
      by_cases hl : i < S.length
      · rw [List.getElem?_append_left hl] at he
        rw [List.getElem?_append_left (by rw [h.len]; exact hl)] at ha
        exact .inl ⟨hl, he, ha⟩
      · have e' : i = S.length := by
          have := (List.getElem?_eq_some_iff.mp he).1
          rw [List.length_append] at this
          simp at this
          omega
        subst e'
        rw [← h.len, List.getElem?_append_right (Nat.le_refl _), Nat.sub_self] at ha
        exact .inr ⟨rfl, by simpa using ha.symm⟩
    have clash : ∀ (i : Nat) (e : Cell), S[i]? = some e → e.mut = true → ι[i]? = some a → a ≠ p := by
      intro i e he hm' ha
      obtain ⟨a', h1, h2⟩ := h.at_ i e he
      rw [ha] at h1; cases h1
      obtain ⟨o', ho, _⟩ := h2.tracked hm'
      exact ne_of_none ho hp
    rcases key n c1 hn m1 an with ⟨_, q1, q2⟩ | ⟨q1, q2⟩
    · rcases key m d1 hm m2 am with ⟨_, r1, r2⟩ | ⟨r1, r2⟩
      · exact h.inj n m c1 d1 a q1 r1 m1 m2 q2 r2
      · exact absurd r2 (clash n c1 q1 m1 q2)
    · rcases key m d1 hm m2 am with ⟨_, r1, r2⟩ | ⟨r1, r2⟩
      · exact absurd q2 (clash m d1 r1 m2 r2)
      · rw [q1, r1]
/-- a written object is no tuple: values stay -/
theorem ext_upd {a : Addr} {o o' : HO} (ha : H a = some o) (h1 : ∀ us, o ≠ .tup us) (h2 : ∀ ob u, o ≠ .frz ob u) : Ext ι ι H (upd H a o') := by
  refine ⟨fun _ _ h => h, fun b us h => ?_⟩
  rcases h with h | ⟨ob, h⟩
  · exact .inl (by rw [upd_ne (fun z => by subst z; rw [ha] at h; exact h1 us (Option.some.inj h))]; exact h)
  · exact .inr ⟨ob, by rw [upd_ne (fun z => by subst z; rw [ha] at h; exact h2 _ _ (Option.some.inj h))]; exact h⟩
/-- the cell n is written -/
theorem RS.write {S : Store} {n : Nat} {a : Addr} {c c' : Cell} {o' : HO} (h : RS K ι H S) (hn : S[n]? = some c) (ha : ι[n]? = some a) (hm : c.mut = true) (hm' : c'.mut = true)
    (hc : Ext ι ι H (upd H a o') → CellOk K ι (upd H a o') a c') : RS K ι (upd H a o') (S.set n c') ∧ Ext ι ι H (upd H a o') := by
  obtain ⟨a', h1, h2⟩ := h.at_ n c hn
  rw [ha] at h1; cases h1
  obtain ⟨o, ho, ht, hf⟩ := h2.tracked hm
  have E : Ext ι ι H (upd H a o') := ext_upd ho ht hf
  have hnl : n < S.length := (List.getElem?_eq_some_iff.mp hn).1
  refine ⟨⟨by rw [List.length_set]; exact h.len, fun m d hd => ?_, fun m1 m2 d1 d2 b e1 e2 q1 q2 b1 b2 => ?_⟩, E⟩
  · by_cases hmn : m = n
    · subst hmn
      rw [List.getElem?_set_self hnl] at hd
      cases hd
      exact ⟨a, ha, hc E⟩
    · rw [List.getElem?_set_ne (Ne.symm hmn)] at hd
      obtain ⟨b, b1, b2⟩ := h.at_ m d hd
      refine ⟨b, b1, ?_⟩
      have neb : d.mut = true → b ≠ a := fun dm z => by
        subst z
        exact hmn (h.inj m n d c b hd hn dm hm b1 ha)
      cases d with
      | lst xs => obtain ⟨us, u1, u2⟩ := b2; exact ⟨us, by rw [upd_ne (neb rfl)]; exact u1, u2.mono E⟩
      | dic xs => obtain ⟨us, u1, u2⟩ := b2; exact ⟨us, by rw [upd_ne (neb rfl)]; exact u1, u2.mono E⟩
      | ro xs =>
        obtain ⟨us, u1, u2⟩ := b2
        refine ⟨us, ?_, u2.mono E⟩
        rcases u1 with ⟨ob, u1⟩ | u1
        · exact .inl ⟨ob, by rw [upd_ne (fun z => by subst z; rw [ho] at u1; exact hf _ _ (Option.some.inj u1))]; exact u1⟩
        · exact .inr u1
  · have kind : ∀ (m : Nat) (d : Cell), (S.set n c')[m]? = some d → d.mut = true → ∃ d', S[m]? = some d' ∧ d'.mut = true := fun m d e q => by
      by_cases hmn : m = n
      · subst hmn; exact ⟨c, hn, hm⟩
      · rw [List.getElem?_set_ne (Ne.symm hmn)] at e
        exact ⟨d, e, q⟩
    obtain ⟨d1', f1, g1⟩ := kind m1 d1 e1 q1
    obtain ⟨d2', f2, g2⟩ := kind m2 d2 e2 q2
    exact h.inj m1 m2 d1' d2' b f1 f2 g1 g2 b1 b2
/-- a list of the store, to be read -/
def Cell.items : Cell → Option (List PV)
  | .lst xs => some xs
  | .ro xs => some xs
  | .dic _ => none
theorem RS.seq {S : Store} {n : Nat} {c : Cell} {xs : List PV} (h : RS K ι H S) (hn : S[n]? = some c) (hx : c.items = some xs) : ∃ a us, ι[n]? = some a ∧ SqL K H a us ∧ RVs K ι H xs us := by
  obtain ⟨a, h1, h2⟩ := h.at_ n c hn
  cases c with
  | lst ys => cases hx; obtain ⟨us, u1, u2⟩ := h2; exact ⟨a, us, h1, SqL.of u1, u2⟩
  | ro ys =>
    cases hx
    obtain ⟨us, u1, u2⟩ := h2
    refine ⟨a, us, h1, ?_, u2⟩
    rcases u1 with ⟨ob, u1⟩ | u1
    · exact .inl (.inr ⟨ob, u1⟩)
    · exact .inr u1
  | dic ys => cases hx
theorem RS.lst {S : Store} {n : Nat} {xs : List PV} (h : RS K ι H S) (hn : S[n]? = some (.lst xs)) : ∃ a us, ι[n]? = some a ∧ H a = some (.lst us) ∧ RVs K ι H xs us := by
  obtain ⟨a, h1, us, u1, u2⟩ := h.at_ n _ hn
  exact ⟨a, us, h1, u1, u2⟩
theorem RS.dic {S : Store} {n : Nat} {xs : List (Key × PV)} (h : RS K ι H S) (hn : S[n]? = some (.dic xs)) : ∃ a us, ι[n]? = some a ∧ H a = some (.dK us) ∧ RKs K ι H xs us := by
  obtain ⟨a, h1, us, u1, u2⟩ := h.at_ n _ hn
  exact ⟨a, us, h1, u1, u2⟩
end

/-! ### readings -/
abbrev PQ := PV → Store → Prop
abbrev W := PEnv → Store → PQ → Prop
/-- what is wanted of a plain end -/
def Fin (K : PySem.W.Frag) (ι : List Addr) (H : Hp) (Q : VK) (x : PV) (S' : Store) : Prop := ∀ ι' H' v, Ext ι ι' H H' → RS K ι' H' S' → RV K ι' H' x v → Q v H'
theorem Fin.ext {K : PySem.W.Frag} {ι ι1 : List Addr} {H H1 : Hp} {Q : VK} {x : PV} {S' : Store} (e : Ext ι ι1 H H1) (h : Fin K ι H Q x S') : Fin K ι1 H1 Q x S' := fun ι' H' v e' => h ι' H' v (e.trans e')
/-- the reading of a plain one -/
def tW (K : PySem.W.Frag) (w : W) : TE := fun σ H Q => ∃ ι env S, ∃ P : PQ, REnv K ι H env σ ∧ RS K ι H S ∧ w env S P ∧ ∀ x S', P x S' → Fin K ι H Q x S'
structure RE (X : Cx) (e : Expr) (w : W) : Prop where
  pe : PE X e (tW X.K w)
theorem PE.weak {X : Cx} {e : Expr} {t t' : TE} (h : PE X e t) (i : ∀ σ H Q, t' σ H Q → t σ H Q) : PE X e t' := ⟨fun pins s σ H Q I q => h.run pins s σ H Q I (i σ H Q q)⟩
/-- a plain thing goes on with a value -/
def tK (K : PySem.W.Frag) (k : PV → W) (v : V) : LSt → Hp → VK → Prop := fun σ H Q => ∃ ι env S x, ∃ P : PQ, REnv K ι H env σ ∧ RS K ι H S ∧ RV K ι H x v ∧ k x env S P ∧ ∀ x S', P x S' → Fin K ι H Q x S'
def tK2 (K : PySem.W.Frag) (k : PV → PV → W) (v u : V) : LSt → Hp → VK → Prop := fun σ H Q => ∃ ι env S x y, ∃ P : PQ, REnv K ι H env σ ∧ RS K ι H S ∧ RV K ι H x v ∧ RV K ι H y u ∧ k x y env S P ∧ ∀ x S', P x S' → Fin K ι H Q x S'
section
variable {K : PySem.W.Frag} {σ : LSt} {H : Hp} {Q : VK}
theorem tW_bind {wa : W} {k : PV → W} (h : tW K (fun env S P => wa env S fun x S1 => k x env S1 P) σ H Q) : tW K wa σ H fun v H1 => tK K k v σ H1 Q := by
  obtain ⟨ι, env, S, P, re, rs, hw, hP⟩ := h
  exact ⟨ι, env, S, _, re, rs, hw, fun x S1 hk ι1 H1 v e1 rs1 rx => ⟨ι1, env, S1, x, P, re.mono e1, rs1, rx, hk, fun y S' hy => (hP y S' hy).ext e1⟩⟩
theorem tK_bind {wb : W} {v : V} {k : PV → PV → W} (h : tK K (fun x env S P => wb env S fun y S1 => k x y env S1 P) v σ H Q) : tW K wb σ H fun u H1 => tK2 K k v u σ H1 Q := by
  obtain ⟨ι, env, S, x, P, re, rs, rx, hw, hP⟩ := h
  exact ⟨ι, env, S, _, re, rs, hw, fun y S1 hk ι1 H1 u e1 rs1 ry => ⟨ι1, env, S1, x, y, P, re.mono e1, rs1, rx.mono e1, ry, hk, fun z S' hz => (hP z S' hz).ext e1⟩⟩
end
/-- a reckoned end -/
def opt (r : Option (PV × Store)) (Q : PQ) : Prop := match r with
  | some (x, S) => Q x S
  | none => False
end Lt
set_option Elab.async false
set_option linter.all false
set_option maxRecDepth 100000
/-! Lt2: expressions. -/
namespace Lt
open PySem PySem.Spec PyProof.Rows L2

section
variable {K : PySem.W.Frag} {σ : LSt} {H : Hp} {Q : VK}
theorem tW_imp {w : W} {Q' : VK} (h : tW K w σ H Q) (i : ∀ v H1, Q v H1 → Q' v H1) : tW K w σ H Q' := by
  obtain ⟨ι, env, S, P, re, rs, hw, hP⟩ := h
  exact ⟨ι, env, S, P, re, rs, hw, fun x S' hx ι' H' v e r q => i v H' (hP x S' hx ι' H' v e r q)⟩
end

/-! ### argument lists -/
abbrev WA := PEnv → Store → (List PV → Store → Prop) → Prop
def FinA (K : PySem.W.Frag) (ι : List Addr) (H : Hp) (Q : List V → Hp → Prop) (xs : List PV) (S' : Store) : Prop := ∀ ι' H' vs, Ext ι ι' H H' → RS K ι' H' S' → RVs K ι' H' xs vs → Q vs H'
theorem FinA.ext {K : PySem.W.Frag} {ι ι1 : List Addr} {H H1 : Hp} {Q : List V → Hp → Prop} {xs : List PV} {S' : Store} (e : Ext ι ι1 H H1) (h : FinA K ι H Q xs S') : FinA K ι1 H1 Q xs S' := fun ι' H' vs e' => h ι' H' vs (e.trans e')
def tWA (K : PySem.W.Frag) (w : WA) : TA := fun σ H Q => ∃ ι env S, ∃ P : List PV → Store → Prop, REnv K ι H env σ ∧ RS K ι H S ∧ w env S P ∧ ∀ xs S', P xs S' → FinA K ι H Q xs S'
structure RA (X : Cx) (es : List Expr) (w : WA) : Prop where
  pa : PA X es (tWA X.K w)
theorem PA.weak {X : Cx} {es : List Expr} {t t' : TA} (h : PA X es t) (i : ∀ σ H Q, t' σ H Q → t σ H Q) : PA X es t' := ⟨fun pos pins s σ H Q I q => h.run pos pins s σ H Q I (i σ H Q q)⟩
def wNil : WA := fun _ S P => P [] S
def wCons (w : W) (r : WA) : WA := fun env S P => w env S fun x S1 => r env S1 fun xs S2 => P (x :: xs) S2
theorem ra_nil {X : Cx} : RA X [] wNil := ⟨PA.weak pa_nil fun σ H Q ⟨ι, env, S, P, re, rs, hw, hP⟩ => hP [] S hw ι H [] .refl rs .nil⟩
theorem ra_cons {X : Cx} {e : Expr} {es : List Expr} {w : W} {r : WA} (h : RE X e w) (hr : RA X es r) (hs : starEach (e :: es) X.env = (false, eval e X.env) :: starEach es X.env := by rfl) : RA X (e :: es) (wCons w r) := by
  refine ⟨PA.weak (pa_cons h.pe hr.pa hs) fun σ H Q ⟨ι, env, S, P, re, rs, hw, hP⟩ => ?_⟩
  refine ⟨ι, env, S, _, re, rs, hw, fun x S1 hk ι1 H1 v e1 rs1 rx => ⟨ι1, env, S1, _, re.mono e1, rs1, hk, fun xs S2 hx ι2 H2 vs e2 rs2 rxs => ?_⟩⟩
  exact hP _ _ hx ι2 H2 _ (e1.trans e2) rs2 (.cons (rx.mono e2) rxs)

/-! ### names, constants -/
def wVar (i : Nat) : W := fun env S P => match env[i]? with
  | some (some x) => P x S
  | _ => False
theorem re_var {X : Cx} (i : Nat) {x : Str} {pos : Pos} (hN : X.N[i]? = some x := by rfl) (hv : Vis X.env.scope x := by first | exact Or.inl rfl | exact Or.inr (Or.inl rfl) | exact Or.inr (Or.inr rfl))
    (hd : (x == ("__debug__" : Str)) = false := by decide) (hcd : (x == ("__classdict__" : Str)) = false := by decide) : RE X (.Name x pos) (wVar i) := by
  refine ⟨PE.weak (pe_var hN hv hd hcd) fun σ H Q ⟨ι, env, S, P, re, rs, hw, hP⟩ => ?_⟩
  unfold wVar at hw
  split at hw
  · rename_i x hx
    obtain ⟨v, h1, h2⟩ := re.at_ i x hx
    exact ⟨v, h1, hP _ _ hw ι H v .refl rs h2⟩
  · exact hw.elim
def wC (x : PV) : W := fun _ S P => P x S
theorem re_c {X : Cx} {e : Expr} {x : PV} {v : V} (h : PE X e (tC v)) (r : ∀ ι H, RV X.K ι H x v) : RE X e (wC x) :=
  ⟨PE.weak h fun σ H Q ⟨ι, env, S, P, re, rs, hw, hP⟩ => hP _ _ hw ι H v .refl rs (r ι H)⟩
theorem re_int {X : Cx} {i j pos} : RE X (.Constant (.int i) j pos) (wC (.int i)) := re_c pe_int fun _ _ => .int i
theorem re_bl {X : Cx} {b j pos} : RE X (.Constant (.bool b) j pos) (wC (.bl b)) := re_c pe_bl fun _ _ => .bl b
theorem re_non {X : Cx} {j pos} : RE X (.Constant .none j pos) (wC .non) := re_c pe_non fun _ _ => .non
theorem re_str {X : Cx} {x j pos} : RE X (.Constant (.str x) j pos) (wC (.str x)) := re_c pe_str fun _ _ => .str x
/-- a module's value that never changes -/
structure GC (X : Cx) (x : Str) (c : PV) : Prop where
  ex : ∃ u v, X.mg x = some u ∧ RelV v u ∧ ∀ ι H, RV X.K ι H c v
theorem re_glob {X : Cx} {x : Str} {pos : Pos} {c : PV} (g : GC X x c) (hg : Gl X x) (hd : (x == ("__debug__" : Str)) = false := by decide) : RE X (.Name x pos) (wC c) := by
  obtain ⟨u, v, h1, h2, h3⟩ := g.ex
  exact re_c (pe_glob hg h1 h2 hd) h3

/-! ### operations by values -/
abbrev F2 := PV → PV → Store → Option (PV × Store)
def rOp (K : PySem.W.Frag) (f : F2) : R2 := fun u v H Q => ∃ ι S x y, ∃ P : PQ, RS K ι H S ∧ RV K ι H x u ∧ RV K ι H y v ∧ opt (f x y S) P ∧ ∀ z S', P z S' → Fin K ι H Q z S'
def wOp (f : F2) (wa wb : W) : W := fun env S P => wa env S fun x S1 => wb env S1 fun y S2 => opt (f x y S2) P
theorem tOp_of {K : PySem.W.Frag} {f : F2} {wa wb : W} {σ : LSt} {H : Hp} {Q : VK} (h : tW K (wOp f wa wb) σ H Q) : tOp (rOp K f) (tW K wa) (tW K wb) σ H Q := by
  refine tW_imp (tW_bind (k := fun x env S P => wb env S fun y S2 => opt (f x y S2) P) h) fun v H1 h1 => ?_
  refine tW_imp (tK_bind (k := fun x y env S P => opt (f x y S) P) h1) fun u H2 h2 => ?_
  obtain ⟨ι, env, S, x, y, P, re, rs, rx, ry, hw, hP⟩ := h2
  exact ⟨ι, S, x, y, P, rs, rx, ry, hw, hP⟩
section
variable {X : Cx} {a b c e : Expr} {wa wb wc : W} {pos : Pos}
theorem re_bin {op : Operator} {f : F2} (ho : OpR X (binaryOp op) (rOp X.K f)) (ha : RE X a wa) (hb : RE X b wb) : RE X (.BinOp a op b pos) (wOp f wa wb) :=
  ⟨PE.weak (pe_op ho ha.pe hb.pe) fun _ _ _ h => tOp_of h⟩
theorem re_cmp {op : CmpOp} {f : F2} (ho : OpR X (compareOp op) (rOp X.K f)) (ha : RE X a wa) (hb : RE X b wb) (hm : behindInMarks op b = false) : RE X (.Compare a [op] [b] pos) (wOp f wa wb) :=
  ⟨PE.weak (pe_cmpR ho ha.pe hb.pe hm) fun _ _ _ h => tOp_of h⟩
end

def cut (n : Nat) (r : PV × Store) : Option (PV × Store) := if n ≤ sizeLine then some r else none
def fAdd : F2
  | .int i, .int j, S => some (.int (i + j), S)
  | .str x, .str y, S => cut (x.length + y.length) (.str (x ++ y), S)
  | .tup xs, .tup ys, S => cut (xs.length + ys.length) (.tup (xs ++ ys), S)
  | .ref n, .ref m, S => match S[n]?, S[m]? with
    | some (.lst xs), some (.lst ys) => cut (xs.length + ys.length) (.ref S.length, S ++ [.lst (xs ++ ys)])
    | _, _ => none
  | _, _, _ => none
theorem opt_cut {n : Nat} {r : PV × Store} {P : PQ} (h : opt (cut n r) P) : n ≤ sizeLine ∧ P r.1 r.2 := by
  unfold cut at h
  split at h
  · rename_i hn; exact ⟨hn, h⟩
  · exact h.elim
theorem ref_of {K : PySem.W.Frag} {ι : List Addr} {H : Hp} {n : Nat} {v : V} (r : RV K ι H (.ref n) v) : ∃ a, v = .ref a ∧ ι[n]? = some a := by
  cases r with
  | ref h => exact ⟨_, rfl, h⟩
theorem tup_of {K : PySem.W.Frag} {ι : List Addr} {H : Hp} {xs : List PV} {v : V} (r : RV K ι H (.tup xs) v) : ∃ a us, v = .ref a ∧ SqT K H a us ∧ RVs K ι H xs us := by
  cases r with
  | tup s q => exact ⟨_, _, rfl, s, q⟩
theorem int_of {K : PySem.W.Frag} {ι : List Addr} {H : Hp} {i : Int} {v : V} (r : RV K ι H (.int i) v) : v = .int i := by cases r; rfl
theorem str_of {K : PySem.W.Frag} {ι : List Addr} {H : Hp} {i : Str} {v : V} (r : RV K ι H (.str i) v) : v = .str i := by cases r; rfl
theorem bl_of {K : PySem.W.Frag} {ι : List Addr} {H : Hp} {i : Bool} {v : V} (r : RV K ι H (.bl i) v) : v = .bl i := by cases r; rfl
theorem non_of {K : PySem.W.Frag} {ι : List Addr} {H : Hp} {v : V} (r : RV K ι H .non v) : v = .non := by cases r; rfl
theorem ty_of {K : PySem.W.Frag} {ι : List Addr} {H : Hp} {t : String} {v : V} (r : RV K ι H (.ty t) v) : v = .ty t := by cases r; rfl
theorem at_lst {K : PySem.W.Frag} {ι : List Addr} {H : Hp} {S : Store} {n : Nat} {a : Addr} {xs : List PV} (rs : RS K ι H S) (hn : S[n]? = some (.lst xs)) (ha : ι[n]? = some a) : ∃ us, H a = some (.lst us) ∧ RVs K ι H xs us := by
  obtain ⟨a', us, h1, h2, h3⟩ := rs.lst hn
  rw [ha] at h1; cases h1
  exact ⟨us, h2, h3⟩
theorem at_dic {K : PySem.W.Frag} {ι : List Addr} {H : Hp} {S : Store} {n : Nat} {a : Addr} {xs : List (Key × PV)} (rs : RS K ι H S) (hn : S[n]? = some (.dic xs)) (ha : ι[n]? = some a) : ∃ us, H a = some (.dK us) ∧ RKs K ι H xs us := by
  obtain ⟨a', us, h1, h2, h3⟩ := rs.dic hn
  rw [ha] at h1; cases h1
  exact ⟨us, h2, h3⟩
theorem at_seq {K : PySem.W.Frag} {ι : List Addr} {H : Hp} {S : Store} {n : Nat} {a : Addr} {c : Cell} {xs : List PV} (rs : RS K ι H S) (hn : S[n]? = some c) (hx : c.items = some xs) (ha : ι[n]? = some a) : ∃ us, SqL K H a us ∧ RVs K ι H xs us := by
  obtain ⟨a', us, h1, h2, h3⟩ := rs.seq hn hx
  rw [ha] at h1; cases h1
  exact ⟨us, h2, h3⟩
/-- a new list's end -/
theorem new_lst {K : PySem.W.Frag} {ι : List Addr} {H : Hp} {S : Store} {Q : VK} {P : PQ} {xs : List PV} {us : List V} (rs : RS K ι H S) (r : RVs K ι H xs us) (hP : ∀ z S', P z S' → Fin K ι H Q z S')
    (h : P (.ref S.length) (S ++ [.lst xs])) (p : Addr) (hp : H p = none) : Q (.ref p) (upd H p (.lst us)) := by
  refine hP _ _ h (ι ++ [p]) _ _ (ext_new hp) (rs.cell hp ⟨us, upd_same, r.mono (ext_new hp)⟩) (.ref ?_)
  rw [← rs.len, List.getElem?_append_right (Nat.le_refl _), Nat.sub_self]; rfl
theorem new_tup {K : PySem.W.Frag} {ι : List Addr} {H : Hp} {S : Store} {Q : VK} {P : PQ} {xs : List PV} {us : List V} (rs : RS K ι H S) (r : RVs K ι H xs us) (hP : ∀ z S', P z S' → Fin K ι H Q z S')
    (h : P (.tup xs) S) (p : Addr) (hp : H p = none) : Q (.ref p) (upd H p (.tup us)) := by
  have E : Ext ι ι H (upd H p (.tup us)) := by have := ext_new (ι := ι) (o := .tup us) (l := []) hp; rwa [List.append_nil] at this
  exact hP _ _ h ι _ _ E (rs.tup hp) (.tup (SqT.of upd_same) (r.mono E))
theorem op_fAdd {X : Cx} : OpR X (binaryOp .Add) (rOp X.K fAdd) := by
  intro pins s σ H u v uu vv Q I ru rv ⟨ι, S, x, y, P, rs, rx, ry, hf, hP⟩
  unfold fAdd at hf
  split at hf
  · cases int_of rx; cases int_of ry
    exact L2.op_add pins s σ H _ _ _ _ Q I ru rv ⟨_, _, rfl, rfl, hP _ _ hf ι H _ .refl rs (.int _)⟩
  · cases str_of rx; cases str_of ry
    obtain ⟨hn, h⟩ := opt_cut hf
    exact op_add_str pins s σ H _ _ _ _ Q I ru rv ⟨_, _, rfl, rfl, hn, hP _ _ h ι H _ .refl rs (.str _)⟩
  · obtain ⟨a, us, rfl, sa, qa⟩ := tup_of rx
    obtain ⟨b, ws, rfl, sb, qb⟩ := tup_of ry
    obtain ⟨hn, h⟩ := opt_cut hf
    refine op_catA pins s σ H _ _ _ _ Q I ru rv ⟨a, b, us, ws, rfl, rfl, sa, sb, by rw [← qa.length, ← qb.length]; exact hn, fun z => ?_, fun z1 z2 => ?_, fun _ _ => new_tup rs (qa.append qb) hP h⟩
    · subst z
      cases qa
      exact hP _ _ h ι H _ .refl rs (.tup sb qb)
    · subst z2
      cases qb
      simp only [List.append_nil] at h
      exact hP _ _ h ι H _ .refl rs (.tup sa qa)
  · obtain ⟨a, rfl, ha⟩ := ref_of rx
    obtain ⟨b, rfl, hb⟩ := ref_of ry
    split at hf
    · rename_i h1 h2
      obtain ⟨us, hu, qu⟩ := at_lst rs h1 ha
      obtain ⟨ws, hw, qw⟩ := at_lst rs h2 hb
      obtain ⟨hn, h⟩ := opt_cut hf
      refine op_cat pins s σ H _ _ _ _ Q I ru rv ⟨a, b, us, ws, rfl, rfl, hu, hw, by rw [← qu.length, ← qw.length]; exact hn, new_lst rs (qu.append qw) hP h⟩
    · exact hf.elim
  · exact hf.elim

/-! ### numbers -/
def fI (g : Int → Int → Option PV) : F2
  | .int i, .int j, S => (g i j).map fun v => (v, S)
  | _, _, _ => none
theorem opt_map {o : Option PV} {S : Store} {P : PQ} (h : opt (o.map fun v => (v, S)) P) : ∃ v, o = some v ∧ P v S := by
  cases o with
  | none => exact h.elim
  | some v => exact ⟨v, rfl, h⟩
theorem fI_of {K : PySem.W.Frag} {g : Int → Int → Option PV} {u v : V} {H : Hp} {Q : VK} (h : rOp K (fI g) u v H Q) : ∃ i j z, u = .int i ∧ v = .int j ∧ g i j = some z ∧ ∀ w, (∀ ι, RV K ι H z w) → Q w H := by
  obtain ⟨ι, S, x, y, P, rs, rx, ry, hf, hP⟩ := h
  unfold fI at hf
  split at hf
  · obtain ⟨z, hz, hp⟩ := opt_map hf
    exact ⟨_, _, z, int_of rx, int_of ry, hz, fun w hw => hP _ _ hp ι H w .refl rs (hw ι)⟩
  · exact hf.elim
section
variable {X : Cx}
def gSub : Int → Int → Option PV := fun i j => some (.int (i - j))
def gMul : Int → Int → Option PV := fun i j => if (-(2 ^ 64) < i ∧ i < 2 ^ 64) ∨ (-(2 ^ 64) < j ∧ j < 2 ^ 64) then some (.int (i * j)) else none
def gDiv : Int → Int → Option PV := fun i j => if 0 < j ∧ j < 1073741824 then some (.int (i / j)) else none
def gMod : Int → Int → Option PV := fun i j => if 0 < j then some (.int (i % j)) else none
def gPow : Int → Int → Option PV := fun i j => if 0 ≤ j ∧ j ≤ 1000000 ∧ i.natAbs < 2 ^ 64 then some (.int (i ^ j.toNat)) else none
def gB (p : Int → Int → Bool) : Int → Int → Option PV := fun i j => some (.bl (p i j))
theorem ite_some' {α : Type} {c : Prop} [Decidable c] {x z : α} (h : (if c then some x else none) = some z) : c ∧ x = z := by
  split at h
  · rename_i hc; exact ⟨hc, Option.some.inj h⟩
  · cases h
theorem op_fSub : OpR X (binaryOp .Sub) (rOp X.K (fI gSub)) := by
  intro pins s σ H u v uu vv Q I ru rv h
  obtain ⟨i, j, z, rfl, rfl, e, q⟩ := fI_of h
  cases e
  exact L2.op_sub pins s σ H _ _ _ _ Q I ru rv ⟨_, _, rfl, rfl, q _ fun _ => .int _⟩
theorem op_fMul : OpR X (binaryOp .Mult) (rOp X.K (fI gMul)) := by
  intro pins s σ H u v uu vv Q I ru rv h
  obtain ⟨i, j, z, rfl, rfl, e, q⟩ := fI_of h
  obtain ⟨c, rfl⟩ := ite_some' e
  exact L2.op_mul pins s σ H _ _ _ _ Q I ru rv ⟨_, _, rfl, rfl, c, q _ fun _ => .int _⟩
theorem op_fDiv : OpR X (binaryOp .FloorDiv) (rOp X.K (fI gDiv)) := by
  intro pins s σ H u v uu vv Q I ru rv h
  obtain ⟨i, j, z, rfl, rfl, e, q⟩ := fI_of h
  obtain ⟨c, rfl⟩ := ite_some' e
  exact L2.op_fdiv pins s σ H _ _ _ _ Q I ru rv ⟨_, _, rfl, rfl, c, q _ fun _ => .int _⟩
theorem op_fMod : OpR X (binaryOp .Mod) (rOp X.K (fI gMod)) := by
  intro pins s σ H u v uu vv Q I ru rv h
  obtain ⟨i, j, z, rfl, rfl, e, q⟩ := fI_of h
  obtain ⟨c, rfl⟩ := ite_some' e
  exact L2.op_mod pins s σ H _ _ _ _ Q I ru rv ⟨_, _, rfl, rfl, c, q _ fun _ => .int _⟩
theorem op_fPow : OpR X (binaryOp .Pow) (rOp X.K (fI gPow)) := by
  intro pins s σ H u v uu vv Q I ru rv h
  obtain ⟨i, j, z, rfl, rfl, e, q⟩ := fI_of h
  obtain ⟨c, rfl⟩ := ite_some' e
  exact L2.op_pow pins s σ H _ _ _ _ Q I ru rv ⟨_, _, rfl, rfl, c, q _ fun _ => .int _⟩
theorem op_fB {op : CmpOp} {p : Int → Int → Bool} (ho : OpR X (compareOp op) (rI0 fun i j => .bl (p i j))) : OpR X (compareOp op) (rOp X.K (fI (gB p))) := by
  intro pins s σ H u v uu vv Q I ru rv h
  obtain ⟨i, j, z, rfl, rfl, e, q⟩ := fI_of h
  cases e
  exact ho pins s σ H _ _ _ _ Q I ru rv ⟨_, _, rfl, rfl, q _ fun _ => .bl _⟩
abbrev fLt : F2 := fI (gB fun i j => decide (i < j))
abbrev fLe : F2 := fI (gB fun i j => decide (i ≤ j))
abbrev fGt : F2 := fI (gB fun i j => decide (j < i))
abbrev fGe : F2 := fI (gB fun i j => decide (j ≤ i))
theorem op_fLt : OpR X (compareOp .Lt) (rOp X.K fLt) := op_fB L2.op_lt
theorem op_fLe : OpR X (compareOp .LtE) (rOp X.K fLe) := op_fB L2.op_le
theorem op_fGt : OpR X (compareOp .Gt) (rOp X.K fGt) := op_fB L2.op_gt
theorem op_fGe : OpR X (compareOp .GtE) (rOp X.K fGe) := op_fB L2.op_ge
end

/-! ### data -/
def optAll {α β : Type} (f : α → Option β) : List α → Option (List β)
  | [] => some []
  | x :: xs => match f x, optAll f xs with
    | some y, some ys => some (y :: ys)
    | _, _ => none
def keyD : Key → PyData
  | .inl i => .int i
  | .inr x => .str x
/-- the data that a value is, to a depth -/
def toD : Nat → Store → PV → Option PyData
  | 0, _, _ => none
  | n + 1, S, v => match v with
    | .non => some .none
    | .bl b => some (.bool b)
    | .int i => some (.int i)
    | .str x => some (.str x)
    | .tup xs => (optAll (toD n S) xs).map .tuple
    | .ref m => match S[m]? with
      | some (.lst xs) => (optAll (toD n S) xs).map .list
      | some (.ro xs) => (optAll (toD n S) xs).map .list
      | some (.dic kvs) => (optAll (fun kv => (toD n S kv.2).map fun d => (keyD kv.1, d)) kvs).map .dict
      | none => none
    | .ty _ => none
theorem optAll_cons {α β : Type} {f : α → Option β} {x : α} {xs : List α} {zs : List β} (h : optAll f (x :: xs) = some zs) : ∃ y ys, f x = some y ∧ optAll f xs = some ys ∧ zs = y :: ys := by
  unfold optAll at h
  split at h
  · rename_i y ys h1 h2
    exact ⟨y, ys, h1, h2, (Option.some.inj h).symm⟩
  · cases h
section
variable {K : PySem.W.Frag} {ι : List Addr} {H : Hp} {S : Store}
theorem dp_all {f : PV → Option PyData} (hf : ∀ x v d, f x = some d → RV K ι H x v → Dp K H v d) : ∀ {xs : List PV} {us : List V} {ds : List PyData}, optAll f xs = some ds → RVs K ι H xs us → DpAll K H us ds
  | [], _, ds, h, .nil => by cases h; exact .nil
  | x :: xs, _, ds, h, .cons r t => by
    obtain ⟨y, ys, h1, h2, rfl⟩ := optAll_cons h
    exact .cons (hf x _ y h1 r) (dp_all hf h2 t)
/-- data without dicts -/
theorem dp_of (rs : RS K ι H S) : ∀ (n : Nat) (x : PV) (v : V) (d : PyData), toD n S x = some d → d.hasDict = false → RV K ι H x v → Dp K H v d
  | 0, _, _, _, h, _, _ => by cases h
  | n + 1, x, v, d, h, hd, r => by
    have go : ∀ {xs : List PV} {us : List V} {ds : List PyData}, optAll (toD n S) xs = some ds → PyData.hasDictAll ds = false → RVs K ι H xs us → DpAll K H us ds := by
      intro xs
      induction xs with
      | nil => intro us ds h _ r; cases r; cases h; exact .nil
      | cons x xs ih =>
        intro us ds h hd r
        obtain ⟨y, ys, h1, h2, rfl⟩ := optAll_cons h
        simp only [PyData.hasDictAll, Bool.or_eq_false_iff] at hd
        cases r with
        | cons r t => exact .cons (dp_of rs n x _ y h1 hd.1 r) (ih h2 hd.2 t)
    unfold toD at h
    split at h
    · cases h; cases r; exact .non
    · cases h; cases r; exact .bl _
    · cases h; cases r; exact .int _
    · cases h; cases r; exact .str _
    · obtain ⟨a, us, rfl, s, q⟩ := tup_of r
      obtain ⟨ds, h1, rfl⟩ := Option.map_eq_some_iff.mp h
      exact .tup s (go h1 (by simpa only [PyData.hasDict] using hd) q)
    · obtain ⟨a, rfl, ha⟩ := ref_of r
      split at h
      · rename_i hm
        obtain ⟨us, hu, q⟩ := at_seq rs hm rfl ha
        obtain ⟨ds, h1, rfl⟩ := Option.map_eq_some_iff.mp h
        exact .lst hu (go h1 (by simpa only [PyData.hasDict] using hd) q)
      · rename_i hm
        obtain ⟨us, hu, q⟩ := at_seq rs hm rfl ha
        obtain ⟨ds, h1, rfl⟩ := Option.map_eq_some_iff.mp h
        exact .lst hu (go h1 (by simpa only [PyData.hasDict] using hd) q)
      · obtain ⟨ds, h1, rfl⟩ := Option.map_eq_some_iff.mp h
        simp [PyData.hasDict] at hd
      · cases h
    · cases h
end
/-- x == y: the same kind of scalar, else as data -/
def eqP (x y : PV) (S : Store) : Option Bool := match x, y with
  | .int i, .int j => some (decide (i = j))
  | .str i, .str j => some (decide (i = j))
  | .bl i, .bl j => some (decide (i = j))
  | .non, .non => some true
  | x, y => match toD 66 S x, toD 66 S y with
    | some d, some e => if SeqAt.shaped d = true ∧ SeqAt.shaped e = true then some (PyData.eqv d e) else none
    | _, _ => none
def fEq : F2 := fun x y S => (eqP x y S).map fun b => (.bl b, S)
def fNe : F2 := fun x y S => (eqP x y S).map fun b => (.bl (!b), S)
theorem opt_mapB {o : Option Bool} {S : Store} {P : PQ} {g : Bool → PV} (h : opt (o.map fun v => (g v, S)) P) : ∃ v, o = some v ∧ P (g v) S := by
  cases o with
  | none => exact h.elim
  | some v => exact ⟨v, rfl, h⟩
theorem shaped_noDict {d : PyData} (h : SeqAt.shaped d = true) : d.hasDict = false := by
  have h' : (d.canLay0 && decide (d.depth ≤ 64)) = true := h
  rw [Bool.and_eq_true] at h'
  exact PyData.hasDict_of_canLay d h'.1
theorem eqP_of {K : PySem.W.Frag} {ι : List Addr} {H : Hp} {S : Store} {x y : PV} {u v : V} {b : Bool} (rs : RS K ι H S) (rx : RV K ι H x u) (ry : RV K ι H y v) (h : eqP x y S = some b) :
    (L2.scal u v = true ∧ b = decide (u = v)) ∨ ∃ d e, Dp K H u d ∧ Dp K H v e ∧ SeqAt.shaped d = true ∧ SeqAt.shaped e = true ∧ b = PyData.eqv d e := by
  unfold eqP at h
  split at h
  · cases int_of rx; cases int_of ry; cases h
    exact .inl ⟨rfl, decide_eq_decide.mpr ⟨fun e => by rw [e], fun e => V.int.inj e⟩⟩
  · cases str_of rx; cases str_of ry; cases h
    exact .inl ⟨rfl, decide_eq_decide.mpr ⟨fun e => by rw [e], fun e => V.str.inj e⟩⟩
  · cases bl_of rx; cases bl_of ry; cases h
    exact .inl ⟨rfl, decide_eq_decide.mpr ⟨fun e => by rw [e], fun e => V.bl.inj e⟩⟩
  · cases non_of rx; cases non_of ry; cases h
    exact .inl ⟨rfl, rfl⟩
  · split at h
    · rename_i d e hd he
      obtain ⟨⟨c1, c2⟩, rfl⟩ := ite_some' h
      exact .inr ⟨d, e, dp_of rs _ _ _ _ hd (shaped_noDict c1) rx, dp_of rs _ _ _ _ he (shaped_noDict c2) ry, c1, c2, rfl⟩
    · cases h
theorem op_fEq {X : Cx} (hu : X.A.units + 64 < cLine) : OpR X (compareOp .Eq) (rOp X.K fEq) := by
  intro pins s σ H u v uu vv Q I ru rv ⟨ι, S, x, y, P, rs, rx, ry, hf, hP⟩
  obtain ⟨b, hb, hp⟩ := opt_mapB (g := .bl) hf
  have q := hP _ _ hp ι H (.bl b) .refl rs (.bl b)
  rcases eqP_of rs rx ry hb with ⟨c, rfl⟩ | ⟨d, e, h1, h2, h3, h4, rfl⟩
  · exact L2.op_eq pins s σ H _ _ _ _ Q I ru rv ⟨c, q⟩
  · exact op_eqD hu pins s σ H _ _ _ _ Q I ru rv ⟨d, e, h1, h2, h3, h4, q⟩
theorem op_fNe {X : Cx} (hu : X.A.units + 64 < cLine) : OpR X (compareOp .NotEq) (rOp X.K fNe) := by
  intro pins s σ H u v uu vv Q I ru rv ⟨ι, S, x, y, P, rs, rx, ry, hf, hP⟩
  obtain ⟨b, hb, hp⟩ := opt_mapB (g := fun b => .bl (!b)) hf
  have q := hP _ _ hp ι H (.bl (!b)) .refl rs (.bl (!b))
  rcases eqP_of rs rx ry hb with ⟨c, rfl⟩ | ⟨d, e, h1, h2, h3, h4, rfl⟩
  · exact L2.op_ne pins s σ H _ _ _ _ Q I ru rv ⟨c, q⟩
  · exact op_neD hu pins s σ H _ _ _ _ Q I ru rv ⟨d, e, h1, h2, h3, h4, q⟩
end Lt
set_option Elab.async false
set_option linter.all false
set_option maxRecDepth 100000
/-! Lt3: tests, displays, calls of built-ins, methods, items, slices. -/
namespace Lt
open PySem PySem.Spec PyProof.Rows L2

/-! ### tests -/
abbrev WT := PEnv → Store → (Bool → Store → Prop) → Prop
def FinT (ι : List Addr) (H : Hp) (K : PySem.W.Frag) (Q : Bool → Hp → Prop) (b : Bool) (S' : Store) : Prop := ∀ ι' H', Ext ι ι' H H' → RS K ι' H' S' → Q b H'
def tWT (K : PySem.W.Frag) (w : WT) : TT := fun σ H Q => ∃ ι env S, ∃ P : Bool → Store → Prop, REnv K ι H env σ ∧ RS K ι H S ∧ w env S P ∧ ∀ b S', P b S' → FinT ι H K Q b S'
structure RT (X : Cx) (e : Expr) (w : WT) : Prop where
  pt : PT X e (tWT X.K w)
structure RW (X : Cx) (e : Expr) (w : WT) : Prop where
  pw : PW X e (tWT X.K w)
theorem PT.weak {X : Cx} {e : Expr} {t t' : TT} (h : PT X e t) (i : ∀ σ H Q, t' σ H Q → t σ H Q) : PT X e t' := ⟨fun pins s σ H Q I q => h.run pins s σ H Q I (i σ H Q q)⟩
theorem PW.weak {X : Cx} {e : Expr} {t t' : TT} (h : PW X e t) (i : ∀ σ H Q, t' σ H Q → t σ H Q) : PW X e t' := ⟨fun wh pins s σ H Q I q => h.run wh pins s σ H Q I (i σ H Q q)⟩
theorem tWT_imp {K : PySem.W.Frag} {w : WT} {σ : LSt} {H : Hp} {Q Q' : Bool → Hp → Prop} (h : tWT K w σ H Q) (i : ∀ b H1, Q b H1 → Q' b H1) : tWT K w σ H Q' := by
  obtain ⟨ι, env, S, P, re, rs, hw, hP⟩ := h
  exact ⟨ι, env, S, P, re, rs, hw, fun b S' hb ι' H' e r => i _ _ (hP b S' hb ι' H' e r)⟩
/-- behind a test -/
theorem tWT_bind {K : PySem.W.Frag} {wt : WT} {k : Bool → PEnv → Store → (PV → Store → Prop) → Prop} {σ : LSt} {H : Hp} {Q : VK} (h : tW K (fun env S P => wt env S fun b S1 => k b env S1 P) σ H Q) :
    tWT K wt σ H fun b H1 => tW K (k b) σ H1 Q := by
  obtain ⟨ι, env, S, P, re, rs, hw, hP⟩ := h
  exact ⟨ι, env, S, _, re, rs, hw, fun b S1 hk ι1 H1 e1 rs1 => ⟨ι1, env, S1, P, re.mono e1, rs1, hk, fun y S' hy => (hP y S' hy).ext e1⟩⟩
theorem tWT_bindT {K : PySem.W.Frag} {wt : WT} {k : Bool → WT} {σ : LSt} {H : Hp} {Q : Bool → Hp → Prop} (h : tWT K (fun env S P => wt env S fun b S1 => k b env S1 P) σ H Q) :
    tWT K wt σ H fun b H1 => tWT K (k b) σ H1 Q := by
  obtain ⟨ι, env, S, P, re, rs, hw, hP⟩ := h
  exact ⟨ι, env, S, _, re, rs, hw, fun b S1 hk ι1 H1 e1 rs1 => ⟨ι1, env, S1, P, re.mono e1, rs1, hk, fun y S' hy ι2 H2 e2 => hP y S' hy ι2 H2 (e1.trans e2)⟩⟩
/-- a bool's test -/
def wB (w : W) : WT := fun env S P => w env S fun x S1 => match x with
  | .bl b => P b S1
  | _ => False
theorem tB_of {K : PySem.W.Frag} {w : W} {t : TE} (i : ∀ σ H Q, tW K w σ H Q → t σ H Q) {σ : LSt} {H : Hp} {Q : Bool → Hp → Prop} (h : tWT K (wB w) σ H Q) : tTest t σ H Q := by
  obtain ⟨ι, env, S, P, re, rs, hw, hP⟩ := h
  refine i _ _ _ ⟨ι, env, S, _, re, rs, hw, fun x S1 hx ι1 H1 v e1 rs1 rx => ?_⟩
  cases x with
  | bl b => cases bl_of rx; exact ⟨b, rfl, hP b S1 hx ι1 H1 e1 rs1⟩
  | _ => exact hx.elim
section
variable {X : Cx} {a b c e : Expr} {wa wb wc : W} {ta tb : WT} {pos : Pos} {rest : List Expr}
theorem rt_cmp {op : CmpOp} {f : F2} (ho : OpR X (compareOp op) (rOp X.K f)) (ha : RE X a wa) (hb : RE X b wb) (hm : behindInMarks op b = false) : RT X (.Compare a [op] [b] pos) (wB (wOp f wa wb)) :=
  ⟨PT.weak (pt_cmpR ho ha.pe hb.pe hm) fun _ _ _ h => tB_of (fun _ _ _ q => tOp_of q) h⟩
/-- a op b op' c -/
def wCh (f g : F2) (wa wb wc : W) : W := fun env S P => wa env S fun x S1 => wb env S1 fun y S2 => opt (f x y S2) fun z S3 => match z with
  | .bl true => wc env S3 fun u S4 => opt (g y u S4) P
  | .bl false => P (.bl false) S3
  | _ => False
theorem tChain_of {K : PySem.W.Frag} {f g : F2} {σ : LSt} {H : Hp} {Q : VK} (h : tW K (wCh f g wa wb wc) σ H Q) : tChain (rOp K f) (rOp K g) (tW K wa) (tW K wb) (tW K wc) σ H Q := by
  obtain ⟨ι, env, S, P, re, rs, hw, hP⟩ := h
  refine ⟨ι, env, S, _, re, rs, hw, fun x S1 hx ι1 H1 u e1 rs1 rx => ⟨ι1, env, S1, _, re.mono e1, rs1, hx, fun y S2 hy ι2 H2 v e2 rs2 ry => ?_⟩⟩
  refine ⟨ι2, S2, x, y, _, rs2, rx.mono e2, ry, hy, fun z S3 hz ι3 H3 w e3 rs3 rz => ?_⟩
  cases z with
  | bl k =>
    cases bl_of rz
    refine ⟨k, rfl, ?_⟩
    cases k with
    | false => exact hP _ _ hz ι3 H3 _ ((e1.trans e2).trans e3) rs3 (.bl false)
    | true =>
      refine ⟨ι3, env, S3, _, re.mono ((e1.trans e2).trans e3), rs3, hz, fun u' S4 hu ι4 H4 v4 e4 rs4 ru => ?_⟩
      exact ⟨ι4, S4, y, u', P, rs4, ry.mono (e3.trans e4), ru, hu, fun r S5 hr => (hP r S5 hr).ext (((e1.trans e2).trans e3).trans e4)⟩
  | _ => exact hz.elim
theorem re_chain {op op' : CmpOp} {f g : F2} (ho : OpR X (compareOp op) (rOp X.K f)) (ho' : OpR X (compareOp op') (rOp X.K g)) (ha : RE X a wa) (hb : RE X b wb) (hc : RE X c wc)
    (hm : lastMarks [op, op'] [b, c] = false := by with_unfolding_all rfl) : RE X (.Compare a [op, op'] [b, c] pos) (wCh f g wa wb wc) := ⟨PE.weak (pe_chain ho ho' ha.pe hb.pe hc.pe hm) fun _ _ _ h => tChain_of h⟩
theorem rt_chain {op op' : CmpOp} {f g : F2} (ho : OpR X (compareOp op) (rOp X.K f)) (ho' : OpR X (compareOp op') (rOp X.K g)) (ha : RE X a wa) (hb : RE X b wb) (hc : RE X c wc)
    (hm : lastMarks [op, op'] [b, c] = false := by with_unfolding_all rfl) : RT X (.Compare a [op, op'] [b, c] pos) (wB (wCh f g wa wb wc)) := ⟨PT.weak (pt_chain ho ho' ha.pe hb.pe hc.pe hm) fun _ _ _ h => tB_of (fun _ _ _ q => tChain_of q) h⟩
/-- a value's truth -/
def tru : PV → Store → Option Bool
  | .non, _ => some false
  | .bl b, _ => some b
  | .int i, _ => some (i != 0)
  | .str y, _ => if y.length ≤ sizeLine then some ((y.length : Int) != 0) else none
  | .tup xs, _ => some (!xs.isEmpty)
  | .ref n, S => match S[n]? with
    | some (.lst xs) => some (!xs.isEmpty)
    | some (.ro xs) => some (!xs.isEmpty)
    | some (.dic xs) => some (!xs.isEmpty)
    | none => none
  | .ty _, _ => none
theorem RVs.isEmpty {K : PySem.W.Frag} {ι : List Addr} {H : Hp} {xs : List PV} {us : List V} (r : RVs K ι H xs us) : xs.isEmpty = us.isEmpty := by cases r <;> rfl
theorem tru_of {K : PySem.W.Frag} {ι : List Addr} {H : Hp} {S : Store} {x : PV} {v : V} {b : Bool} (rs : RS K ι H S) (r : RV K ι H x v) (h : tru x S = some b) : TruV K v H b := by
  unfold tru at h
  split at h
  · cases non_of r; cases h; rfl
  · cases bl_of r; cases h; rfl
  · cases int_of r; cases h; rfl
  · cases str_of r; obtain ⟨c, rfl⟩ := ite_some' h; exact ⟨c, rfl⟩
  · obtain ⟨a, us, rfl, s, q⟩ := tup_of r
    cases h
    exact .inr (.inl ⟨us, s, by rw [q.isEmpty]⟩)
  · obtain ⟨a, rfl, ha⟩ := ref_of r
    split at h
    · rename_i hm
      obtain ⟨us, hu, q⟩ := at_seq rs hm rfl ha
      cases h
      exact .inl ⟨us, hu, by rw [q.isEmpty]⟩
    · rename_i hm
      obtain ⟨us, hu, q⟩ := at_seq rs hm rfl ha
      cases h
      exact .inl ⟨us, hu, by rw [q.isEmpty]⟩
    · rename_i hm
      obtain ⟨us, hu, q⟩ := at_dic rs hm ha
      cases h
      refine .inr (.inr ⟨us, hu, ?_⟩)
      cases q <;> rfl
    · cases h
  · cases h
def wTru (w : W) : WT := fun env S P => w env S fun x S1 => match tru x S1 with
  | some b => P b S1
  | none => False
theorem rt_tru (ha : RE X a wa) (he : ∀ whole, isTrue a X.env whole = (do let v ← whole; standAt a.pos; holding [v] (truthy v)) := by intro _; rfl) : RT X a (wTru wa) := by
  refine ⟨PT.weak (pt_truth ha.pe he) fun σ H Q ⟨ι, env, S, P, re, rs, hw, hP⟩ => ?_⟩
  refine ⟨ι, env, S, _, re, rs, hw, fun x S1 hx ι1 H1 v e1 rs1 rx => ?_⟩
  split at hx
  · rename_i b hb
    exact ⟨b, tru_of rs1 rx hb, hP b S1 hx ι1 H1 e1 rs1⟩
  · exact hx.elim
def wNot (t : WT) : WT := fun env S P => t env S fun b S1 => P (!b) S1
theorem rt_not (h : RT X a ta) : RT X (.UnaryOp .Not a pos) (wNot ta) :=
  ⟨PT.weak (pt_not h.pt) fun σ H Q ⟨ι, env, S, P, re, rs, hw, hP⟩ => ⟨ι, env, S, _, re, rs, hw, fun b S1 hb ι1 H1 e1 rs1 => hP _ _ hb ι1 H1 e1 rs1⟩⟩
def wAndT (t u : WT) : WT := fun env S P => t env S fun b S1 => match b with
  | true => u env S1 P
  | false => P false S1
def wOrT (t u : WT) : WT := fun env S P => t env S fun b S1 => match b with
  | true => P true S1
  | false => u env S1 P
theorem RW.rt (h : RW X e ta) : RT X e ta := ⟨h.pw.pt⟩
theorem rw_and1 (h : RT X a ta) : RW X (.BoolOp .And [a] pos) ta := ⟨pw_and1 h.pt⟩
theorem rw_or1 (h : RT X a ta) : RW X (.BoolOp .Or [a] pos) ta := ⟨pw_or1 h.pt⟩
theorem rw_and (h : RT X a ta) (hb : RW X (.BoolOp .And (b :: rest) pos) tb) : RW X (.BoolOp .And (a :: b :: rest) pos) (wAndT ta tb) := by
  refine ⟨PW.weak (pw_and h.pt hb.pw) fun σ H Q h => ?_⟩
  refine tWT_imp (tWT_bindT (k := fun b env S P => match b with | true => tb env S P | false => P false S) h) fun b H1 h1 => ?_
  cases b with
  | true => exact h1
  | false => obtain ⟨ι, env, S, P, re, rs, hw, hP⟩ := h1; exact hP _ _ hw ι H1 .refl rs
theorem rw_or (h : RT X a ta) (hb : RW X (.BoolOp .Or (b :: rest) pos) tb) : RW X (.BoolOp .Or (a :: b :: rest) pos) (wOrT ta tb) := by
  refine ⟨PW.weak (pw_or h.pt hb.pw) fun σ H Q h => ?_⟩
  refine tWT_imp (tWT_bindT (k := fun b env S P => match b with | true => P true S | false => tb env S P) h) fun b H1 h1 => ?_
  cases b with
  | false => exact h1
  | true => obtain ⟨ι, env, S, P, re, rs, hw, hP⟩ := h1; exact hP _ _ hw ι H1 .refl rs
/-! .. as values -/
def wAnd (wa wb : W) : W := fun env S P => wa env S fun x S1 => match x with
  | .bl true => wb env S1 P
  | .bl false => P (.bl false) S1
  | _ => False
def wOr (wa wb : W) : W := fun env S P => wa env S fun x S1 => match x with
  | .bl true => P (.bl true) S1
  | .bl false => wb env S1 P
  | _ => False
def wNotV (wa : W) : W := fun env S P => wa env S fun x S1 => match x with
  | .bl b => P (.bl (!b)) S1
  | _ => False
theorem re_one {op} (h : RE X a wa) : RE X (.BoolOp op [a] pos) wa := ⟨pe_one h.pe⟩
theorem re_and (ha : RE X a wa) (hb : RE X (.BoolOp .And (b :: rest) pos) wb) : RE X (.BoolOp .And (a :: b :: rest) pos) (wAnd wa wb) := by
  refine ⟨PE.weak (pe_and ha.pe hb.pe) fun σ H Q ⟨ι, env, S, P, re, rs, hw, hP⟩ => ⟨ι, env, S, _, re, rs, hw, fun x S1 hx ι1 H1 v e1 rs1 rx => ?_⟩⟩
  cases x with
  | bl k =>
    cases bl_of rx
    refine ⟨k, rfl, ?_⟩
    cases k with
    | true => exact ⟨ι1, env, S1, P, re.mono e1, rs1, hx, fun y S' hy => (hP y S' hy).ext e1⟩
    | false => exact hP _ _ hx ι1 H1 _ e1 rs1 (.bl false)
  | _ => exact hx.elim
theorem re_or (ha : RE X a wa) (hb : RE X (.BoolOp .Or (b :: rest) pos) wb) : RE X (.BoolOp .Or (a :: b :: rest) pos) (wOr wa wb) := by
  refine ⟨PE.weak (pe_or ha.pe hb.pe) fun σ H Q ⟨ι, env, S, P, re, rs, hw, hP⟩ => ⟨ι, env, S, _, re, rs, hw, fun x S1 hx ι1 H1 v e1 rs1 rx => ?_⟩⟩
  cases x with
  | bl k =>
    cases bl_of rx
    refine ⟨k, rfl, ?_⟩
    cases k with
    | false => exact ⟨ι1, env, S1, P, re.mono e1, rs1, hx, fun y S' hy => (hP y S' hy).ext e1⟩
    | true => exact hP _ _ hx ι1 H1 _ e1 rs1 (.bl true)
  | _ => exact hx.elim
theorem re_not (ha : RE X a wa) : RE X (.UnaryOp .Not a pos) (wNotV wa) := by
  refine ⟨PE.weak (pe_not ha.pe) fun σ H Q ⟨ι, env, S, P, re, rs, hw, hP⟩ => ⟨ι, env, S, _, re, rs, hw, fun x S1 hx ι1 H1 v e1 rs1 rx => ?_⟩⟩
  cases x with
  | bl k => cases bl_of rx; exact ⟨k, rfl, hP _ _ hx ι1 H1 _ e1 rs1 (.bl _)⟩
  | _ => exact hx.elim
def wNeg (wa : W) : W := fun env S P => wa env S fun x S1 => match x with
  | .int i => P (.int (-i)) S1
  | _ => False
theorem re_neg (ha : RE X a wa) : RE X (.UnaryOp .USub a pos) (wNeg wa) := by
  refine ⟨PE.weak (pe_un un_neg ha.pe) fun σ H Q ⟨ι, env, S, P, re, rs, hw, hP⟩ => ⟨ι, env, S, _, re, rs, hw, fun x S1 hx ι1 H1 v e1 rs1 rx => ?_⟩⟩
  cases x with
  | int i => cases int_of rx; exact ⟨i, rfl, hP _ _ hx ι1 H1 _ e1 rs1 (.int _)⟩
  | _ => exact hx.elim
def wIf (t : WT) (wa wb : W) : W := fun env S P => t env S fun b S1 => match b with
  | true => wa env S1 P
  | false => wb env S1 P
theorem re_if (hc : RT X c ta) (ha : RE X a wa) (hb : RE X b wb) : RE X (.IfExp c a b pos) (wIf ta wa wb) := by
  refine ⟨PE.weak (pe_ifExp hc.pt ha.pe hb.pe) fun σ H Q h => ?_⟩
  refine tWT_imp (tWT_bind (k := fun b env S P => match b with | true => wa env S P | false => wb env S P) h) fun b H1 h1 => ?_
  cases b with
  | true => exact h1
  | false => exact h1
end

/-! ### displays -/
section
variable {X : Cx} {es : List Expr} {w : WA} {pos : Pos}
def wTup (w : WA) : W := fun env S P => w env S fun xs S1 => xs.length ≤ sizeLine ∧ P (.tup xs) S1
def wLst (w : WA) : W := fun env S P => w env S fun xs S1 => xs.length ≤ sizeLine ∧ P (.ref S1.length) (S1 ++ [.lst xs])
theorem fin_ext {K : PySem.W.Frag} {ι ι1 : List Addr} {H H1 : Hp} {Q : VK} {P : PQ} (e : Ext ι ι1 H H1) (h : ∀ x S', P x S' → Fin K ι H Q x S') : ∀ x S', P x S' → Fin K ι1 H1 Q x S' := fun x S' hx => (h x S' hx).ext e
theorem re_tup {k : Nat} (h : RA X es w) : RE X (.Tuple es k pos) (wTup w) := by
  refine ⟨PE.weak (pe_tup h.pa) fun σ H Q ⟨ι, env, S, P, re, rs, hw, hP⟩ => ⟨ι, env, S, _, re, rs, hw, fun xs S1 hx ι1 H1 vs e1 rs1 rx => ?_⟩⟩
  exact ⟨by rw [← rx.length]; exact hx.1, new_tup rs1 rx (fin_ext e1 hP) hx.2⟩
theorem re_lst (h : RA X es w) : RE X (.List es pos) (wLst w) := by
  refine ⟨PE.weak (pe_lst h.pa) fun σ H Q ⟨ι, env, S, P, re, rs, hw, hP⟩ => ⟨ι, env, S, _, re, rs, hw, fun xs S1 hx ι1 H1 vs e1 rs1 rx => ?_⟩⟩
  exact ⟨by rw [← rx.length]; exact hx.1, new_lst rs1 rx (fin_ext e1 hP) hx.2⟩
end

/-! ### built-ins -/
abbrev FB := List PV → Store → Option (PV × Store)
def rB (K : PySem.W.Frag) (f : FB) : List V → Hp → VK → Prop := fun us H Q => ∃ ι S xs, ∃ P : PQ, RS K ι H S ∧ RVs K ι H xs us ∧ opt (f xs S) P ∧ ∀ z S', P z S' → Fin K ι H Q z S'
def wCall (f : FB) (w : WA) : W := fun env S P => w env S fun xs S1 => opt (f xs S1) P
theorem tCB_of {K : PySem.W.Frag} {f : FB} {w : WA} {σ : LSt} {H : Hp} {Q : VK} (h : tW K (wCall f w) σ H Q) : tCB (rB K f) (tWA K w) σ H Q := by
  obtain ⟨ι, env, S, P, re, rs, hw, hP⟩ := h
  exact ⟨ι, env, S, _, re, rs, hw, fun xs S1 hx ι1 H1 vs e1 rs1 rx => ⟨ι1, S1, xs, P, rs1, rx, hx, fin_ext e1 hP⟩⟩
section
variable {X : Cx} {x : Str} {e : Expr} {es : List Expr} {w : WA} {p pos : Pos} {id T : String} {f : FB}
theorem re_callB (hc : CallR X (.builtin id) (rB X.K f)) (hg : Gl X x) (hm : X.mg x = none) (hv : bootBuiltins x = some (.builtin id)) (ha : RA X (e :: es) w) (hn : x ≠ "__name__" := by decide) (hdb : (x == ("__debug__" : Str)) = false := by decide)
    (he : starEach (e :: es) X.env = (false, eval e X.env) :: starEach es X.env := by rfl) (hpl : (backTo pos (starEach es X.env)).any (·.1) = false := by rfl) : RE X (.Call (.Name x p) (e :: es) [] pos) (wCall f w) :=
  ⟨PE.weak (pe_callB hc hg hm hv ha.pa hn hdb he hpl) fun _ _ _ h => tCB_of h⟩
theorem re_callTy (hc : CallR X (.type T) (rB X.K f)) (hg : Gl X x) (hm : X.mg x = none) (hv : bootBuiltins x = some (.type T)) (ha : RA X (e :: es) w) (hn : x ≠ "__name__" := by decide) (hdb : (x == ("__debug__" : Str)) = false := by decide)
    (he : starEach (e :: es) X.env = (false, eval e X.env) :: starEach es X.env := by rfl) (hpl : (backTo pos (starEach es X.env)).any (·.1) = false := by rfl) : RE X (.Call (.Name x p) (e :: es) [] pos) (wCall f w) :=
  ⟨PE.weak (pe_callTy hc hg hm hv ha.pa hn hdb he hpl) fun _ _ _ h => tCB_of h⟩
/-- a type's name as a value -/
theorem re_type (hg : Gl X x) (hm : X.mg x = none) (hv : bootBuiltins x = some (.type T)) (hn : x ≠ "__name__" := by decide) (hdb : (x == ("__debug__" : Str)) = false := by decide) : RE X (.Name x p) (wC (.ty T)) :=
  re_c (pe_bltn (v := .ty T) hg hm hv rfl hn hdb) fun _ _ => .ty T
end
def seqOf : PV → Store → Option (List PV)
  | .tup xs, _ => some xs
  | .ref n, S => match S[n]? with
    | some c => c.items
    | none => none
  | _, _ => none
theorem seqOf_of {K : PySem.W.Frag} {ι : List Addr} {H : Hp} {S : Store} {x : PV} {v : V} {xs : List PV} (rs : RS K ι H S) (r : RV K ι H x v) (h : seqOf x S = some xs) : ∃ a us, v = .ref a ∧ (SqL K H a us ∨ SqT K H a us) ∧ RVs K ι H xs us := by
  unfold seqOf at h
  split at h
  · cases h
    obtain ⟨a, us, rfl, s, q⟩ := tup_of r
    exact ⟨a, us, rfl, .inr s, q⟩
  · obtain ⟨a, rfl, ha⟩ := ref_of r
    split at h
    · rename_i hc
      obtain ⟨us, hu, q⟩ := at_seq rs hc h ha
      exact ⟨a, us, rfl, .inl hu, q⟩
    · cases h
  · cases h
theorem rvs1 {K : PySem.W.Frag} {ι : List Addr} {H : Hp} {x : PV} {us : List V} (r : RVs K ι H [x] us) : ∃ u, us = [u] ∧ RV K ι H x u := by
  cases r with
  | cons r t => cases t; exact ⟨_, rfl, r⟩
theorem rvs2 {K : PySem.W.Frag} {ι : List Addr} {H : Hp} {x y : PV} {us : List V} (r : RVs K ι H [x, y] us) : ∃ u v, us = [u, v] ∧ RV K ι H x u ∧ RV K ι H y v := by
  cases r with
  | cons r t => obtain ⟨v, rfl, q⟩ := rvs1 t; exact ⟨_, v, rfl, r, q⟩
def bLen : FB
  | [.str x], S => if x.length ≤ sizeLine then some (.int x.length, S) else none
  | [x], S => (seqOf x S).map fun xs => (.int xs.length, S)
  | _, _ => none
theorem opt_map' {α : Type} {o : Option α} {g : α → PV × Store} {P : PQ} (h : opt (o.map g) P) : ∃ v, o = some v ∧ P (g v).1 (g v).2 := by
  cases o with
  | none => exact h.elim
  | some v => exact ⟨v, rfl, h⟩
theorem opt_ite {c : Prop} [Decidable c] {r : PV × Store} {P : PQ} (h : opt (if c then some r else none) P) : c ∧ P r.1 r.2 := by
  split at h
  · rename_i hc; exact ⟨hc, h⟩
  · exact h.elim
section
variable {X : Cx}
theorem call_bLen : CallR X (.builtin "len") (rB X.K bLen) := by
  intro pins s σ H vs us Q I r ⟨ι, S, xs, P, rs, rx, hf, hP⟩
  unfold bLen at hf
  split at hf
  · obtain ⟨u, rfl, q⟩ := rvs1 rx
    cases str_of q
    obtain ⟨c, h⟩ := opt_ite hf
    exact call_len_str pins s σ H _ _ Q I r ⟨_, rfl, c, hP _ _ h ι H _ .refl rs (.int _)⟩
  · obtain ⟨u, rfl, q⟩ := rvs1 rx
    obtain ⟨ys, hy, h⟩ := opt_map' hf
    obtain ⟨a, ws, rfl, sq, qs⟩ := seqOf_of rs q hy
    refine call_len_seq pins s σ H _ _ Q I r ⟨a, ws, rfl, sq, ?_⟩
    rw [← qs.length]
    exact hP _ _ h ι H _ .refl rs (.int _)
  · exact hf.elim
def bInt : FB
  | [.int i], S => some (.int i, S)
  | [.bl b], S => some (.int (if b then 1 else 0), S)
  | _, _ => none
theorem call_bInt : CallR X (.type "int") (rB X.K bInt) := by
  intro pins s σ H vs us Q I r ⟨ι, S, xs, P, rs, rx, hf, hP⟩
  unfold bInt at hf
  split at hf
  · obtain ⟨u, rfl, q⟩ := rvs1 rx
    cases int_of q
    exact call_int1 pins s σ H _ _ Q I r (.inl ⟨_, rfl, hP _ _ hf ι H _ .refl rs (.int _)⟩)
  · obtain ⟨u, rfl, q⟩ := rvs1 rx
    cases bl_of q
    exact call_int1 pins s σ H _ _ Q I r (.inr ⟨_, rfl, hP _ _ hf ι H _ .refl rs (.int _)⟩)
  · exact hf.elim
def bAbs : FB
  | [.int i], S => some (.int (if i < 0 then -i else i), S)
  | _, _ => none
theorem call_bAbs : CallR X (.builtin "abs") (rB X.K bAbs) := by
  intro pins s σ H vs us Q I r ⟨ι, S, xs, P, rs, rx, hf, hP⟩
  unfold bAbs at hf
  split at hf
  · obtain ⟨u, rfl, q⟩ := rvs1 rx
    cases int_of q
    exact call_abs pins s σ H _ _ Q I r ⟨_, rfl, hP _ _ hf ι H _ .refl rs (.int _)⟩
  · exact hf.elim
def bMin : FB
  | [.int i, .int j], S => some (.int (if j < i then j else i), S)
  | _, _ => none
theorem call_bMin (hc : X.calm = true) : CallR X (.builtin "min") (rB X.K bMin) := by
  intro pins s σ H vs us Q I r ⟨ι, S, xs, P, rs, rx, hf, hP⟩
  unfold bMin at hf
  split at hf
  · obtain ⟨u, v, rfl, q, q'⟩ := rvs2 rx
    cases int_of q; cases int_of q'
    exact call_min2 hc pins s σ H _ _ Q I r ⟨_, _, rfl, hP _ _ hf ι H _ .refl rs (.int _)⟩
  · exact hf.elim
def bMax : FB
  | [.int i, .int j], S => some (.int (if j > i then j else i), S)
  | _, _ => none
theorem call_bMax (hc : X.calm = true) : CallR X (.builtin "max") (rB X.K bMax) := by
  intro pins s σ H vs us Q I r ⟨ι, S, xs, P, rs, rx, hf, hP⟩
  unfold bMax at hf
  split at hf
  · obtain ⟨u, v, rfl, q, q'⟩ := rvs2 rx
    cases int_of q; cases int_of q'
    exact call_max2 hc pins s σ H _ _ Q I r ⟨_, _, rfl, hP _ _ hf ι H _ .refl rs (.int _)⟩
  · exact hf.elim
def bList : FB
  | [x], S => (seqOf x S).map fun xs => (.ref S.length, S ++ [.lst xs])
  | _, _ => none
theorem call_bList : CallR X (.type "list") (rB X.K bList) := by
  intro pins s σ H vs us Q I r ⟨ι, S, xs, P, rs, rx, hf, hP⟩
  unfold bList at hf
  split at hf
  · obtain ⟨u, rfl, q⟩ := rvs1 rx
    obtain ⟨ys, hy, h⟩ := opt_map' hf
    obtain ⟨a, ws, rfl, sq, qs⟩ := seqOf_of rs q hy
    exact call_list_of pins s σ H _ _ Q I r ⟨a, ws, rfl, sq, new_lst rs qs hP h⟩
  · exact hf.elim
def bTuple : FB
  | [x], S => (seqOf x S).map fun xs => (.tup xs, S)
  | _, _ => none
theorem call_bTuple : CallR X (.type "tuple") (rB X.K bTuple) := by
  intro pins s σ H vs us Q I r ⟨ι, S, xs, P, rs, rx, hf, hP⟩
  unfold bTuple at hf
  split at hf
  · obtain ⟨u, rfl, q⟩ := rvs1 rx
    obtain ⟨ys, hy, h⟩ := opt_map' hf
    obtain ⟨a, ws, rfl, sq, qs⟩ := seqOf_of rs q hy
    refine call_tuple_of pins s σ H _ _ Q I r ⟨a, ws, rfl, ?_⟩
    rcases sq with sq | sq
    · exact .inl ⟨sq, new_tup rs qs hP h⟩
    · exact .inr ⟨sq, hP _ _ h ι H _ .refl rs (.tup sq qs)⟩
  · exact hf.elim
/-- the name of a value's type -/
def tyN : PV → Store → Option String
  | .non, _ => some "NoneType"
  | .bl _, _ => some "bool"
  | .int _, _ => some "int"
  | .str _, _ => some "str"
  | .tup _, _ => some "tuple"
  | .ref n, S => match S[n]? with
    | some (.lst _) => some "list"
    | some (.ro _) => some "list"
    | some (.dic _) => some "dict"
    | none => none
  | .ty _, _ => none
theorem tyN_of {K : PySem.W.Frag} {ι : List Addr} {H : Hp} {S : Store} {x : PV} {v : V} {t : String} (rs : RS K ι H S) (r : RV K ι H x v) (h : tyN x S = some t) : TyX K H v (.type t) := by
  have lst : ∀ {a : Addr} {us : List V}, SqL K H a us → TyX K H (.ref a) (.type "list") := fun {a us} q => by
    rcases q with (q | ⟨o, q⟩) | ⟨o, its, n, q1, q2, _⟩
    · exact .base (.lst q)
    · exact .base (.frz q)
    · exact .kList q1 q2
  unfold tyN at h
  split at h
  · cases non_of r; cases h; exact .base .non
  · cases bl_of r; cases h; exact .base (.bl _)
  · cases int_of r; cases h; exact .base (.int _)
  · cases str_of r; cases h; exact .base (.str _)
  · obtain ⟨a, us, rfl, s, q⟩ := tup_of r
    cases h
    rcases s with (s | ⟨o, s⟩) | ⟨o, its, n, s1, s2, _⟩
    · exact .base (.tup s)
    · exact .fTuple s
    · exact .kTuple s1 s2
  · obtain ⟨a, rfl, ha⟩ := ref_of r
    split at h
    · rename_i hm
      obtain ⟨us, hu, q⟩ := at_seq rs hm rfl ha
      cases h; exact lst hu
    · rename_i hm
      obtain ⟨us, hu, q⟩ := at_seq rs hm rfl ha
      cases h; exact lst hu
    · rename_i hm
      obtain ⟨us, hu, q⟩ := at_dic rs hm ha
      cases h; exact .base (.dK hu)
    · cases h
  · cases h
def bIsi : FB
  | [x, .ty T], S => match tyN x S with
    | some t => (kitB t T).map fun b => (.bl b, S)
    | none => none
  | _, _ => none
theorem call_bIsi : CallR X (.builtin "isinstance") (rB X.K bIsi) := by
  intro pins s σ H vs us Q I r ⟨ι, S, xs, P, rs, rx, hf, hP⟩
  unfold bIsi at hf
  split at hf
  · obtain ⟨u, v, rfl, q, q'⟩ := rvs2 rx
    cases ty_of q'
    split at hf
    · rename_i t ht
      obtain ⟨b, hb, h⟩ := opt_map' hf
      exact call_isi pins s σ H _ _ Q I r ⟨u, _, _, _, b, rfl, .ty _, tyN_of rs q ht, kit_ty hb, hP _ _ h ι H _ .refl rs (.bl _)⟩
    · exact hf.elim
  · exact hf.elim
end
end Lt
set_option Elab.async false
set_option linter.all false
set_option maxRecDepth 100000
/-! Lt4: methods of lists, items, slices, dicts, repr. -/
namespace Lt
open PySem PySem.Spec PyProof.Rows L2

/-! ### methods -/
abbrev FM := PV → List PV → Store → Option (PV × Store)
def rM (K : PySem.W.Frag) (f : FM) : V → List V → Hp → VK → Prop := fun u us H Q => ∃ ι S x xs, ∃ P : PQ, RS K ι H S ∧ RV K ι H x u ∧ RVs K ι H xs us ∧ opt (f x xs S) P ∧ ∀ z S', P z S' → Fin K ι H Q z S'
/-- the receiver's type, as the method's rule asks it -/
def tyOk (T : String) : PV → Store → Prop
  | .str _, _ => T = "str"
  | .int _, _ => T = "int"
  | .ref n, S => (T = "list" ∧ ∃ c xs, S[n]? = some c ∧ c.items = some xs) ∨ (T = "dict" ∧ ∃ kvs, S[n]? = some (.dic kvs))
  | _, _ => False
theorem tyOk_of {K : PySem.W.Frag} {ι : List Addr} {H : Hp} {S : Store} {T : String} {x : PV} {v : V} (rs : RS K ι H S) (r : RV K ι H x v) (h : tyOk T x S) : tyV K T v H := by
  cases x with
  | str y => cases str_of r; exact h
  | int y => cases int_of r; exact h
  | ref n =>
    obtain ⟨a, rfl, ha⟩ := ref_of r
    rcases h with ⟨rfl, c, xs, hc, hx⟩ | ⟨rfl, kvs, hc⟩
    · obtain ⟨us, hu, _⟩ := at_seq rs hc hx ha
      exact .inl ⟨rfl, us, hu⟩
    · obtain ⟨us, hu, _⟩ := at_dic rs hc ha
      exact .inr (.inr (.inl ⟨rfl, .inl ⟨us, hu⟩⟩))
  | _ => exact h.elim
def wM0 (T : String) (f : FM) (wo : W) : W := fun env S P => wo env S fun x S1 => tyOk T x S1 ∧ opt (f x [] S1) P
def wM (T : String) (f : FM) (wo : W) (w : WA) : W := fun env S P => wo env S fun x S1 => tyOk T x S1 ∧ w env S1 fun xs S2 => opt (f x xs S2) P
section
variable {X : Cx} {o e : Expr} {es : List Expr} {wo : W} {w : WA} {name : Str} {apos cpos : Pos} {T id : String} {f : FM}
theorem re_m0 (pa : PlainAttrs T) (slot : Slot T name id) (hty : typeOf (.builtin id) = pure (.type "method_descriptor")) (hm : MtR X id (rM X.K f)) (ho : RE X o wo)
    (hbase : attributeBase o name X.env (eval o X.env) = eval o X.env := by rfl) (hline : (apos.endLine == cpos.line) = true := by rfl) : RE X (.Call (.Attribute o name apos) [] [] cpos) (wM0 T f wo) := by
  refine ⟨PE.weak (pe_bm0 pa slot hty hm ho.pe hbase hline) fun σ H Q ⟨ι, env, S, P, re, rs, hw, hP⟩ => ⟨ι, env, S, _, re, rs, hw, fun x S1 hx ι1 H1 v e1 rs1 rx => ?_⟩⟩
  exact ⟨tyOk_of rs1 rx hx.1, ι1, S1, x, [], P, rs1, rx, .nil, hx.2, fin_ext e1 hP⟩
theorem re_m (pa : PlainAttrs T) (slot : Slot T name id) (hty : typeOf (.builtin id) = pure (.type "method_descriptor")) (hm : MtR X id (rM X.K f)) (ho : RE X o wo) (ha : RA X (e :: es) w)
    (hbase : attributeBase o name X.env (eval o X.env) = eval o X.env := by rfl)
    (hfew : ((backTo cpos (starEach (e :: es) X.env)).all (fun x => !x.1) && (backToKw cpos (keywordEach [] X.env)).all (fun x => x.1.isSome)
      && decide ((e :: es).length + ([] : List Keyword).length + (if ([] : List Keyword).isEmpty then 0 else 1) < 30)) = true := by rfl)
    (hline : (apos.endLine == cpos.line) = true := by rfl) (hs : starEach (e :: es) X.env = (false, eval e X.env) :: starEach es X.env := by rfl) (hplain : (backTo cpos (starEach es X.env)).any (·.1) = false := by rfl) :
    RE X (.Call (.Attribute o name apos) (e :: es) [] cpos) (wM T f wo w) := by
  refine ⟨PE.weak (pe_bm pa slot hty hm ho.pe ha.pa hbase hfew hline hs hplain) fun σ H Q ⟨ι, env, S, P, re, rs, hw, hP⟩ => ⟨ι, env, S, _, re, rs, hw, fun x S1 hx ι1 H1 v e1 rs1 rx => ?_⟩⟩
  refine ⟨tyOk_of rs1 rx hx.1, ι1, env, S1, _, re.mono e1, rs1, hx.2, fun xs S2 h2 ι2 H2 us e2 rs2 r2 => ?_⟩
  exact ⟨ι2, S2, x, xs, P, rs2, rx.mono e2, r2, h2, fin_ext (e1.trans e2) hP⟩
end
/-- what becomes of a list's items -/
def onL (g : List PV → List PV → Option (List PV × PV)) : FM := fun x args S => match x with
  | .ref n => match S[n]? with
    | some (.lst xs) => (g xs args).map fun r => (r.2, S.set n (.lst r.1))
    | _ => none
  | _ => none
theorem onL_of {K : PySem.W.Frag} {g : List PV → List PV → Option (List PV × PV)} {u : V} {us : List V} {H : Hp} {Q : VK} (h : rM K (onL g) u us H Q) :
    ∃ a ws ι xs args ys z, u = .ref a ∧ H a = some (.lst ws) ∧ RVs K ι H xs ws ∧ RVs K ι H args us ∧ g xs args = some (ys, z) ∧ ∀ ws' v, RVs K ι H ys ws' → RV K ι H z v → Q v (upd H a (.lst ws')) := by
  obtain ⟨ι, S, x, args, P, rs, rx, ra, hf, hP⟩ := h
  unfold onL at hf
  split at hf
  · obtain ⟨a, rfl, ha⟩ := ref_of rx
    split at hf
    · rename_i hn
      obtain ⟨ws, hw, q⟩ := at_lst rs hn ha
      obtain ⟨⟨ys, z⟩, hg, hp⟩ := opt_map' hf
      refine ⟨a, ws, ι, _, args, ys, z, rfl, hw, q, ra, hg, fun ws' v r rz => ?_⟩
      obtain ⟨rs', E⟩ := rs.write (c' := .lst ys) (o' := .lst ws') hn ha rfl rfl fun E => ⟨ws', upd_same, r.mono E⟩
      exact hP _ _ hp ι _ v E rs' (rz.mono E)
    · exact hf.elim
  · exact hf.elim
def gAppend : List PV → List PV → Option (List PV × PV)
  | xs, [y] => if xs.length < sizeLine then some (xs ++ [y], .non) else none
  | _, _ => none
def gPop : List PV → List PV → Option (List PV × PV)
  | xs, [] => (xs[xs.length - 1]?).map fun y => (xs.dropLast, y)
  | xs, [.int i] => if -(2 ^ 63) ≤ i ∧ i < 2 ^ 63 then match seqIndex? i xs.length with
    | some k => (xs[k]?).map fun y => (xs.eraseIdx k, y)
    | none => none
    else none
  | _, _ => none
def gInsert : List PV → List PV → Option (List PV × PV)
  | xs, [.int i, y] => if xs.length < sizeLine ∧ 0 ≤ i ∧ i < 2 ^ 63 then some (xs.take i.toNat ++ [y] ++ xs.drop i.toNat, .non) else none
  | _, _ => none
section
variable {X : Cx}
theorem ite_some2 {α : Type} {c : Prop} [Decidable c] {z : α} {o : Option α} (h : (if c then o else none) = some z) : c ∧ o = some z := by
  split at h
  · rename_i hc; exact ⟨hc, h⟩
  · cases h
theorem mt_gAppend : MtR X "list.append" (rM X.K (onL gAppend)) := by
  intro pins s σ H u us v vs Q I ru rus h
  obtain ⟨a, ws, ι, xs, args, ys, z, rfl, hH, rx, ra, hg, q⟩ := onL_of h
  unfold gAppend at hg
  split at hg
  · obtain ⟨c, e⟩ := ite_some' hg
    cases e
    obtain ⟨w, rfl, rw'⟩ := rvs1 ra
    refine mt_append pins s σ H _ _ _ _ Q I ru rus ⟨a, ws, w, rfl, rfl, hH, by rw [← rx.length]; exact c, q _ _ (rx.snoc rw') .non⟩
  · cases hg
theorem mt_gPop : MtR X "list.pop" (rM X.K (onL gPop)) := by
  intro pins s σ H u us v vs Q I ru rus h
  obtain ⟨a, ws, ι, xs, args, ys, z, rfl, hH, rx, ra, hg, q⟩ := onL_of h
  unfold gPop at hg
  split at hg
  · cases ra
    obtain ⟨y, hy, e⟩ := Option.map_eq_some_iff.mp hg
    cases e
    obtain ⟨w, hw, rw'⟩ := rx.get hy
    refine mt_pop pins s σ H _ _ _ _ Q I ru rus ⟨a, ws, w, rfl, rfl, hH, by rw [← rx.length]; exact hw, q _ _ rx.dropLast rw'⟩
  · obtain ⟨w0, rfl, r0⟩ := rvs1 ra
    cases int_of r0
    obtain ⟨c, e⟩ := ite_some2 hg
    split at e
    · rename_i k hk
      obtain ⟨y, hy, e⟩ := Option.map_eq_some_iff.mp e
      cases e
      obtain ⟨w, hw, rw'⟩ := rx.get hy
      exact mt_popAt pins s σ H _ _ _ _ Q I ru rus ⟨a, ws, _, k, w, rfl, rfl, hH, c.1, c.2, by rw [← rx.length]; exact hk, hw, q _ _ (rx.eraseIdx k) rw'⟩
    · cases e
  · cases hg
theorem mt_gInsert : MtR X "list.insert" (rM X.K (onL gInsert)) := by
  intro pins s σ H u us v vs Q I ru rus h
  obtain ⟨a, ws, ι, xs, args, ys, z, rfl, hH, rx, ra, hg, q⟩ := onL_of h
  unfold gInsert at hg
  split at hg
  · obtain ⟨c, e⟩ := ite_some' hg
    cases e
    obtain ⟨w0, w1, rfl, r0, r1⟩ := rvs2 ra
    cases int_of r0
    refine mt_insert pins s σ H _ _ _ _ Q I ru rus ⟨a, ws, _, w1, rfl, rfl, hH, by rw [← rx.length]; exact c.1, c.2.1, c.2.2, q _ _ (((rx.take _).append (.cons r1 .nil)).append (rx.drop _)) .non⟩
  · cases hg
/-- l.extend(m), both lists that may be written -/
def mExtend : FM
  | .ref n, [.ref m], S => match S[n]?, S[m]? with
    | some (.lst xs), some (.lst ys) => if xs.length + ys.length ≤ sizeLine then some (.non, S.set n (.lst (xs ++ ys))) else none
    | _, _ => none
  | _, _, _ => none
theorem mt_mExtend : MtR X "list.extend" (rM X.K mExtend) := by
  intro pins s σ H u us v vs Q I ru rus ⟨ι, S, x, args, P, rs, rx, ra, hf, hP⟩
  unfold mExtend at hf
  split at hf
  · obtain ⟨a, rfl, ha⟩ := ref_of rx
    obtain ⟨w, rfl, rw'⟩ := rvs1 ra
    obtain ⟨b, rfl, hb⟩ := ref_of rw'
    split at hf
    · rename_i hn hm
      obtain ⟨c, h⟩ := opt_ite hf
      obtain ⟨ws, hw, q⟩ := at_lst rs hn ha
      obtain ⟨ws2, hw2, q2⟩ := at_lst rs hm hb
      obtain ⟨rs', E⟩ := rs.write (c' := .lst _) (o' := .lst (ws ++ ws2)) hn ha rfl rfl fun E => ⟨_, upd_same, (q.append q2).mono E⟩
      exact mt_extend pins s σ H _ _ _ _ Q I ru rus ⟨a, b, ws, ws2, rfl, rfl, hw, hw2, by rw [← q.length, ← q2.length]; exact c, hP _ _ h ι _ _ E rs' .non⟩
    · exact hf.elim
  · exact hf.elim

/-! ### items -/
def fIx : F2
  | .tup xs, .int i, S => (atI xs i).map fun v => (v, S)
  | .ref n, .int i, S => match S[n]? with
    | some c => match c.items with
      | some xs => (atI xs i).map fun v => (v, S)
      | none => none
    | none => none
  | .str z, .int i, S => if z.length ≤ sizeLine then (atI z.cps.toList i).map fun c => (.str ⟨#[c]⟩, S) else none
  | _, _, _ => none
theorem atI_rel {K : PySem.W.Frag} {ι : List Addr} {H : Hp} {xs : List PV} {us : List V} {i : Int} {x : PV} (r : RVs K ι H xs us) (h : atI xs i = some x) : ∃ v, atI us i = some v ∧ RV K ι H x v := by
  unfold atI at h ⊢
  rw [← r.length]
  cases e : ixN xs.length i with
  | none => rw [e] at h; cases h
  | some j =>
    rw [e] at h
    obtain ⟨v, h1, h2⟩ := r.get (show xs[j]? = some x from h)
    exact ⟨v, h1, h2⟩
theorem ix_fIx : IxR X (rOp X.K fIx) := by
  intro value slice pins s σ H u v uu vv Q I ru rv ⟨ι, S, x, y, P, rs, rx, ry, hf, hP⟩ hsub
  unfold fIx at hf
  split at hf
  · obtain ⟨a, us, rfl, sa, qa⟩ := tup_of rx
    cases int_of ry
    obtain ⟨z, hz, hp⟩ := opt_map hf
    obtain ⟨w, h1, h2⟩ := atI_rel qa hz
    exact ix_tup value slice pins s σ H _ _ _ _ Q I ru rv ⟨a, us, _, w, rfl, rfl, sa, h1, hP _ _ hp ι H w .refl rs h2⟩ hsub
  · obtain ⟨a, rfl, ha⟩ := ref_of rx
    cases int_of ry
    split at hf
    · rename_i c hc
      split at hf
      · rename_i xs hx
        obtain ⟨us, hu, q⟩ := at_seq rs hc hx ha
        obtain ⟨z, hz, hp⟩ := opt_map hf
        obtain ⟨w, h1, h2⟩ := atI_rel q hz
        exact ix_list value slice pins s σ H _ _ _ _ Q I ru rv ⟨a, us, _, w, rfl, rfl, hu, h1, hP _ _ hp ι H w .refl rs h2⟩ hsub
      · exact hf.elim
    · exact hf.elim
  · cases str_of rx
    cases int_of ry
    split at hf
    · rename_i hl
      obtain ⟨c, hz, hp⟩ := opt_map' hf
      exact ix_str value slice pins s σ H _ _ _ _ Q I ru rv ⟨_, _, c, rfl, rfl, hl, hz, hP _ _ hp ι H _ .refl rs (.str _)⟩ hsub
    · exact hf.elim
  · exact hf.elim
theorem re_ix {a b : Expr} {wa wb : W} {pos : Pos} (ha : RE X a wa) (hb : RE X b wb) (hs : PlainIx b := by intro _ _; rfl) : RE X (.Subscript a b pos) (wOp fIx wa wb) := ⟨PE.weak (pe_ix ix_fIx ha.pe hb.pe hs) fun _ _ _ h => tOp_of h⟩

/-! ### slices -/
abbrev WO := PEnv → Store → (Option Int → Store → Prop) → Prop
def tWO (K : PySem.W.Frag) (w : WO) : TO := fun σ H Q => ∃ ι env S, ∃ P : Option Int → Store → Prop, REnv K ι H env σ ∧ RS K ι H S ∧ w env S P ∧ ∀ o S', P o S' → ∀ ι' H', Ext ι ι' H H' → RS K ι' H' S' → Q o H'
structure RO (X : Cx) (e : Option Expr) (w : WO) : Prop where
  po : PO X e (tWO X.K w)
theorem PO.weak {e : Option Expr} {t t' : TO} (h : PO X e t) (i : ∀ σ H Q, t' σ H Q → t σ H Q) : PO X e t' := by
  obtain ⟨r⟩ := h
  exact ⟨fun pins s σ H Q I q => r pins s σ H Q I (i σ H Q q)⟩
def wNoP : WO := fun _ S P => P none S
def wP (w : W) : WO := fun env S P => w env S fun x S1 => match x with
  | .int i => P (some i) S1
  | _ => False
theorem ro_none : RO X none wNoP := ⟨PO.weak po_none fun σ H Q ⟨ι, env, S, P, re, rs, hw, hP⟩ => hP _ _ hw ι H .refl rs⟩
theorem ro_some {e : Expr} {w : W} (h : RE X e w) : RO X (some e) (wP w) := by
  refine ⟨PO.weak (po_some h.pe) fun σ H Q ⟨ι, env, S, P, re, rs, hw, hP⟩ => ⟨ι, env, S, _, re, rs, hw, fun x S1 hx ι1 H1 v e1 rs1 rx => ?_⟩⟩
  cases x with
  | int i => cases int_of rx; exact ⟨i, rfl, hP _ _ hx ι1 H1 e1 rs1⟩
  | _ => exact hx.elim
def cutP (xs : List PV) (lo hi : Option Int) : List PV := (xs.drop (HT.sIx xs.length 0 lo)).take (HT.sIx xs.length xs.length hi - HT.sIx xs.length 0 lo)
theorem cut_rel {K : PySem.W.Frag} {ι : List Addr} {H : Hp} {xs : List PV} {us : List V} {lo hi : Option Int} (r : RVs K ι H xs us) : RVs K ι H (cutP xs lo hi) (cutV us lo hi) := by
  unfold cutP cutV
  rw [r.length]
  exact (r.drop _).take _
theorem cutP_whole {xs : List PV} {lo hi : Option Int} (h : HT.sIx xs.length 0 lo = 0 ∧ HT.sIx xs.length xs.length hi = xs.length) : cutP xs lo hi = xs := by
  unfold cutP
  rw [h.1, h.2]
  simp
abbrev FS := PV → Option Int → Option Int → Store → Option (PV × Store)
def fSl : FS
  | .tup xs, lo, hi, S => some (.tup (cutP xs lo hi), S)
  | .ref n, lo, hi, S => match S[n]? with
    | some c => match c.items with
      | some xs => some (.ref S.length, S ++ [.lst (cutP xs lo hi)])
      | none => none
    | none => none
  | .str z, lo, hi, S => if z.length ≤ sizeLine then some (.str (cutS z lo hi), S) else none
  | _, _, _, _ => none
def rSl (K : PySem.W.Frag) : V → Option Int → Option Int → Hp → VK → Prop := fun u lo hi H Q => ∃ ι S x, ∃ P : PQ, RS K ι H S ∧ RV K ι H x u ∧ opt (fSl x lo hi S) P ∧ ∀ z S', P z S' → Fin K ι H Q z S'
theorem sl_fSl : SlR X (rSl X.K) := by
  intro pins s σ H u v vl vu lo hi sl Q I ru hs pl pu ⟨ι, S, x, P, rs, rx, hf, hP⟩
  unfold fSl at hf
  split at hf
  · obtain ⟨a, us, rfl, sa, qa⟩ := tup_of rx
    refine sl_tupA pins s σ H _ _ _ _ _ _ _ Q I ru hs pl pu ⟨a, us, rfl, sa, fun h => ?_, fun _ => new_tup rs (cut_rel qa) hP hf⟩
    rw [← qa.length] at h
    have e := cutP_whole h
    have hf' : P (.tup (cutP _ lo hi)) S := hf
    rw [e] at hf'
    exact hP _ _ hf' ι H _ .refl rs (.tup sa qa)
  · obtain ⟨a, rfl, ha⟩ := ref_of rx
    split at hf
    · rename_i c hc
      split at hf
      · rename_i xs hx
        obtain ⟨us, hu, q⟩ := at_seq rs hc hx ha
        exact sl_list pins s σ H _ _ _ _ _ _ _ Q I ru hs pl pu ⟨a, us, rfl, hu, new_lst rs (cut_rel q) hP hf⟩
      · exact hf.elim
    · exact hf.elim
  · cases str_of rx
    obtain ⟨c, h⟩ := opt_ite hf
    exact sl_str pins s σ H _ _ _ _ _ _ _ Q I ru hs pl pu ⟨_, rfl, c, hP _ _ h ι H _ .refl rs (.str _)⟩
  · exact hf.elim
def wSl (wa : W) (wl wh : WO) : W := fun env S P => wa env S fun x S1 => wl env S1 fun l S2 => wh env S2 fun h S3 => opt (fSl x l h S3) P
theorem re_slice {e : Expr} {lo hi : Option Expr} {wa : W} {wl wh : WO} {p2 pos : Pos} (ha : RE X e wa) (hl : RO X lo wl) (hh : RO X hi wh) : RE X (.Subscript e (.Slice lo hi none p2) pos) (wSl wa wl wh) := by
  refine ⟨PE.weak (pe_slice sl_fSl ha.pe hl.po hh.po) fun σ H Q ⟨ι, env, S, P, re, rs, hw, hP⟩ => ⟨ι, env, S, _, re, rs, hw, fun x S1 hx ι1 H1 v e1 rs1 rx => ?_⟩⟩
  refine ⟨ι1, env, S1, _, re.mono e1, rs1, hx, fun l S2 h2 ι2 H2 e2 rs2 => ⟨ι2, env, S2, _, re.mono (e1.trans e2), rs2, h2, fun h S3 h3 ι3 H3 e3 rs3 => ?_⟩⟩
  exact ⟨ι3, S3, x, P, rs3, rx.mono (e2.trans e3), h3, fin_ext ((e1.trans e2).trans e3) hP⟩

/-! ### dicts by written keys -/
theorem kV_key {K : PySem.W.Frag} {ι : List Addr} {H : Hp} {k : Key} : RV K ι H (match k with | .inl i => .int i | .inr x => .str x) (kV k) := by
  cases k with
  | inl i => exact .int i
  | inr x => exact .str x
def lookK (k : Key) : List (Key × PV) → Option PV
  | [] => none
  | (j, x) :: r => if j = k then some x else lookK k r
def putP (kvs : List (Key × PV)) (k : Key) (y : PV) : List (Key × PV) :=
  if (kvs.any fun kv => decide (kv.1 = k)) = true then kvs.map (fun kv => if kv.1 = k then (kv.1, y) else kv) else kvs ++ [(k, y)]
def keyOf : PV → Option Key
  | .int i => some (.inl i)
  | .str x => some (.inr x)
  | _ => none
theorem keyOf_of {K : PySem.W.Frag} {ι : List Addr} {H : Hp} {y : PV} {v : V} {k : Key} (r : RV K ι H y v) (h : keyOf y = some k) : v = kV k := by
  unfold keyOf at h
  split at h
  · cases h; exact int_of r
  · cases h; exact str_of r
  · cases h
theorem RKs.look {K : PySem.W.Frag} {ι : List Addr} {H : Hp} {k : Key} : ∀ {kvs : List (Key × PV)} {us : List (Key × V)} {x : PV}, RKs K ι H kvs us → lookK k kvs = some x → ∃ v, valV us k = some v ∧ RV K ι H x v
  | _, _, _, .nil, e => by cases e
  | _, _, _, .cons (k := j) r t, e => by
    unfold lookK at e
    split at e
    · rename_i hj
      cases e
      exact ⟨_, valV_pos hj, r⟩
    · rename_i hj
      obtain ⟨v, h1, h2⟩ := t.look e
      exact ⟨v, by rw [valV_neg hj]; exact h1, h2⟩
theorem RKs.length {K : PySem.W.Frag} {ι : List Addr} {H : Hp} : ∀ {kvs : List (Key × PV)} {us : List (Key × V)}, RKs K ι H kvs us → kvs.length = us.length
  | _, _, .nil => rfl
  | _, _, .cons _ t => congrArg (· + 1) t.length

theorem RKs.any {K : PySem.W.Frag} {ι : List Addr} {H : Hp} {k : Key} : ∀ {kvs : List (Key × PV)} {us : List (Key × V)}, RKs K ι H kvs us → (kvs.any fun kv => decide (kv.1 = k)) = (us.any fun kv => decide (kv.1 = k))
  | _, _, .nil => rfl
  | _, _, .cons r t => by simp only [List.any_cons, t.any]
theorem RKs.repl {K : PySem.W.Frag} {ι : List Addr} {H : Hp} {k : Key} {y : PV} {v : V} (r : RV K ι H y v) : ∀ {kvs : List (Key × PV)} {us : List (Key × V)}, RKs K ι H kvs us →
    RKs K ι H (kvs.map fun kv => if kv.1 = k then (kv.1, y) else kv) (us.map fun kv => if kv.1 = k then (kv.1, v) else kv)
  | _, _, .nil => .nil
  | _, _, .cons (k := j) q t => by
    simp only [List.map_cons]
    by_cases e : j = k
    · rw [if_pos e, if_pos e]; exact .cons r (RKs.repl r t)
    · rw [if_neg e, if_neg e]; exact .cons q (RKs.repl r t)
theorem RKs.snoc {K : PySem.W.Frag} {ι : List Addr} {H : Hp} {k : Key} {y : PV} {v : V} (r : RV K ι H y v) : ∀ {kvs : List (Key × PV)} {us : List (Key × V)}, RKs K ι H kvs us → RKs K ι H (kvs ++ [(k, y)]) (us ++ [(k, v)])
  | _, _, .nil => .cons r .nil
  | _, _, .cons q t => .cons q (RKs.snoc r t)
theorem RKs.put {K : PySem.W.Frag} {ι : List Addr} {H : Hp} {k : Key} {y : PV} {v : V} {kvs : List (Key × PV)} {us : List (Key × V)} (h : RKs K ι H kvs us) (r : RV K ι H y v) : RKs K ι H (putP kvs k y) (putK us k v) := by
  unfold putP putK
  rw [h.any (k := k)]
  split
  · exact h.repl r
  · exact h.snoc r
def fGet : F2 := fun x y S => match x, keyOf y with
  | .ref n, some k => match S[n]? with
    | some (.dic kvs) => (lookK k kvs).map fun v => (v, S)
    | _ => none
  | _, _ => none
theorem re_dget {o i : Expr} {wo wi : W} {pos : Pos} (hu : X.A.units + 1 < cLine) (ho : RE X o wo) (hi : RE X i wi) (hs : NoSl i := by intro _ _; rfl) : RE X (.Subscript o i pos) (wOp fGet wo wi) := by
  refine ⟨PE.weak (pe_dget hu ho.pe hi.pe hs) fun σ H Q h => ?_⟩
  refine tW_imp (tW_bind (k := fun x env S P => wi env S fun y S2 => opt (fGet x y S2) P) h) fun v H1 h1 => ?_
  refine tW_imp (tK_bind (k := fun x y env S P => opt (fGet x y S) P) h1) fun u H2 h2 => ?_
  obtain ⟨ι, env, S, x, y, P, re, rs, rx, ry, hf, hP⟩ := h2
  unfold fGet at hf
  split at hf
  · rename_i n k hk
    obtain ⟨a, rfl, ha⟩ := ref_of rx
    cases keyOf_of ry hk
    split at hf
    · rename_i kvs hn
      obtain ⟨us, hu', q⟩ := at_dic rs hn ha
      obtain ⟨z, hz, hp⟩ := opt_map hf
      obtain ⟨w, h1, h2⟩ := q.look hz
      exact ⟨a, w, rfl, by rw [← h1]; exact DGet.k hu', hP _ _ hp ι H2 w .refl rs h2⟩
    · exact hf.elim
  · exact hf.elim
/-! {k: v, ..} with written keys -/
def wPairs : List (Key × W) → PEnv → Store → (List (Key × PV) → Store → Prop) → Prop
  | [], _, S, P => P [] S
  | (k, w) :: r, env, S, P => w env S fun x S1 => wPairs r env S1 fun kvs S2 => P ((k, x) :: kvs) S2
/-- the new dict stands empty while the pairs are made -/
def wDict (ps : List (Key × W)) : W := fun env S P => wPairs ps env (S ++ [.dic []]) fun kvs S1 => S1[S.length]? = some (.dic []) ∧ kvs.length ≤ 15 ∧ P (.ref S.length) (S1.set S.length (.dic (kvs.foldl (fun acc kv => putP acc kv.1 kv.2) [])))
def keyE : Key → Const
  | .inl i => .int i
  | .inr x => .str x
def keyT : Key → TE
  | .inl i => tC (.int i)
  | .inr x => tC (.str x)
inductive RPs (X : Cx) (pos : Pos) : List (Option Expr) → List Expr → List (Key × W) → Prop
  | nil : RPs X pos [] [] []
  | cons {k : Key} {j : Nat} {p : Pos} {e : Expr} {w : W} {ks : List (Option Expr)} {vs : List Expr} {ps : List (Key × W)} : RE X e w → RPs X pos ks vs ps → RPs X pos (some (.Constant (keyE k) j p) :: ks) (e :: vs) ((k, w) :: ps)
theorem pps_of {pos : Pos} : ∀ {ks : List (Option Expr)} {vs : List Expr} {ps : List (Key × W)}, RPs X pos ks vs ps → PPs X pos ks vs (ps.map fun p => (keyT p.1, tW X.K p.2))
  | _, _, _, .nil => pps_nil
  | _, _, _, .cons (k := k) h r => by
    refine pps_cons ?_ h.pe (pps_of r)
    cases k with
    | inl i => exact pe_int
    | inr x => exact pe_str
theorem pairs_of {K : PySem.W.Frag} {σ : LSt} : ∀ {ps : List (Key × W)} {H : Hp} {Q : List (V × V) → Hp → Prop} {ι : List Addr} {env : PEnv} {S : Store} {P : List (Key × PV) → Store → Prop}, REnv K ι H env σ → RS K ι H S → wPairs ps env S P →
    (∀ kvs S', P kvs S' → ∀ ι' H' us, Ext ι ι' H H' → RS K ι' H' S' → RKs K ι' H' kvs us → Q (us.map fun u => (kV u.1, u.2)) H') → tPairs (ps.map fun p => (keyT p.1, tW K p.2)) σ H Q
  | [], H, Q, ι, env, S, P, re, rs, hw, hP => hP [] S hw ι H [] .refl rs .nil
  | (k, w) :: r, H, Q, ι, env, S, P, re, rs, hw, hP => by
    have go : tW K w σ H fun v H1 => tPairs (r.map fun p => (keyT p.1, tW K p.2)) σ H1 fun ps H2 => Q ((kV k, v) :: ps) H2 := by
      refine ⟨ι, env, S, _, re, rs, hw, fun x S1 hx ι1 H1 v e1 rs1 rx => ?_⟩
      refine pairs_of (re.mono e1) rs1 hx fun kvs S2 h2 ι2 H2 us e2 rs2 rk => ?_
      exact hP _ _ h2 ι2 H2 ((k, v) :: us) (e1.trans e2) rs2 (.cons (rx.mono e2) rk)
    cases k with
    | inl i => exact go
    | inr x => exact go
theorem RKs.merge {K : PySem.W.Frag} {ι : List Addr} {H : Hp} : ∀ {more : List (Key × PV)} {us : List (Key × V)} {kvs : List (Key × PV)} {ws : List (Key × V)}, RKs K ι H more us → RKs K ι H kvs ws → RKs K ι H (more.foldl (fun acc kv => putP acc kv.1 kv.2) kvs) (mergeK ws us)
  | _, _, _, _, .nil, h => h
  | _, _, _, _, .cons r t, h => by
    unfold mergeK
    simp only [List.foldl_cons]
    exact RKs.merge t (h.put r)
theorem re_dict {ks : List (Option Expr)} {vs : List Expr} {ps : List (Key × W)} {pos : Pos} (h : RPs X pos ks vs ps) (hall : ks.all (·.isSome) = true := by rfl) (hl : ks.length = vs.length := by rfl) (h0 : ks ≠ [] := by intro z; cases z) (h15 : ks.length ≤ 15 := by decide) : RE X (.Dict ks vs pos) (wDict ps) := by
  refine ⟨PE.weak (pe_disp (pps_of h) hall hl h0 h15) fun σ H Q ⟨ι, env, S, P, re, rs, hw, hP⟩ p hp => ?_⟩
  have E : Ext ι (ι ++ [p]) H (upd H p (.dK [])) := ext_new hp
  have rs1 : RS X.K (ι ++ [p]) (upd H p (.dK [])) (S ++ [.dic []]) := rs.cell hp ⟨[], upd_same, .nil⟩
  have hat : (ι ++ [p])[S.length]? = some p := by rw [← rs.len, List.getElem?_append_right (Nat.le_refl _), Nat.sub_self]; rfl
  refine pairs_of (re.mono E) rs1 hw fun kvs S2 h2 ι2 H2 us e2 rs2 rk => ?_
  obtain ⟨g1, g2, g3⟩ := h2
  have hat2 := e2.pre _ _ hat
  obtain ⟨ws, hw2, q⟩ := at_dic rs2 g1 hat2
  cases q
  refine ⟨hw2, us, rfl, by rw [← rk.length]; exact g2, ?_⟩
  obtain ⟨rs3, E3⟩ := rs2.write (c' := .dic (kvs.foldl (fun acc kv => putP acc kv.1 kv.2) [])) (o' := .dK (mergeK [] us)) g1 hat2 rfl rfl fun E3 => ⟨_, upd_same, (RKs.merge rk .nil).mono E3⟩
  exact hP _ _ g3 ι2 _ _ ((E.trans e2).trans E3) rs3 (.ref hat2)
theorem re_dict0 {pos : Pos} : RE X (.Dict [] [] pos) (fun _ S P => P (.ref S.length) (S ++ [.dic []])) := by
  refine ⟨PE.weak pe_dnewK fun σ H Q ⟨ι, env, S, P, re, rs, hw, hP⟩ p hp => ?_⟩
  refine hP _ _ hw _ _ _ (ext_new hp) (rs.cell hp ⟨[], upd_same, .nil⟩) (.ref ?_)
  rw [← rs.len, List.getElem?_append_right (Nat.le_refl _), Nat.sub_self]; rfl
end
end Lt
set_option Elab.async false
set_option linter.all false
set_option maxRecDepth 100000
/-! Lt5: targets, what is walked, comprehensions, statements. -/
namespace Lt
open PySem PySem.Spec PyProof.Rows L2

/-! ### targets -/
abbrev WG := PV → PEnv → Option PEnv
abbrev WGs := List PV → PEnv → Option PEnv
def SameW (sl : List Nat) (σ σ' : LSt) : Prop := ∀ vs : List Nat, (∀ i ∈ sl, i ∈ vs) → wipe σ' vs = wipe σ vs
def tG (K : PySem.W.Frag) (g : WG) (sl : List Nat) : TG := fun v σ H Q => ∃ ι x env env', REnv K ι H env σ ∧ RV K ι H x v ∧ g x env = some env' ∧ ∀ σ', REnv K ι H env' σ' → SameW sl σ σ' → Q σ' H
def tGs (K : PySem.W.Frag) (g : WGs) (sl : List Nat) : TGs := fun vs σ H Q => ∃ ι xs env env', REnv K ι H env σ ∧ RVs K ι H xs vs ∧ g xs env = some env' ∧ ∀ σ', REnv K ι H env' σ' → SameW sl σ σ' → Q σ' H
structure RG (X : Cx) (target : Expr) (g : WG) (sl : List Nat) : Prop where
  pg : PG X target (tG X.K g sl)
structure RGs (X : Cx) (ts : List Expr) (g : WGs) (sl : List Nat) (n : Nat) : Prop where
  pg : PGs X ts (tGs X.K g sl)
  len : ∀ xs env env', g xs env = some env' → xs.length = n
theorem PG.weak {X : Cx} {e : Expr} {t t' : TG} (h : PG X e t) (i : ∀ v σ H Q, t' v σ H Q → t v σ H Q) : PG X e t' := ⟨fun pins s σ H v u Q I r q => h.run pins s σ H v u Q I r (i v σ H Q q)⟩
theorem PGs.weak {X : Cx} {e : List Expr} {t t' : TGs} (h : PGs X e t) (i : ∀ v σ H Q, t' v σ H Q → t v σ H Q) : PGs X e t' := ⟨fun pins s σ H v u Q I r q => h.run pins s σ H v u Q I r (i v σ H Q q)⟩
theorem wipe_get (σ : LSt) (j : Nat) : ∀ vs : List Nat, (wipe σ vs)[j]? = if j ∈ vs then (σ[j]?).map (fun _ => (none : Option V)) else σ[j]?
  | [] => by simp [wipe]
  | v :: vs => by
    unfold wipe
    have ih := wipe_get σ j vs
    by_cases h : v = j
    · subst h
      rw [if_pos (List.mem_cons_self ..)]
      by_cases hl : v < (wipe σ vs).length
      · rw [List.getElem?_set_self hl]
        have hl2 : v < σ.length := by rw [wipe_length] at hl; exact hl
        rw [List.getElem?_eq_getElem hl2]; rfl
      · rw [List.getElem?_eq_none (by simpa using hl)]
        have hl2 : ¬ v < σ.length := by rw [wipe_length] at hl; exact hl
        rw [List.getElem?_eq_none (by omega)]; rfl
    · rw [List.getElem?_set_ne h, ih]
      have : (j ∈ v :: vs) ↔ j ∈ vs := by
        rw [List.mem_cons]
        exact ⟨fun q => q.elim (fun z => absurd z.symm h) id, .inr⟩
      by_cases hj : j ∈ vs
      · rw [if_pos hj, if_pos (this.mpr hj)]
      · rw [if_neg hj, if_neg (fun q => hj (this.mp q))]
theorem sameW_set {σ : LSt} {i : Nat} {v : Option V} : SameW [i] σ (σ.set i v) := fun vs h => by
  have hi : i ∈ vs := h i (List.mem_cons_self ..)
  apply List.ext_getElem?
  intro j
  rw [wipe_get, wipe_get]
  by_cases hj : i = j
  · subst hj
    rw [if_pos hi, if_pos hi]
    by_cases hl : i < σ.length
    · rw [List.getElem?_set_self hl, List.getElem?_eq_getElem hl]; rfl
    · rw [List.getElem?_eq_none (by simpa using hl), List.getElem?_eq_none (by simpa using hl)]
  · rw [List.getElem?_set_ne hj]
theorem SameW.trans {a b : List Nat} {σ σ' σ'' : LSt} (h : SameW a σ σ') (h' : SameW b σ' σ'') : SameW (a ++ b) σ σ'' := fun vs hv =>
  (h' vs fun i hi => hv i (List.mem_append_right _ hi)).trans (h vs fun i hi => hv i (List.mem_append_left _ hi))
theorem REnv.set {K : PySem.W.Frag} {ι : List Addr} {H : Hp} {env : PEnv} {σ : LSt} (h : REnv K ι H env σ) {i : Nat} {x : PV} {v : V} (r : RV K ι H x v) : REnv K ι H (env.set i (some x)) (σ.set i (some v)) := by
  refine ⟨by rw [List.length_set, List.length_set]; exact h.len, fun j y hy => ?_⟩
  by_cases hj : i = j
  · subst hj
    have hl : i < env.length := by
      have := (List.getElem?_eq_some_iff.mp hy).1
      rwa [List.length_set] at this
    rw [List.getElem?_set_self hl] at hy
    cases hy
    exact ⟨v, by rw [List.getElem?_set_self (by rw [← h.len]; exact hl)], r⟩
  · rw [List.getElem?_set_ne hj] at hy
    obtain ⟨w, h1, h2⟩ := h.at_ j y hy
    exact ⟨w, by rw [List.getElem?_set_ne hj]; exact h1, h2⟩
section
variable {X : Cx} {pos : Pos}
def gN (i : Nat) : WG := fun x env => some (env.set i (some x))
theorem rg_name (i : Nat) {x : Str} (hN : X.N.Nodup) (hi : X.N[i]? = some x := by rfl) (hx : Loc X.env.scope x := by first | exact Or.inl rfl | exact Or.inr rfl)
    (hf : X.fn x = true ∨ X.env.scope.names.lookup x = some .local := by first | exact .inl rfl | exact .inr rfl | assumption) : RG X (.Name x pos) (gN i) [i] := by
  refine ⟨PG.weak (pg_name hN hi hx hf) fun v σ H Q ⟨ι, x, env, env', re, rx, hg, hQ⟩ => ?_⟩
  cases hg
  exact hQ _ (re.set rx) sameW_set
def gsN : WGs := fun xs env => match xs with
  | [] => some env
  | _ :: _ => none
def gsC (g : WG) (r : WGs) : WGs := fun xs env => match xs with
  | [] => none
  | x :: xs => (g x env).bind fun env1 => r xs env1
theorem rgs_nil : RGs X [] gsN [] 0 := by
  refine ⟨PGs.weak pgs_nil fun vs σ H Q ⟨ι, xs, env, env', re, rx, hg, hQ⟩ => ?_, fun xs env env' h => ?_⟩
  · cases rx with
    | nil => cases hg; exact ⟨rfl, hQ σ re fun _ _ => rfl⟩
    | cons _ _ => cases hg
  · cases xs with
    | nil => rfl
    | cons _ _ => cases h
theorem rgs_cons {e : Expr} {es : List Expr} {g : WG} {r : WGs} {a b : List Nat} {n : Nat} (h1 : RG X e g a) (h2 : RGs X es r b n)
    (hs : (assignEach (e :: es) X.env).map (·.2) = assign e X.env :: (assignEach es X.env).map (·.2) := by rfl) : RGs X (e :: es) (gsC g r) (a ++ b) (n + 1) := by
  refine ⟨PGs.weak (pgs_cons h1.pg h2.pg hs) fun vs σ H Q ⟨ι, xs, env, env', re, rx, hg, hQ⟩ => ?_, fun xs env env' h => ?_⟩
  · cases rx with
    | nil => cases hg
    | cons rx rt =>
      obtain ⟨env1, e1, e2⟩ := Option.bind_eq_some_iff.mp hg
      refine ⟨_, _, rfl, ι, _, env, env1, re, rx, e1, fun σ1 re1 s1 => ?_⟩
      exact ⟨ι, _, env1, env', re1, rt, e2, fun σ2 re2 s2 => hQ σ2 re2 (s1.trans s2)⟩
  · cases xs with
    | nil => cases h
    | cons x xs =>
      obtain ⟨env1, e1, e2⟩ := Option.bind_eq_some_iff.mp h
      rw [List.length_cons, h2.len _ _ _ e2]
def gT (r : WGs) : WG := fun x env => match x with
  | .tup xs => r xs env
  | _ => none
theorem rg_tup {es : List Expr} {k n : Nat} {r : WGs} {a : List Nat} (hc : X.calm = true) (h : RGs X es r a n)
    (hn : (assignEach es X.env).length = n := by rfl) (hst : (assignEach es X.env).findIdx? (·.1) = none := by rfl) : RG X (.Tuple es k pos) (gT r) a := by
  refine ⟨PG.weak (pg_tup hc h.pg hn hst) fun v σ H Q ⟨ι, x, env, env', re, rx, hg, hQ⟩ => ?_⟩
  cases x with
  | tup xs =>
    obtain ⟨b, us, rfl, s, q⟩ := tup_of rx
    exact ⟨b, us, rfl, s, by rw [← q.length]; exact h.len _ _ _ hg, ι, xs, env, env', re, q, hg, hQ⟩
  | _ => cases hg
end

/-! ### what is walked -/
abbrev PIt := Nat → Store → Option (Option PV)
abbrev WI := PEnv → Store → (PIt → Store → Prop) → Prop
def PItOk (K : PySem.W.Frag) (J : It) (g : PIt) (ι0 : List Addr) (H0 : Hp) : Prop := ∀ ι H S i, Ext ι0 ι H0 H → RS K ι H S →
  (g i S = some none → J.stop i H) ∧ ∀ x, g i S = some (some x) → J.go i H ∧ ∀ v H', J.yld i H v H' → Ext ι ι H H' ∧ RS K ι H' S ∧ RV K ι H' x v
def tWI (K : PySem.W.Frag) (w : WI) : TI := fun σ H R => ∃ ι env S, ∃ P : PIt → Store → Prop, REnv K ι H env σ ∧ RS K ι H S ∧ w env S P ∧ ∀ g S', P g S' → ∀ ι' H' J, Ext ι ι' H H' → RS K ι' H' S' → PItOk K J g ι' H' → R J H'
structure RI (X : Cx) (tg iter : Expr) (w : WI) : Prop where
  pi : PI X tg iter (tWI X.K w)
theorem PI.weak {X : Cx} {tg e : Expr} {t t' : TI} (h : PI X tg e t) (i : ∀ σ H R, t' σ H R → t σ H R) : PI X tg e t' := ⟨fun pins s σ H R I q => h.run pins s σ H R I (i σ H R q)⟩
/-- a list or a tuple, whichever comes -/
theorem pi_seq {X : Cx} {tg l : Expr} {tl : TE} (hl : PE X l tl) : PI X tg l (fun σ H R => tl σ H fun x H1 => ∃ a, x = .ref a ∧ (((∃ xs, SqL X.K H1 a xs) ∧ R (Itl X.K a) H1) ∨ ((∃ xs, SqT X.K H1 a xs) ∧ R (Itt X.K a) H1))) := by
  refine ⟨fun pins s σ H R I h => thn (hl.run pins s σ H _ I h) fun v s1 hv => ?_⟩
  obtain ⟨x, H1, I1, r1, a, rfl, hq⟩ := hv
  cases r1
  have fp : ∀ b ∈ [s1.heap.objs.size], FpOk X pins H1 b := fun b hb => by
    rw [show b = s1.heap.objs.size by simpa using hb]
    exact I1.fpOk (Nat.le_refl _) (I1.hok.fresh (Nat.le_refl _))
  rcases hq with ⟨⟨xs, hq⟩, q⟩ | ⟨⟨xs, hq⟩, q⟩
  · obtain ⟨its, _, p, _⟩ := I1.list hq
    refine wpAny_pyIter_list p.isList ?_
    exact ⟨_, _, _, _, H1, rfl, I1.kept (t' := s1.toks) (fun b o e => Heap.get?_push_of_some _ e), turn_list a _, ⟨_, Heap.get?_push_size _ rfl, rfl, rfl⟩, fp, q⟩
  · obtain ⟨its, _, p, _⟩ := I1.tuple hq
    refine wpAny_pyIter_tuple (show s1.heap.IsTuple a its.toArray from p) ?_
    exact ⟨_, _, _, _, H1, rfl, I1.kept (t' := s1.toks) (fun b o e => Heap.get?_push_of_some _ e), turn_tuple a _, ⟨_, Heap.get?_push_size _ rfl, rfl, rfl⟩, fp, q⟩
def gL (n : Nat) : PIt := fun i S => match S[n]? with
  | some c => match c.items with
    | some xs => some xs[i]?
    | none => none
  | none => none
def gTu (xs : List PV) : PIt := fun i _ => some xs[i]?
def wSeqI (w : W) : WI := fun env S P => w env S fun x S1 => match x with
  | .tup xs => P (gTu xs) S1
  | .ref n => (∃ c xs, S1[n]? = some c ∧ c.items = some xs) ∧ P (gL n) S1
  | _ => False
theorem it_lst {K : PySem.W.Frag} {ι : List Addr} {H : Hp} {n : Nat} {a : Addr} (ha : ι[n]? = some a) : PItOk K (Itl K a) (gL n) ι H := by
  intro ι1 H1 S i e rs
  have ha1 := e.pre n a ha
  have key : ∀ r, gL n i S = some r → ∃ xs us, SqL K H1 a us ∧ RVs K ι1 H1 xs us ∧ r = xs[i]? := fun r h => by
    unfold gL at h
    split at h
    · rename_i c hc
      split at h
      · rename_i xs hx
        obtain ⟨us, hu, q⟩ := at_seq rs hc hx ha1
        exact ⟨xs, us, hu, q, (Option.some.inj h).symm⟩
      · cases h
    · cases h
  refine ⟨fun h => ?_, fun x h => ?_⟩
  · obtain ⟨xs, us, hu, q, e⟩ := key _ h
    exact ⟨us, hu, by rw [← q.length]; exact List.getElem?_eq_none_iff.mp e.symm⟩
  · obtain ⟨xs, us, hu, q, e⟩ := key _ h
    obtain ⟨v, h1, h2⟩ := q.get e.symm
    refine ⟨⟨us, v, hu, h1⟩, fun v' H' y => ?_⟩
    obtain ⟨rfl, y⟩ := y
    have := y us hu
    rw [h1] at this; cases this
    exact ⟨.refl, rs, h2⟩
theorem it_tup {K : PySem.W.Frag} {ι : List Addr} {H : Hp} {a : Addr} {xs : List PV} {us : List V} (ht : SqT K H a us) (r : RVs K ι H xs us) : PItOk K (Itt K a) (gTu xs) ι H := by
  intro ι1 H1 S i e rs
  have ht1 := e.sqT ht
  have r1 := r.mono e
  refine ⟨fun h => ?_, fun x h => ?_⟩
  · exact ⟨us, ht1, by rw [← r1.length]; exact List.getElem?_eq_none_iff.mp (Option.some.inj h)⟩
  · obtain ⟨v, h1, h2⟩ := r1.get (Option.some.inj h)
    refine ⟨⟨us, v, ht1, h1⟩, fun v' H' y => ?_⟩
    obtain ⟨rfl, y⟩ := y
    have := y us ht1
    rw [h1] at this; cases this
    exact ⟨.refl, rs, h2⟩
theorem ri_seq {X : Cx} {tg l : Expr} {w : W} (h : RE X l w) : RI X tg l (wSeqI w) := by
  refine ⟨PI.weak (pi_seq h.pe) fun σ H R ⟨ι, env, S, P, re, rs, hw, hP⟩ => ⟨ι, env, S, _, re, rs, hw, fun x S1 hx ι1 H1 v e1 rs1 rx => ?_⟩⟩
  cases x with
  | tup xs =>
    obtain ⟨a, us, rfl, s, q⟩ := tup_of rx
    exact ⟨a, rfl, .inr ⟨⟨us, s⟩, hP _ _ hx ι1 H1 _ e1 rs1 (it_tup s q)⟩⟩
  | ref n =>
    obtain ⟨a, rfl, ha⟩ := ref_of rx
    obtain ⟨⟨c, xs, hc, hi⟩, hp⟩ := hx
    obtain ⟨us, hu, q⟩ := at_seq rs1 hc hi ha
    exact ⟨a, rfl, .inl ⟨⟨us, hu⟩, hP _ _ hp ι1 H1 _ e1 rs1 (it_lst ha)⟩⟩
  | _ => exact hx.elim
def gR (lo : Int) (n : Nat) : PIt := fun i _ => if i < n then some (some (.int (lo + i))) else some none
theorem it_rng {K : PySem.W.Frag} {ι : List Addr} {H : Hp} {lo : Int} {n : Nat} : PItOk K (Itr lo n) (gR lo n) ι H := by
  intro ι1 H1 S i e rs
  refine ⟨fun h => ?_, fun x h => ?_⟩
  · unfold gR at h
    split at h
    · cases h
    · rename_i c; exact Nat.le_of_not_lt c
  · unfold gR at h
    split at h
    · rename_i c
      cases h
      refine ⟨c, fun v H' y => ?_⟩
      obtain ⟨rfl, rfl⟩ := y
      exact ⟨.refl, rs, .int _⟩
    · cases h
def wR1 (w : WA) : WI := fun env S P => w env S fun xs S1 => match xs with
  | [.int j] => (-(2 ^ 62) ≤ j ∧ j < 2 ^ 62) ∧ P (gR 0 j.toNat) S1
  | _ => False
def wR2 (w : WA) : WI := fun env S P => w env S fun xs S1 => match xs with
  | [.int i, .int j] => (-(2 ^ 62) ≤ i ∧ i < 2 ^ 62 ∧ -(2 ^ 62) ≤ j ∧ j < 2 ^ 62) ∧ P (gR i (j - i).toNat) S1
  | _ => False
theorem ri_range1 {X : Cx} {tg a : Expr} {w : WA} {p pos : Pos} (hg : Gl X "range") (hm : X.mg "range" = none) (ha : RA X [a] w) (hs : starEach [a] X.env = [(false, eval a X.env)] := by rfl) : RI X tg (.Call (.Name "range" p) [a] [] pos) (wR1 w) := by
  refine ⟨PI.weak (pi_range1 hg hm ha.pa hs) fun σ H R ⟨ι, env, S, P, re, rs, hw, hP⟩ => ⟨ι, env, S, _, re, rs, hw, fun xs S1 hx ι1 H1 vs e1 rs1 rx => ?_⟩⟩
  split at hx
  · obtain ⟨u, rfl, q⟩ := rvs1 rx
    cases int_of q
    exact ⟨_, rfl, hx.1.1, hx.1.2, hP _ _ hx.2 ι1 H1 _ e1 rs1 it_rng⟩
  · exact hx.elim
theorem ri_range2 {X : Cx} {tg a b : Expr} {w : WA} {p pos : Pos} (hg : Gl X "range") (hm : X.mg "range" = none) (ha : RA X [a, b] w) (hs : starEach [a, b] X.env = [(false, eval a X.env), (false, eval b X.env)] := by rfl) (hs2 : starEach [b] X.env = [(false, eval b X.env)] := by rfl) :
    RI X tg (.Call (.Name "range" p) [a, b] [] pos) (wR2 w) := by
  refine ⟨PI.weak (pi_range2 hg hm ha.pa hs hs2) fun σ H R ⟨ι, env, S, P, re, rs, hw, hP⟩ => ⟨ι, env, S, _, re, rs, hw, fun xs S1 hx ι1 H1 vs e1 rs1 rx => ?_⟩⟩
  split at hx
  · obtain ⟨u, v, rfl, q, q'⟩ := rvs2 rx
    cases int_of q; cases int_of q'
    exact ⟨_, _, rfl, hx.1, hP _ _ hx.2 ι1 H1 _ e1 rs1 it_rng⟩
  · exact hx.elim
/-- enumerate of a list -/
def gE (n : Nat) : PIt := fun i S => (gL n i S).map fun o => o.map fun x => .tup [.int (i : Nat), x]
def wEnum (w : WA) : WI := fun env S P => w env S fun xs S1 => match xs with
  | [.ref n] => (∃ c ys, S1[n]? = some c ∧ c.items = some ys) ∧ P (gE n) S1
  | _ => False
theorem ext_tup {ι : List Addr} {H : Hp} {p : Addr} {o : HO} (hp : H p = none) : Ext ι ι H (upd H p o) := by
  have := ext_new (ι := ι) (o := o) (l := []) hp
  rwa [List.append_nil] at this
theorem gL_of {K : PySem.W.Frag} {ι : List Addr} {H : Hp} {S : Store} {n i : Nat} {a : Addr} {r : Option PV} (rs : RS K ι H S) (ha : ι[n]? = some a) (h : gL n i S = some r) : ∃ xs us, SqL K H a us ∧ RVs K ι H xs us ∧ r = xs[i]? := by
  unfold gL at h
  split at h
  · rename_i c hc
    split at h
    · rename_i xs hx
      obtain ⟨us, hu, q⟩ := at_seq rs hc hx ha
      exact ⟨xs, us, hu, q, (Option.some.inj h).symm⟩
    · cases h
  · cases h
theorem it_enum {K : PySem.W.Frag} {ι : List Addr} {H : Hp} {n : Nat} {a : Addr} (ha : ι[n]? = some a) : PItOk K (Ite K a) (gE n) ι H := by
  intro ι1 H1 S i e rs
  refine ⟨fun h => ?_, fun x h => ?_⟩
  · obtain ⟨o, hg, ho⟩ := Option.map_eq_some_iff.mp h
    obtain ⟨xs, us, hu, q, e1⟩ := gL_of rs (e.pre n a ha) hg
    cases o with
    | some _ => cases ho
    | none => exact ⟨us, hu, by rw [← q.length]; exact List.getElem?_eq_none_iff.mp e1.symm⟩
  · obtain ⟨o, hg, ho⟩ := Option.map_eq_some_iff.mp h
    obtain ⟨xs, us, hu, q, e1⟩ := gL_of rs (e.pre n a ha) hg
    cases o with
    | none => cases ho
    | some y =>
      cases ho
      obtain ⟨v, hv, rv⟩ := q.get e1.symm
      refine ⟨⟨us, v, hu, hv⟩, fun v' H' q => ?_⟩
      obtain ⟨T, z, rfl, hT, rfl, hz⟩ := q
      have := hz us hu
      rw [hv] at this; cases this
      have E : Ext ι1 ι1 H1 (upd H1 T (.tup [.int (i : Nat), v])) := ext_tup hT
      exact ⟨E, rs.tup hT, .tup (SqT.of upd_same) (.cons (.int _) (.cons (rv.mono E) .nil))⟩
theorem ri_enum {X : Cx} {e : Expr} {w : WA} {p pos tpos : Pos} {elts : List Expr} {kk : Nat} (hg : Gl X "enumerate") (hm : X.mg "enumerate" = none) (ha : RA X [e] w) (hs : starEach [e] X.env = [(false, eval e X.env)] := by rfl) :
    RI X (.Tuple elts kk tpos) (.Call (.Name "enumerate" p) [e] [] pos) (wEnum w) := by
  refine ⟨PI.weak (pi_enum hg hm ha.pa hs) fun σ H R ⟨ι, env, S, P, re, rs, hw, hP⟩ => ⟨ι, env, S, _, re, rs, hw, fun xs S1 hx ι1 H1 vs e1 rs1 rx => ?_⟩⟩
  split at hx
  · obtain ⟨u, rfl, q⟩ := rvs1 rx
    obtain ⟨a, rfl, ha'⟩ := ref_of q
    obtain ⟨⟨c, ys, hc, hi⟩, hp⟩ := hx
    obtain ⟨us, hu, q⟩ := at_seq rs1 hc hi ha'
    exact ⟨a, us, rfl, hu, hP _ _ hp ι1 H1 _ e1 rs1 (it_enum ha')⟩
  · exact hx.elim

/-! ### list comprehensions -/
def wipeP (env : PEnv) : List Nat → PEnv
  | [] => env
  | v :: vs => (wipeP env vs).set v none
theorem REnv.wipe {K : PySem.W.Frag} {ι : List Addr} {H : Hp} {env : PEnv} {σ : LSt} (h : REnv K ι H env σ) : ∀ vs : List Nat, REnv K ι H (wipeP env vs) (L2.wipe σ vs)
  | [] => h
  | v :: vs => by
    have ih := REnv.wipe h vs
    unfold wipeP L2.wipe
    refine ⟨by rw [List.length_set, List.length_set]; exact ih.len, fun j y hy => ?_⟩
    by_cases hj : v = j
    · subst hj
      have hl : v < (wipeP env vs).length := by
        have := (List.getElem?_eq_some_iff.mp hy).1
        rwa [List.length_set] at this
      rw [List.getElem?_set_self hl] at hy
      cases hy
    · rw [List.getElem?_set_ne hj] at hy ⊢
      exact ih.at_ j y hy
structure RTs (X : Cx) (ifs : List Expr) (w : WT) : Prop where
  pt : PTs X ifs (tWT X.K w)
theorem PTs.weak {X : Cx} {e : List Expr} {t t' : TT} (h : PTs X e t) (i : ∀ σ H Q, t' σ H Q → t σ H Q) : PTs X e t' := ⟨fun pins s σ H Q I q => h.run pins s σ H Q I (i σ H Q q)⟩
def wYes : WT := fun _ S P => P true S
theorem rts_nil {X : Cx} : RTs X [] wYes := ⟨PTs.weak pts_nil fun σ H Q ⟨ι, env, S, P, re, rs, hw, hP⟩ => hP _ _ hw ι H .refl rs⟩
theorem rts_one {X : Cx} {c : Expr} {w : WT} (h : RT X c w) : RTs X [c] w := ⟨pts_one h.pt⟩
def wLcL (g : PIt) (tg : WG) (tt : WT) (te : W) (own : List Nat) (env0 : PEnv) (d : Nat) (P : PQ) : Nat → Nat → Store → Prop
  | 0, _, _ => False
  | m + 1, i, S => match g i S with
    | some none => P (.ref d) S
    | some (some x) => match tg x (wipeP env0 own) with
      | some env1 => tt env1 S fun b S1 => match b with
        | true => te env1 S1 fun y S2 => match S2[d]? with
          | some (.lst acc) => acc.length < sizeLine ∧ wLcL g tg tt te own env0 d P m (i + 1) (S2.set d (.lst (acc ++ [y])))
          | _ => False
        | false => wLcL g tg tt te own env0 d P m (i + 1) S1
      | none => False
    | none => False
def wLc (wi : WI) (tg : WG) (tt : WT) (te : W) (own : List Nat) : W := fun env S P => wi env S fun g S1 => ∃ m, wLcL g tg tt te own env S1.length P m 0 (S1 ++ [.lst []])
theorem tLc_of {K : PySem.W.Frag} {wi : WI} {tg : WG} {tt : WT} {te : W} {own sl : List Nat} (hsl : ∀ i ∈ sl, i ∈ own) {σ : LSt} {H : Hp} {Q : VK} (h : tW K (wLc wi tg tt te own) σ H Q) :
    tLc (tWI K wi) (tG K tg sl) (tWT K tt) (tW K te) own σ H Q := by
  obtain ⟨ι, env, S, P, re, rs, hw, hP⟩ := h
  refine ⟨ι, env, S, _, re, rs, hw, fun g S1 hx ι1 H1 J e1 rs1 ok => ?_⟩
  obtain ⟨m0, hm⟩ := hx
  intro D hD
  have E : Ext ι1 (ι1 ++ [D]) H1 (upd H1 D (.lst [])) := ext_new hD
  have rs2 : RS K (ι1 ++ [D]) (upd H1 D (.lst [])) (S1 ++ [.lst []]) := rs1.cell hD ⟨[], upd_same, .nil⟩
  have hat : (ι1 ++ [D])[S1.length]? = some D := by rw [← rs1.len, List.getElem?_append_right (Nat.le_refl _), Nat.sub_self]; rfl
  refine ⟨fun i m H' => ∃ ι' S', Ext (ι1 ++ [D]) ι' (upd H1 D (.lst [])) H' ∧ RS K ι' H' S' ∧ wLcL g tg tt te own env S1.length P m i S', ⟨m0, ι1 ++ [D], _, .refl, rs2, hm⟩, ?_⟩
  rintro i m H' ⟨ι', S', E', rs', hl⟩
  cases m with
  | zero => exact hl.elim
  | succ m =>
    obtain ⟨k1, k2⟩ := ok ι' H' S' i (E.trans E') rs'
    unfold wLcL at hl
    split at hl
    · rename_i hg
      exact .inl ⟨k1 hg, hP _ _ hl ι' H' _ ((e1.trans E).trans E') rs' (.ref (E'.pre _ _ hat))⟩
    · rename_i x hg
      obtain ⟨go, yl⟩ := k2 x hg
      refine .inr ⟨go, fun H'' => ∃ ι'' S'', Ext (ι1 ++ [D]) ι'' (upd H1 D (.lst [])) H'' ∧ RS K ι'' H'' S'' ∧ wLcL g tg tt te own env S1.length P m (i + 1) S'', fun H'' n => ⟨m, Nat.lt_succ_self _, n⟩, fun v H2 y => ?_⟩
      obtain ⟨e2, rs2', rv⟩ := yl v H2 y
      split at hl
      · rename_i env1 ht
        have EE : Ext ι ι' H H2 := ((e1.trans E).trans E').trans e2
        refine ⟨ι', x, wipeP env own, env1, (re.mono EE).wipe own, rv, ht, fun σ' re' sw => ?_⟩
        refine ⟨?_, ?_⟩
        · rw [sw own hsl]
          apply List.ext_getElem?
          intro j
          rw [wipe_get, wipe_get]
          by_cases hj : j ∈ own
          · rw [if_pos hj, if_pos hj]
            cases (σ[j]?) <;> rfl
          · rw [if_neg hj, if_neg hj]
        · refine ⟨ι', env1, S', _, re', rs2', hl, fun b S2 hb ι3 H3 e3 rs3 => ?_⟩
          cases b with
          | false => exact ⟨ι3, S2, (E'.trans e2).trans e3, rs3, hb⟩
          | true =>
            refine ⟨ι3, env1, S2, _, re'.mono e3, rs3, hb, fun z S3 hz ι4 H4 u e4 rs4 rz => ?_⟩
            have E4 : Ext (ι1 ++ [D]) ι4 (upd H1 D (.lst [])) H4 := ((E'.trans e2).trans e3).trans e4
            have hd := E4.pre _ _ hat
            split at hz
            · rename_i acc hacc
              obtain ⟨us, hu, q⟩ := at_lst rs4 hacc hd
              obtain ⟨rs5, E5⟩ := rs4.write (c' := .lst (acc ++ [z])) (o' := .lst (us ++ [u])) hacc hd rfl rfl fun E5 => ⟨_, upd_same, (q.snoc rz).mono E5⟩
              exact ⟨us, hu, by rw [← q.length]; exact hz.1, ι4, _, E4.trans E5, rs5, hz.2⟩
            · exact hz.elim
      · exact hl.elim
    · exact hl.elim
section
variable {X : Cx} {elt tg iter : Expr} {ifs : List Expr} {scope : Scope} {own : List (Str × Nat)} {pos : Pos} {wi : WI} {g : WG} {sl : List Nat} {tt : WT} {te : W}
theorem re_lc (hc : X.calm = true) (hN : X.N.Nodup) (hi : RI X tg iter wi) (ok : BlkOk X.N X.env.scope scope own) (hsl : ∀ i ∈ sl, i ∈ own.map (·.2))
    (hg : ∀ (s : Shared) (H : Hp) (C : Addr) (cl : List (Str × Addr)) (fp : List Addr), RG (X.blk s H scope (compEnvC scope cl C X.env) fp) tg g sl) (ht : ∀ (s : Shared) (H : Hp) (C : Addr) (cl : List (Str × Addr)) (fp : List Addr), RTs (X.blk s H scope (compEnvC scope cl C X.env) fp) ifs tt)
    (he : ∀ (s : Shared) (H : Hp) (C : Addr) (cl : List (Str × Addr)) (fp : List Addr), RE (X.blk s H scope (compEnvC scope cl C X.env) fp) elt te) (hs : ∀ x, foldedSetIterable iter X.env x = pure x := by intro _; rfl) :
    RE X (.ListComp elt [⟨tg, iter, ifs, 0⟩] scope pos) (wLc wi g tt te (own.map (·.2))) :=
  ⟨PE.weak (pe_lc hc hN hi.pi ok (fun s H C cl fp => (hg s H C cl fp).pg) (fun s H C cl fp => (ht s H C cl fp).pt) (fun s H C cl fp => (he s H C cl fp).pe) hs) fun _ _ _ h => tLc_of hsl h⟩
end

/-! ### statements -/
structure PEnds where
  nx : PEnv → Store → Prop
  rt : PQ
  bk : PEnv → Store → Prop
  ct : PEnv → Store → Prop
abbrev WS := PEnv → Store → PEnds → Prop
def FinN (K : PySem.W.Frag) (ι : List Addr) (H : Hp) (q : LSt → Hp → Prop) (env' : PEnv) (S' : Store) : Prop := ∀ ι' H' σ', Ext ι ι' H H' → RS K ι' H' S' → REnv K ι' H' env' σ' → q σ' H'
structure FinS (K : PySem.W.Frag) (ι : List Addr) (H : Hp) (P : PEnds) (D : Ends) : Prop where
  nx : ∀ env' S', P.nx env' S' → FinN K ι H D.nx env' S'
  rt : ∀ x S', P.rt x S' → Fin K ι H D.rt x S'
  bk : ∀ env' S', P.bk env' S' → FinN K ι H D.bk env' S'
  ct : ∀ env' S', P.ct env' S' → FinN K ι H D.ct env' S'
theorem FinN.ext {K : PySem.W.Frag} {ι ι1 : List Addr} {H H1 : Hp} {q : LSt → Hp → Prop} {env' : PEnv} {S' : Store} (e : Ext ι ι1 H H1) (h : FinN K ι H q env' S') : FinN K ι1 H1 q env' S' := fun ι' H' σ' e' => h ι' H' σ' (e.trans e')
theorem FinS.ext {K : PySem.W.Frag} {ι ι1 : List Addr} {H H1 : Hp} {P : PEnds} {D : Ends} (e : Ext ι ι1 H H1) (h : FinS K ι H P D) : FinS K ι1 H1 P D :=
  ⟨fun a b c => (h.nx a b c).ext e, fun a b c => (h.rt a b c).ext e, fun a b c => (h.bk a b c).ext e, fun a b c => (h.ct a b c).ext e⟩
def tWS (K : PySem.W.Frag) (w : WS) : TS := fun D σ H => ∃ ι env S P, REnv K ι H env σ ∧ RS K ι H S ∧ w env S P ∧ FinS K ι H P D
structure JS (X : Cx) (st : Stmt) (w : WS) : Prop where
  ps : PS X st (tWS X.K w)
structure JB (X : Cx) (sts : List Stmt) (w : WS) : Prop where
  ps : PSs X sts (tWS X.K w)
theorem PS.weak {X : Cx} {e : Stmt} {t t' : TS} (h : PS X e t) (i : ∀ D σ H, t' D σ H → t D σ H) : PS X e t' := ⟨fun pins s σ H D I q => h.run pins s σ H D I (i D σ H q)⟩
theorem PSs.weak {X : Cx} {e : List Stmt} {t t' : TS} (h : PSs X e t) (i : ∀ D σ H, t' D σ H → t D σ H) : PSs X e t' := ⟨fun pins s σ H D I q => h.run pins s σ H D I (i D σ H q)⟩
section
variable {X : Cx} {st : Stmt} {rest : List Stmt} {w w2 : WS} {e : Expr} {we : W} {pos : Pos}
def wNx : WS := fun env S D => D.nx env S
def wSq (a b : WS) : WS := fun env S D => a env S { D with nx := fun env1 S1 => b env1 S1 D }
theorem jb_nil : JB X [] wNx := ⟨PSs.weak pss_nil fun D σ H ⟨ι, env, S, P, re, rs, hw, hP⟩ => hP.nx _ _ hw ι H σ .refl rs re⟩
theorem jb_cons (h : JS X st w) (h2 : JB X rest w2) : JB X (st :: rest) (wSq w w2) := by
  refine ⟨PSs.weak (pss_cons h.ps h2.ps) fun D σ H ⟨ι, env, S, P, re, rs, hw, hP⟩ => ⟨ι, env, S, _, re, rs, hw, ?_, hP.rt, hP.bk, hP.ct⟩⟩
  exact fun env1 S1 hx ι1 H1 σ1 e1 rs1 re1 => ⟨ι1, env1, S1, P, re1, rs1, hx, hP.ext e1⟩
theorem jb_one (h : JS X st w) : JB X [st] w := ⟨pss_one h.ps⟩
theorem js_pass : JS X (.Pass pos) wNx := ⟨PS.weak ps_pass fun D σ H ⟨ι, env, S, P, re, rs, hw, hP⟩ => hP.nx _ _ hw ι H σ .refl rs re⟩
theorem js_break : JS X (.Break pos) (fun env S D => D.bk env S) := ⟨PS.weak ps_break fun D σ H ⟨ι, env, S, P, re, rs, hw, hP⟩ => hP.bk _ _ hw ι H σ .refl rs re⟩
theorem js_continue : JS X (.Continue pos) (fun env S D => D.ct env S) := ⟨PS.weak ps_continue fun D σ H ⟨ι, env, S, P, re, rs, hw, hP⟩ => hP.ct _ _ hw ι H σ .refl rs re⟩
def wDrop (we : W) : WS := fun env S D => we env S fun _ S1 => D.nx env S1
theorem js_expr (h : RE X e we) (hs : swapsWith e none pos.line X.env = pure false := by rfl) : JS X (.Expr e pos) (wDrop we) :=
  ⟨PS.weak (ps_expr h.pe hs) fun D σ H ⟨ι, env, S, P, re, rs, hw, hP⟩ => ⟨ι, env, S, _, re, rs, hw, fun x S1 hx ι1 H1 v e1 rs1 rx => hP.nx _ _ hx ι1 H1 σ e1 rs1 (re.mono e1)⟩⟩
def wRet (we : W) : WS := fun env S D => we env S D.rt
theorem js_ret (h : RE X e we) : JS X (.Return (some e) pos) (wRet we) :=
  ⟨PS.weak (ps_ret h.pe) fun D σ H ⟨ι, env, S, P, re, rs, hw, hP⟩ => ⟨ι, env, S, P.rt, re, rs, hw, hP.rt⟩⟩
theorem js_retN : JS X (.Return none pos) (fun _ S D => D.rt .non S) := ⟨PS.weak ps_retN fun D σ H ⟨ι, env, S, P, re, rs, hw, hP⟩ => hP.rt _ _ hw ι H _ .refl rs .non⟩
def wIfS (t : WT) (a b : WS) : WS := fun env S D => t env S fun c S1 => match c with
  | true => a env S1 D
  | false => b env S1 D
theorem js_if {c : Expr} {a b : List Stmt} {t : WT} (hc : RT X c t) (ha : JB X a w) (hb : JB X b w2) : JS X (.If c a b pos) (wIfS t w w2) := by
  refine ⟨PS.weak (ps_if hc.pt ha.ps hb.ps) fun D σ H ⟨ι, env, S, P, re, rs, hw, hP⟩ => ⟨ι, env, S, _, re, rs, hw, fun b S1 hb ι1 H1 e1 rs1 => ?_⟩⟩
  cases b with
  | true => exact ⟨ι1, env, S1, P, re.mono e1, rs1, hb, hP.ext e1⟩
  | false => exact ⟨ι1, env, S1, P, re.mono e1, rs1, hb, hP.ext e1⟩
def wSet (i : Nat) (we : W) : WS := fun env S D => we env S fun x S1 => D.nx (env.set i (some x)) S1
theorem asg_of {K : PySem.W.Frag} {i : Nat} {D : Ends} {σ : LSt} {H : Hp} (h : tWS K (wSet i we) D σ H) : tAsg (tW K we) (gName i) D σ H := by
  obtain ⟨ι, env, S, P, re, rs, hw, hP⟩ := h
  exact ⟨ι, env, S, _, re, rs, hw, fun x S1 hx ι1 H1 v e1 rs1 rx => hP.nx _ _ hx ι1 H1 _ e1 rs1 ((re.mono e1).set rx)⟩
theorem js_set (i : Nat) {x : Str} {pos' : Pos} (hN : X.N.Nodup) (h : RE X e we) (hi : X.N[i]? = some x := by rfl) (hx : Loc X.env.scope x := by first | exact Or.inl rfl | exact Or.inr rfl) (hs : swapsWith e (some (.Name x pos')) pos.line X.env = pure false := by rfl)
    (hf : X.fn x = true ∨ X.env.scope.names.lookup x = some .local := by first | exact .inl rfl | exact .inr rfl | assumption) : JS X (.Assign [.Name x pos'] e pos) (wSet i we) :=
  ⟨PS.weak (ps_set hN hi hx h.pe hs hf) fun _ _ _ h => asg_of h⟩
theorem js_setLc (i : Nat) {y : Str} {py spos : Pos} {elt tg iter : Expr} {ifs : List Expr} {scope : Scope} {own : List (Str × Nat)} {wi : WI} {g : WG} {sl : List Nat} {tt : WT} {te : W} (hc : X.calm = true) (hN : X.N.Nodup) (hi : RI X tg iter wi) (ok : BlkOk X.N X.env.scope scope own) (hsl : ∀ i ∈ sl, i ∈ own.map (·.2))
    (hsw : swapsWith (.ListComp elt [⟨tg, iter, ifs, 0⟩] scope pos) (some (.Name y py)) spos.line X.env = pure true)
    (hg : ∀ (s : Shared) (H : Hp) (C : Addr) (cl : List (Str × Addr)) (fp : List Addr), RG (X.blk s H scope (compEnvC scope cl C X.env) fp) tg g sl) (ht : ∀ (s : Shared) (H : Hp) (C : Addr) (cl : List (Str × Addr)) (fp : List Addr), RTs (X.blk s H scope (compEnvC scope cl C X.env) fp) ifs tt)
    (he : ∀ (s : Shared) (H : Hp) (C : Addr) (cl : List (Str × Addr)) (fp : List Addr), RE (X.blk s H scope (compEnvC scope cl C X.env) fp) elt te)
    (hy : X.N[i]? = some y := by rfl) (hyl : X.env.scope.names.lookup y = some .local := by rfl) (hs : ∀ x, foldedSetIterable iter X.env x = pure x := by intro _; rfl) :
    JS X (.Assign [.Name y py] (.ListComp elt [⟨tg, iter, ifs, 0⟩] scope pos) spos) (wSet i (wLc wi g tt te (own.map (·.2)))) := by
  refine ⟨PS.weak (ps_setLc (wi := tWI X.K wi) (g := tG X.K g sl) (tt := tWT X.K tt) (te := tW X.K te) hc hN hy hyl hsw hi.pi ok (fun s H C cl fp => (hg s H C cl fp).pg) (fun s H C cl fp => (ht s H C cl fp).pt) (fun s H C cl fp => (he s H C cl fp).pe) hs) fun D σ H h => ?_⟩
  obtain ⟨ι, env, S, P, re, rs, hw, hP⟩ := h
  exact tLc_of hsl ⟨ι, env, S, _, re, rs, hw, fun x S1 hx ι1 H1 v e1 rs1 rx => hP.nx _ _ hx ι1 H1 _ e1 rs1 ((re.mono e1).set rx)⟩
/-- a, b = e -/
def wAsg (we : W) (g : WG) : WS := fun env S D => we env S fun x S1 => match g x env with
  | some env1 => D.nx env1 S1
  | none => False
theorem js_asg {tg : Expr} {g : WG} {sl : List Nat} (h : RE X e we) (hg : RG X tg g sl) (hs : swapsWithSole [tg] e pos.line X.env = pure false := by rfl) (hw : swappedStores [tg] e X.env = pure none := by rfl)
    (h1 : (assignEach [tg] X.env).map (·.2) = [assign tg X.env] := by rfl) : JS X (.Assign [tg] e pos) (wAsg we g) := by
  refine ⟨PS.weak (ps_asg h.pe hg.pg hs hw h1) fun D σ H ⟨ι, env, S, P, re, rs, hw, hP⟩ => ⟨ι, env, S, _, re, rs, hw, fun x S1 hx ι1 H1 v e1 rs1 rx => ?_⟩⟩
  split at hx
  · rename_i env1 hg1
    exact ⟨ι1, x, env, env1, re.mono e1, rx, hg1, fun σ' re' _ => hP.nx _ _ hx ι1 H1 σ' e1 rs1 re'⟩
  · exact hx.elim
/-- a, b = x, y, plain local names -/
def wPar (i j : Nat) (w : WA) : WS := fun env S D => w env S fun xs S1 => match xs with
  | [x, y] => D.nx ((env.set i (some x)).set j (some y)) S1
  | _ => False
theorem js_par (i j : Nat) {x y : Str} {a b : Expr} {wa : WA} {px py pt : Pos} {kt k2 pt2} (hc : X.calm = true) (hN : X.N.Nodup) (ha : RA X [a, b] wa)
    (hi : X.N[i]? = some x := by rfl) (hj : X.N[j]? = some y := by rfl) (hij : i ≠ j := by decide)
    (hx : X.env.scope.names.lookup x = some .local := by rfl) (hy : X.env.scope.names.lookup y = some .local := by rfl)
    (hw : swappedStores [.Tuple [.Name x px, .Name y py] kt pt] (.Tuple [a, b] k2 pt2) X.env = pure (some [x, y]) := by rfl)
    (hs : swapsWithSole [.Tuple [.Name x px, .Name y py] kt pt] (.Tuple [a, b] k2 pt2) pos.line X.env = pure false := by rfl) :
    JS X (.Assign [.Tuple [.Name x px, .Name y py] kt pt] (.Tuple [a, b] k2 pt2) pos) (wPar i j wa) := by
  refine ⟨PS.weak (ps_par hc hN hi hj hij hx hy ha.pa hw hs) fun D σ H ⟨ι, env, S, P, re, rs, hw, hP⟩ => ⟨ι, env, S, _, re, rs, hw, fun xs S1 hx ι1 H1 vs e1 rs1 rx => ?_⟩⟩
  split at hx
  · obtain ⟨u, v, rfl, q, q'⟩ := rvs2 rx
    exact ⟨u, v, rfl, hP.nx _ _ hx ι1 H1 _ e1 rs1 (((re.mono e1).set q).set q')⟩
  · exact hx.elim
/-- x op= e -/
def wAug (i : Nat) (f : F2) (we : W) : WS := fun env S D => match env[i]? with
  | some (some x) => we env S fun y S1 => opt (f x y S1) fun z S2 => D.nx (env.set i (some z)) S2
  | _ => False
theorem js_aug (i : Nat) {x : Str} {op : Operator} {f : F2} {pos' : Pos} (hN : X.N.Nodup) (h : RE X e we) (ho : OpR X (inplaceOp op) (rOp X.K f)) (hi : X.N[i]? = some x := by rfl) (hx : Loc X.env.scope x := by first | exact Or.inl rfl | exact Or.inr rfl)
    (hf : X.fn x = true ∨ X.env.scope.names.lookup x = some .local := by first | exact .inl rfl | exact .inr rfl | assumption) : JS X (.AugAssign (.Name x pos') op e pos) (wAug i f we) := by
  refine ⟨PS.weak (ps_aug hN hi hx h.pe ho hf) fun D σ H ⟨ι, env, S, P, re, rs, hw, hP⟩ => ?_⟩
  unfold wAug at hw
  split at hw
  · rename_i x0 hx0
    obtain ⟨v, h1, h2⟩ := re.at_ i x0 hx0
    refine ⟨v, h1, ι, env, S, _, re, rs, hw, fun y S1 hy ι1 H1 u e1 rs1 ry => ?_⟩
    exact ⟨ι1, S1, x0, y, _, rs1, h2.mono e1, ry, hy, fun z S2 hz ι2 H2 w2 e2 rs2 rz => hP.nx _ _ hz ι2 H2 _ (e1.trans e2) rs2 ((re.mono (e1.trans e2)).set rz)⟩
  · exact hw.elim
/-- o[i] = v, a list -/
def wSub (wo wi wv : W) : WS := fun env S D => wv env S fun v S1 => wo env S1 fun o S2 => wi env S2 fun i S3 => match o, i with
  | .ref n, .int k => match S3[n]? with
    | some (.lst xs) => match ixN xs.length k with
      | some j => D.nx env (S3.set n (.lst (xs.set j v)))
      | none => False
    | _ => False
  | _, _ => False
theorem js_sub {o i v : Expr} {wo wi wv : W} {tpos : Pos} (hv : RE X v wv) (ho : RE X o wo) (hi : RE X i wi) (hs : swapsWithSole [.Subscript o i tpos] v pos.line X.env = pure false := by rfl) (hw : swappedStores [.Subscript o i tpos] v X.env = pure none := by rfl)
    (h1 : (assignEach [.Subscript o i tpos] X.env).map (·.2) = [assign (.Subscript o i tpos) X.env] := by rfl)
    (ha : ∀ v, assign (.Subscript o i tpos) X.env v = (do
      let ov ← holding [v] (eval o X.env)
      let iv ← holding [v, ov] (eval i X.env)
      standAt tpos
      holding [v, ov, iv] (setItem ov iv v)
      release [v, ov, iv] []) := by intro _; rfl) : JS X (.Assign [.Subscript o i tpos] v pos) (wSub wo wi wv) := by
  refine ⟨PS.weak (ps_asg hv.pe (pg_sub ho.pe hi.pe set_list ha) hs hw h1) fun D σ H ⟨ι, env, S, P, re, rs, hw, hP⟩ => ⟨ι, env, S, _, re, rs, hw, fun x S1 hx ι1 H1 v e1 rs1 rx => ?_⟩⟩
  refine ⟨ι1, env, S1, _, re.mono e1, rs1, hx, fun y S2 hy ι2 H2 u e2 rs2 ry => ⟨ι2, env, S2, _, re.mono (e1.trans e2), rs2, hy, fun z S3 hz ι3 H3 w e3 rs3 rz => ?_⟩⟩
  split at hz
  · obtain ⟨a, rfl, ha'⟩ := ref_of (ry.mono e3)
    cases int_of rz
    split at hz
    · rename_i xs hn
      split at hz
      · rename_i j hj
        obtain ⟨us, hu, q⟩ := at_lst rs3 hn ha'
        have E := (e1.trans e2).trans e3
        obtain ⟨rs4, E4⟩ := rs3.write (c' := .lst (xs.set j x)) (o' := .lst (us.set j v)) hn ha' rfl rfl fun E4 => ⟨_, upd_same, (q.set ((rx.mono (e2.trans e3))) j).mono E4⟩
        exact ⟨a, us, _, j, rfl, rfl, hu, by rw [← q.length]; exact hj, hP.nx _ _ hz ι3 _ σ (E.trans E4) rs4 (re.mono (E.trans E4))⟩
      · exact hz.elim
    · exact hz.elim
  · exact hz.elim
/-- d[k] = v -/
def wDPut (wo wi wv : W) : WS := fun env S D => wv env S fun v S1 => wo env S1 fun o S2 => wi env S2 fun i S3 => match o, keyOf i with
  | .ref n, some k => match S3[n]? with
    | some (.dic kvs) => kvs.length < sizeLine ∧ D.nx env (S3.set n (.dic (putP kvs k v)))
    | _ => False
  | _, _ => False
theorem js_dput {o i v : Expr} {wo wi wv : W} {tpos : Pos} (hu : X.A.units + 1 < cLine) (hv : RE X v wv) (ho : RE X o wo) (hi : RE X i wi) (hs : swapsWith v (some (.Subscript o i tpos)) pos.line X.env = pure false := by rfl) : JS X (.Assign [.Subscript o i tpos] v pos) (wDPut wo wi wv) := by
  refine ⟨PS.weak (ps_dput hu ho.pe hi.pe hv.pe hs) fun D σ H ⟨ι, env, S, P, re, rs, hw, hP⟩ => ⟨ι, env, S, _, re, rs, hw, fun x S1 hx ι1 H1 v e1 rs1 rx => ?_⟩⟩
  refine ⟨ι1, env, S1, _, re.mono e1, rs1, hx, fun y S2 hy ι2 H2 u e2 rs2 ry => ⟨ι2, env, S2, _, re.mono (e1.trans e2), rs2, hy, fun z S3 hz ι3 H3 w e3 rs3 rz => ?_⟩⟩
  split at hz
  · rename_i n k hk
    obtain ⟨a, rfl, ha'⟩ := ref_of (ry.mono e3)
    cases keyOf_of rz hk
    split at hz
    · rename_i kvs hn
      obtain ⟨us, hu', q⟩ := at_dic rs3 hn ha'
      have E := (e1.trans e2).trans e3
      obtain ⟨rs4, E4⟩ := rs3.write (c' := .dic (putP kvs k x)) (o' := .dK (putK us k v)) hn ha' rfl rfl fun E4 => ⟨_, upd_same, (q.put (rx.mono (e2.trans e3))).mono E4⟩
      exact ⟨a, _, rfl, DPut.k hu' (by rw [← q.length]; exact hz.1), hP.nx _ _ hz.2 ι3 _ σ (E.trans E4) rs4 (re.mono (E.trans E4))⟩
    · exact hz.elim
  · exact hz.elim

/-! ### loops -/
def wLoop (g : PIt) (tg : WG) (body : WS) (D : PEnds) : Nat → Nat → PEnv → Store → Prop
  | 0, _, _, _ => False
  | m + 1, i, env, S => match g i S with
    | some none => D.nx env S
    | some (some x) => match tg x env with
      | some env1 => body env1 S ⟨wLoop g tg body D m (i + 1), D.rt, D.nx, wLoop g tg body D m (i + 1)⟩
      | none => False
    | none => False
def wFor (wi : WI) (tg : WG) (body : WS) : WS := fun env S D => wi env S fun g S1 => ∃ m, wLoop g tg body D m 0 env S1
theorem js_for {tg iter : Expr} {body : List Stmt} {wi : WI} {g : WG} {sl : List Nat} (hp : PassesOwn (model X.prog X.w) X.A X.env X.xe) (hc : X.calm = true) (hi : RI X tg iter wi) (hg : RG X tg g sl) (hb : JB X body w)
    (hs : ∀ x, foldedSetIterable iter X.env x = pure x := by intro _; rfl) : JS X (.For tg iter body [] pos) (wFor wi g w) := by
  refine ⟨PS.weak (ps_for hp hc hi.pi hg.pg hb.ps hs) fun D σ H ⟨ι, env, S, P, re, rs, hw, hP⟩ => ⟨ι, env, S, _, re, rs, hw, fun gi S1 hx ι1 H1 J e1 rs1 ok => ?_⟩⟩
  obtain ⟨m0, hm⟩ := hx
  refine ⟨fun i m σ' H' => ∃ ι' env' S', Ext ι1 ι' H1 H' ∧ REnv X.K ι' H' env' σ' ∧ RS X.K ι' H' S' ∧ wLoop gi g w P m i env' S', ⟨m0, ι1, env, S1, .refl, re.mono e1, rs1, hm⟩, ?_⟩
  rintro i m σ' H' ⟨ι', env', S', E', re', rs', hl⟩
  cases m with
  | zero => exact hl.elim
  | succ m =>
    obtain ⟨k1, k2⟩ := ok ι' H' S' i E' rs'
    unfold wLoop at hl
    split at hl
    · rename_i hgi
      exact .inl ⟨k1 hgi, hP.nx _ _ hl ι' H' σ' (e1.trans E') rs' re'⟩
    · rename_i x hgi
      obtain ⟨go, yl⟩ := k2 x hgi
      refine .inr ⟨go, fun σ'' H'' => ∃ ι'' env'' S'', Ext ι1 ι'' H1 H'' ∧ REnv X.K ι'' H'' env'' σ'' ∧ RS X.K ι'' H'' S'' ∧ wLoop gi g w P m (i + 1) env'' S'', fun σ'' H'' n => ⟨m, Nat.lt_succ_self _, n⟩, fun v H2 y => ?_⟩
      obtain ⟨e2, rs2, rv⟩ := yl v H2 y
      split at hl
      · rename_i env1 ht
        refine ⟨ι', x, env', env1, re'.mono e2, rv, ht, fun σ2 re2 _ => ?_⟩
        refine ⟨ι', env1, S', _, re2, rs2, hl, fun env3 S3 h3 ι3 H3 σ3 e3 rs3 re3 => ?_, fun x' S3 h3 => (hP.rt x' S3 h3).ext ((e1.trans E').trans e2), fun env3 S3 h3 => (hP.nx env3 S3 h3).ext ((e1.trans E').trans e2), fun env3 S3 h3 ι3 H3 σ3 e3 rs3 re3 => ?_⟩
        · exact ⟨ι3, env3, S3, (E'.trans e2).trans e3, re3, rs3, h3⟩
        · exact ⟨ι3, env3, S3, (E'.trans e2).trans e3, re3, rs3, h3⟩
      · exact hl.elim
    · exact hl.elim
def wWhL (t : WT) (body : WS) (D : PEnds) : Nat → PEnv → Store → Prop
  | 0, _, _ => False
  | m + 1, env, S => t env S fun b S1 => match b with
    | true => body env S1 ⟨wWhL t body D m, D.rt, D.nx, wWhL t body D m⟩
    | false => D.nx env S1
def wWhile (t : WT) (body : WS) : WS := fun env S D => ∃ m, wWhL t body D m env S
theorem js_while {c : Expr} {body : List Stmt} {t : WT} (hp : PassesOwn (model X.prog X.w) X.A X.env X.xe) (hc : RT X c t) (hb : JB X body w) : JS X (.While c body [] pos) (wWhile t w) := by
  refine ⟨PS.weak (ps_while hp hc.pt hb.ps) fun D σ H ⟨ι, env, S, P, re, rs, ⟨m0, hw⟩, hP⟩ => ?_⟩
  refine ⟨fun m σ' H' => ∃ ι' env' S', Ext ι ι' H H' ∧ REnv X.K ι' H' env' σ' ∧ RS X.K ι' H' S' ∧ wWhL t w P m env' S', ⟨m0, ι, env, S, .refl, re, rs, hw⟩, ?_⟩
  rintro m σ' H' ⟨ι', env', S', E', re', rs', hl⟩
  cases m with
  | zero => exact hl.elim
  | succ m =>
    refine ⟨ι', env', S', _, re', rs', hl, fun b S1 hb ι1 H1 e1 rs1 => ?_⟩
    cases b with
    | false => exact hP.nx _ _ hb ι1 H1 σ' (E'.trans e1) rs1 (re'.mono e1)
    | true =>
      refine ⟨fun σ'' H'' => ∃ ι'' env'' S'', Ext ι ι'' H H'' ∧ REnv X.K ι'' H'' env'' σ'' ∧ RS X.K ι'' H'' S'' ∧ wWhL t w P m env'' S'', fun σ'' H'' n => ⟨m, Nat.lt_succ_self _, n⟩, ?_⟩
      refine ⟨ι1, env', S1, _, re'.mono e1, rs1, hb, fun env3 S3 h3 ι3 H3 σ3 e3 rs3 re3 => ?_, fun x' S3 h3 => (hP.rt x' S3 h3).ext (E'.trans e1), fun env3 S3 h3 => (hP.nx env3 S3 h3).ext (E'.trans e1), fun env3 S3 h3 ι3 H3 σ3 e3 rs3 re3 => ?_⟩
      · exact ⟨ι3, env3, S3, (E'.trans e1).trans e3, re3, rs3, h3⟩
      · exact ⟨ι3, env3, S3, (E'.trans e1).trans e3, re3, rs3, h3⟩
end
end Lt
set_option Elab.async false
set_option linter.all false
set_option maxRecDepth 100000
/-! Lt6: repr, calls of the text's defs, a def's rule, the law's end. -/
namespace Lt
open PySem PySem.Spec PyProof.Rows L2

/-! ### repr of lists and tuples -/
def bRepr : FB
  | [x], S => match toD 66 S x with
    | some d => if isDisplay d = true ∧ d.hasDict = false ∧ d.showable = true ∧ d.depth ≤ 60 ∧ d.shown.length ≤ sizeLine then some (.str d.shown, S) else none
    | none => none
  | _, _ => none
theorem call_bRepr {X : Cx} (hg : X.A.guards = some []) (hu : X.A.units + 64 < cLine) : CallR X (.builtin "repr") (rB X.K bRepr) := by
  intro pins s σ H vs us Q I r ⟨ι, S, xs, P, rs, rx, hf, hP⟩
  unfold bRepr at hf
  split at hf
  · obtain ⟨v, rfl, q⟩ := rvs1 rx
    obtain ⟨u, rfl, ru⟩ := vals1 r
    split at hf
    · rename_i d hd
      obtain ⟨⟨c1, c2, c3, c4, c5⟩, h⟩ := opt_ite hf
      obtain ⟨as, r1⟩ := Dp.reads I d v u (dp_of rs _ _ _ _ hd c2 q) ru
      obtain ⟨a, rfl⟩ := isRef_of_reads r1 c1
      refine repr_of_reads' r1 c3 (PyData.noDict_hsm c2) hg (by omega) (fun _ _ e => e) (fun h' u tk hk => ?_) c5
      exact ⟨.str d.shown, H, I.kept hk, ⟨u, rfl⟩, hP _ _ h ι H _ .refl rs (.str _)⟩
    · exact hf.elim
  · exact hf.elim

/-! ### defs -/
/-- as FnOk, where no repr is under way around -/
structure FnG (P : Program) (w : World) (K : PySem.W.Frag) (mg : Str → Option Value) (base : Heap) (CX : CXT) (k : Nat) (f : Addr) (fd : FuncData) (ps : List Str) (sp : Sp) : Prop where
  len : ∀ vs H Q E, sp vs H Q E → vs.length = ps.length
  run : ∀ (A : Around) (outer : List Env) (s : Shared) (H : Hp) (args : Args) (us : List Value) (vs : List V) (Q : VK) (E : XK), Room k A → A.guards = some [] → Env0 P w K mg base A outer s H → BindsTo s fd args (ps.zip us) → Vals vs us → sp vs H Q E →
    codeAny (model P w) A (.call (.ref f) args) (CR CX outer P w H s Q E) s
theorem FnG.mono {P : Program} {w : World} {K : PySem.W.Frag} {mg : Str → Option Value} {base : Heap} {CX : CXT} {j k : Nat} {f : Addr} {fd : FuncData} {ps : List Str} {sp : Sp} (F : FnG P w K mg base CX j f fd ps sp) (h : j ≤ k) :
    FnG P w K mg base CX k f fd ps sp := ⟨F.len, fun A outer s H args us vs Q E hr => F.run A outer s H args us vs Q E (hr.mono h)⟩
/-- a plain promise -/
abbrev Con := List PV → Store → PQ → Prop
def spC (K : PySem.W.Frag) (c : Con) : Sp := fun vs H Q _ => ∃ ι S xs, ∃ P : PQ, RS K ι H S ∧ RVs K ι H xs vs ∧ c xs S P ∧ ∀ x S', P x S' → Fin K ι H Q x S'
def wF (c : Con) (w : WA) : W := fun env S P => w env S fun xs S1 => c xs S1 P
section
variable {X : Cx} {k : Nat} {f : Addr} {fd : FuncData} {ps ks : List Str} {c : Con} {x : Str} {p pos : Pos} {e : Expr} {es : List Expr} {kws : List Keyword} {w wk : WA} {CX : CXT} {E : XK}
theorem run_con {sp : Sp} {pins : List (Addr × Obj)} {σ : LSt} {H : Hp} {s : Shared} {Q : VK} {args : Args} {us : List Value} {vs : List V} (F : FnG X.prog X.w X.K X.mg X.base CX k f fd ps sp) (hr : Room k X.A) (hgd : X.A.guards = some []) (hx : Passes CX X E)
    (I : Inv X pins σ H s) (hb : BindsTo s fd args (ps.zip us)) (r : Vals vs us) (h : sp vs H Q E) : wpAny (model X.prog X.w) X.A (call (.ref f) args.pos args.kw) (EP X pins σ Q) X.xe s := by
  refine wpAny_call (codeAny_mono (F.run X.A X.stack s H args us vs Q E hr hgd I.env0 hb r h) fun r s' hq => ?_)
  rcases r with e | fl
  · exact hx pins σ H s e s' I hq
  · cases fl with
    | ret u => exact I.after hq
    | _ => exact False.elim hq
theorem spC_of {K : PySem.W.Frag} {ι ι1 : List Addr} {H H1 : Hp} {S1 : Store} {xs : List PV} {vs : List V} {P : PQ} {Q : VK} {E : XK} (e1 : Ext ι ι1 H H1) (rs1 : RS K ι1 H1 S1) (rx : RVs K ι1 H1 xs vs) (hP : ∀ x S', P x S' → Fin K ι H Q x S')
    (h : c xs S1 P) : spC K c vs H1 Q E := ⟨ι1, S1, xs, P, rs1, rx, h, fun x S' hx => (hP x S' hx).ext e1⟩
/-- f(e, ..) -/
theorem re_call (F : FnG X.prog X.w X.K X.mg X.base CX k f fd ps (spC X.K c)) (hr : Room k X.A) (hgd : X.A.guards = some []) (hg : Gl X x) (hm : X.mg x = some (.ref f)) (hk : PySem.W.keepIn X.K (.ref f) = true) (hb : Binds X.K fd ps []) (hx : Passes CX X E)
    (ha : RA X (e :: es) w) (hdb : (x == ("__debug__" : Str)) = false := by decide) (he : starEach (e :: es) X.env = (false, eval e X.env) :: starEach es X.env := by rfl) (hpl : (backTo pos (starEach es X.env)).any (·.1) = false := by rfl) :
    RE X (.Call (.Name x p) (e :: es) [] pos) (wF c w) := by
  refine ⟨⟨fun pins s σ H Q I ⟨ι, env, S, P, re, rs, hw, hP⟩ => ?_⟩⟩
  refine wpAny_Call_Name_kw (ld_glob I hg hm ?_ hdb)
  refine PySem.W.callWith_K (h₀ := X.base) I.ok.mod.kin hk (thn (ha.pa.run pos pins s σ H (fun vs H1 => spC X.K c vs H1 Q E) I ⟨ι, env, S, _, re, rs, hw, fun xs S1 hx ι1 H1 vs e1 rs1 rx => spC_of e1 rs1 rx hP hx⟩) fun us s1 ⟨vs, H1, I1, r, q⟩ => ⟨I1.kIn, ?_⟩) he hpl
  have hl : (us ++ ([] : List Value)).length = ps.length := by rw [List.append_nil, ← r.length]; exact F.len _ _ _ _ q
  have hb' := hb s1 us I1.kIn hl
  rw [List.append_nil] at hb'
  exact run_con (args := ⟨us, []⟩) F hr hgd hx I1 hb' r q
end
/-- where a def's body stands: all that its parts ask of the context -/
structure Ctx (X : Cx) : Prop where
  calm : X.calm = true
  nd : X.N.Nodup
  gd : X.A.guards = some []

section
variable {P : Program} {w : World} {K : PySem.W.Frag} {mg : Str → Option Value} {base : Heap}
/-- THE RULE for a def: its body as a plain term, and what is to be shown of it -/
theorem def_ok {x qual : Str} {st : Stmt} {f : Addr} {fd : FuncData} {N ps : List Str} {k : Nat} {c : Con} {wb : WS} (F : Fun K x qual st f fd) (S : FnScope N ps (defScope st)) (hlen : ∀ xs S0 P, c xs S0 P → xs.length = ps.length)
    (hbody : ∀ (cdv : Value) (A : Around) (outer : List Env) (s : Shared) (H : Hp) (E : XK), Room k (A.deeper (envOfC qual (defScope st) s.heap.objs.size f cdv)) → A.guards = some [] →
      JB (cxOf CX0 P w K mg base N qual (defScope st) f cdv A outer s H E).nox (defBody st) wb)
    (hpl : ∀ xs S0 P, c xs S0 P → wb (xs.map some ++ List.replicate (N.length - xs.length) none) S0 ⟨fun _ S' => P .non S', P, fun _ _ => False, fun _ _ => False⟩) : FnG P w K mg base CX0 (k + 1) f fd ps (spC K c) := by
  obtain ⟨oc, od, kV, doc, pm, an, cdv, ct, osl, rfl, lk, hcd⟩ := F.ex
  refine ⟨fun vs H Q E ⟨ι, S0, xs, P, rs, rx, hp, _⟩ => by rw [← rx.length]; exact hlen xs S0 P hp, fun A outer s H args us vs Q E hr hg e0 hb r hsp => ?_⟩
  obtain ⟨ι, S0, xs, PP, rs, rx, hp, hP⟩ := hsp
  have hl : vs.length = ps.length := by rw [← rx.length]; exact hlen xs S0 PP hp
  have KX : K.In s.heap := e0.mod.kin.keeps fun b o e => (e0.bs b o e).1
  have lim : s.heap.NoLimit := e0.mod.nolimit.keeps fun b o e => (e0.bs b o e).1
  have kinds : ∀ y ∈ ps.zip us, (defScope st).names.lookup y.1 = some .local ∨ ((defScope st).names.lookup y.1 = some .cell ∧ ((cellsFrom (s.heap.objs.size + 1) (defScope st).names []).lookup y.1).isSome = true) := by
    rintro ⟨n, v⟩ hy
    exact (S.par n (List.of_mem_zip hy).1).imp id fun q => ⟨q, PySem.W.cellsFrom_some _ _ _ (.inl q)⟩
  refine codeAny_call_function hr.depth (KX _ _ lk) rfl S.co S.gen rfl (PySem.W.codeRec_of KX hcd) (hb _ _ _ _ ?_)
  refine wpAny_newFunctionEnv_cells S.kind kinds fun env he s1 xc => ?_
  subst he
  refine ⟨lim.keeps xc.toInCall.keep, codeAny_func ?_⟩
  have I : Inv (cxOf CX0 P w K mg base N qual (defScope st) f cdv A outer s H E) [] (L2.start N vs) H s1 := inv_start S hr.hd e0 hl r xc
  have jb := hbody cdv A outer s H E (hr.deeper _) hg
  have re : REnv K ι H (xs.map some ++ List.replicate (N.length - xs.length) none) (L2.start N vs) := by
    refine ⟨by unfold L2.start; simp only [List.length_append, List.length_map, List.length_replicate, rx.length], fun i y hy => ?_⟩
    unfold L2.start
    by_cases hi : i < xs.length
    · rw [List.getElem?_append_left (by rw [List.length_map]; exact hi), List.getElem?_map] at hy
      obtain ⟨z, hz, e⟩ := Option.map_eq_some_iff.mp hy
      cases e
      obtain ⟨v, h1, h2⟩ := rx.get hz
      exact ⟨v, by rw [List.getElem?_append_left (by rw [List.length_map, ← rx.length]; exact hi), List.getElem?_map, h1]; rfl, h2⟩
    · rw [List.getElem?_append_right (by rw [List.length_map]; omega)] at hy
      have := List.mem_of_getElem? hy
      rw [List.mem_replicate] at this
      cases this.2
  have go := jb.ps.run [] s1 (L2.start N vs) H ⟨fun _ H' => Q .non H', Q, fun _ _ => False, fun _ _ => False⟩ (I.wish _) ⟨ι, _, S0, _, re, rs, hpl xs S0 PP hp,
    ⟨fun env' S' h ι' H' σ' e r _ => hP _ _ h ι' H' _ e r .non, fun y S' h => hP y S' h, fun _ _ h => h.elim, fun _ _ h => h.elim⟩⟩
  refine wpAny_mono go (fun fl s' hs => ?_) fun e s' hs => False.elim hs
  have fin : ∀ {σ' : LSt} {H' : Hp} {v : V} {u : Value}, Inv (cxOf CX0 P w K mg base N qual (defScope st) f cdv A outer s H E).nox [] σ' H' s' → RelV v u → Q v H' → CE outer P w H s Q u s' :=
    fun {σ' H' v u} J rv q => ⟨v, H', J.unwish.os, J.unwish.bare, J.unwish.base, J.unwish.hok, rv, q⟩
  cases fl with
  | ret u => obtain ⟨v, σ', H', J, rv, q⟩ := hs; exact fin J rv q
  | next => obtain ⟨σ', H', J, q⟩ := hs; exact fin (v := V.non) (u := Value.none) J rfl q
  | brk => obtain ⟨_, _, _, q⟩ := hs; exact False.elim q
  | cont => obtain ⟨_, _, _, q⟩ := hs; exact False.elim q
end
end Lt
set_option Elab.async false
set_option linter.all false
set_option maxRecDepth 100000
/-! Lt7: the law's end. -/
namespace Lt
open PySem PySem.Spec PyProof.Rows L2

theorem guards_caller : callerA.guards = some [] := by first | rfl | decide
section
variable {P : Program} {w : World} {K : PySem.W.Frag} {mg mb : Str → Option Value} {k : Nat} {fa a : Addr} {fd : FuncData} {x : Str} {c : Con} {s1 : Shared} {vs : List Value} {ns : List Int}
theorem rvs_ints {ι : List Addr} {H : Hp} : ∀ ns : List Int, RVs K ι H (ns.map PV.int) (ns.map V.int)
  | [] => .nil
  | n :: r => .cons (.int n) (rvs_ints r)
/-- from an abstract heap that tracks the script alone (or nothing) -/
theorem law_from (H : Hp) (hO : ∀ b u, H b = some u → b = a ∧ ∃ o xs, u = .frz o (.lst xs)) (hro : RoL K H a (ns.map V.int)) (hok : HOk P w H s1.heap) (hK : H a ≠ none → K.lookup a = none)
    (KX : K.In s1.heap) (hns : s1.heap.Ns mainGlobals mg) (hb : s1.heap.Ns builtinsNs mb) (hbb : ∀ x : Str, x ≠ "__name__" → mb x = bootBuiltins x) (hlim : s1.heap.NoLimit) (hg : s1.gens = #[])
    (ha : s1.heap.get? a = some { cls := .type "list", data := .seq vs.toArray }) (hr : Room k callerA)
    (F : ∀ base : Heap, K.In base → base.Ns mainGlobals mg → FnG P w K mg base CX0 k fa fd [x] (spC K c)) (hbind : ∀ (s : Shared) (u : Value), BindsTo s fd ⟨[u], []⟩ [(x, u)])
    (hc : c [.ref 0] [.ro (ns.map .int)] fun y _ => y = .bl true) :
    codeAny (model P w) callerA (.call (.ref fa) ⟨[.ref a], []⟩) (fun r s' => r = .ok (.ret (.bool true)) ∧ OldK s1.heap s'.heap ∧ s'.os = s1.os ∧ AllBare s'.gens) s1 := by
  -- what is no list of ours stays where it stands
  have hidden : ∀ {b : Addr} {o : Obj}, s1.heap.get? b = some o → (b = a → H a = none) → (hidT s1.heap H).get? b = some o := fun {b o} e n => hidT_get e (by
    cases q : H b with
    | none => rfl
    | some u =>
      obtain ⟨z, _⟩ := hO b u q
      rw [z, n z] at q; cases q)
  have dicts : ∀ {b : Addr} {m : Str → Option Value}, s1.heap.Ns b m → (hidT s1.heap H).Ns b m := fun {b m} ⟨o, es, ep, e, d, r⟩ => ⟨o, es, ep, hidden e (fun z => by
    subst z
    rw [ha] at e; cases e
    have d' : Data.seq vs.toArray 0 = Data.dict es ep := d
    cases d'), d, r⟩
  have kin : K.In (hidT s1.heap H) := fun b o e => hidden (KX b o e) fun z => by
    subst z
    cases q : H b with
    | none => rfl
    | some u => rw [hK (by rw [q]; simp)] at e; cases e
  have M : Mod K mg (hidT s1.heap H) := ⟨kin, dicts hns, ⟨mb, dicts hb, hbb⟩, let ⟨mc, h1, h2⟩ := hlim; ⟨mc, dicts h1, h2⟩⟩
  have e0 : Env0 P w K mg (hidT s1.heap H) callerA [] s1 H :=
    { frames := rfl, mod := M, bs := fun b o e => of_hidT e, bsz := Nat.le_of_eq (hidT_size _ _), funs := trivial, frf := fun b hb => (by cases hb), hok := hok, bare := .of_eq hg }
  have rs : RS K [a] H [.ro (ns.map .int)] := by
    refine ⟨rfl, fun n d hd => ?_, fun n m d1 d2 b h1 h2 m1 => ?_⟩
    · cases n with
      | zero => cases hd; exact ⟨a, rfl, ns.map V.int, hro, rvs_ints ns⟩
      | succ n => cases hd
    · cases n with
      | zero => cases h1; cases m1
      | succ n => cases h1
  have sp : spC K c [.ref a] H (fun v _ => v = .bl true) (fun _ _ _ => False) := ⟨[a], _, [.ref 0], _, rs, .cons (.ref rfl) .nil, hc, fun y S' (hy : y = .bl true) ι' H' v _ _ r => by
    subst hy
    exact bl_of r⟩
  refine codeAny_mono ((F _ kin (dicts hns)).run callerA [] s1 H ⟨[.ref a], []⟩ [.ref a] [.ref a] _ _ hr guards_caller e0 (hbind s1 (.ref a)) (.cons rfl .nil) sp) fun r s' h => ?_
  rcases r with e | fl
  · exact False.elim h
  cases fl with
  | ret u =>
    obtain ⟨v, H', os, bare, un, hok', rv, q⟩ := h
    cases (show v = .bl true from q)
    cases (show u = Value.bool true from rv)
    refine ⟨rfl, OldK.of_keep fun b o e => ?_, os, bare⟩
    cases q : H b with
    | none => exact un.keep b o e q (fun z => by cases z) (fun z => by cases z)
    | some u =>
      obtain ⟨_, ob, xs, rfl⟩ := hO b u q
      have e1 : s1.heap.get? b = some ob := (hok b _ q).1
      have e2 : s'.heap.get? b = some ob := (hok' b _ (un.frzs b ob _ q)).1
      rw [e2, ← e1, e]
  | _ => exact False.elim h
theorem law_end (KX : K.In s1.heap) (hns : s1.heap.Ns mainGlobals mg) (hb : s1.heap.Ns builtinsNs mb) (hbb : ∀ x : Str, x ≠ "__name__" → mb x = bootBuiltins x) (hlim : s1.heap.NoLimit) (hg : s1.gens = #[])
    (ha : s1.heap.get? a = some { cls := .type "list", data := .seq vs.toArray }) (hi : IntsAre vs ns) (hl : ns.length ≤ sizeLine) (hr : Room k callerA)
    (F : ∀ base : Heap, K.In base → base.Ns mainGlobals mg → FnG P w K mg base CX0 k fa fd [x] (spC K c)) (hbind : ∀ (s : Shared) (u : Value), BindsTo s fd ⟨[u], []⟩ [(x, u)])
    (hc : c [.ref 0] [.ro (ns.map .int)] fun y _ => y = .bl true) :
    codeAny (model P w) callerA (.call (.ref fa) ⟨[.ref a], []⟩) (fun r s' => r = .ok (.ret (.bool true)) ∧ OldK s1.heap s'.heap ∧ s'.os = s1.os ∧ AllBare s'.gens) s1 := by
  have rv := L2.vals_ints hi
  have ln := hi.length
  cases hk : K.lookup a with
  | some o =>
    have e := KX a o hk
    rw [ha] at e
    cases e
    exact law_from (fun _ => none) (fun b u z => by cases z) (.inr ⟨_, vs.toArray, _, hk, rfl, rfl, rfl, by rw [List.size_toArray, ln]; exact hl, by simpa using rv⟩) (fun b u z => by cases z) (fun z => absurd rfl z) KX hns hb hbb hlim hg ha hr F hbind hc
  | none =>
    have at_ : ∀ {b : Addr} {u : HO}, (if b = a then some (HO.frz { cls := .type "list", data := .seq vs.toArray } (.lst (ns.map V.int))) else none) = some u → b = a ∧ u = .frz { cls := .type "list", data := .seq vs.toArray } (.lst (ns.map V.int)) := fun {b u} z => by
      split at z
      · rename_i hb; exact ⟨hb, (Option.some.inj z).symm⟩
      · cases z
    refine law_from (fun b => if b = a then some (.frz { cls := .type "list", data := .seq vs.toArray } (.lst (ns.map V.int))) else none) (fun b u z => ?_) (.inl ⟨_, if_pos rfl⟩) (fun b u z => ?_) (fun _ => hk) KX hns hb hbb hlim hg ha hr F hbind hc
    · obtain ⟨h1, h2⟩ := at_ z
      exact ⟨h1, _, _, h2⟩
    · obtain ⟨rfl, rfl⟩ := at_ z
      exact ⟨ha, by rw [List.length_map]; exact hl, vs, _, rv, ha⟩
end
/-- the goal that the head leaves -/
theorem walk_ltG {l : PySem.W.OpenLaw} {n k : Nat} {q : Program} {loose : List Str} {XP : (Str → Option Value) → Heap → Prop} {YP : World → Heap → Prop} {d : DefRec} {K : Params → PySem.W.Frag} {c : Con} {x : Str}
    (hn : l.most = some n) (hn2 : n ≤ sizeLine) (hdf : d.params.defaults = []) (hr : Room k callerA) (hY : ∀ (w : World) (h : Heap), YP w h → (K w.params).In h)
    (F : ∀ (w : World) (mg : Str → Option Value) (fa : Addr) (h : Heap), (K w.params).In h → h.Ns mainGlobals mg → mg d.name = some (.ref fa) →
      ∃ fd : FuncData, (∀ (s : Shared) (u : Value), BindsTo s fd ⟨[u], []⟩ [(x, u)]) ∧ ∀ base : Heap, (K w.params).In base → base.Ns mainGlobals mg → FnG l.prog w (K w.params) mg base CX0 k fa fd [x] (spC (K w.params) c))
    (hc : ∀ ns : List Int, ns.length ≤ n → c [.ref 0] [.ro (ns.map .int)] fun y _ => y = .bl true) :
    PySem.W.WalkO q loose XP YP l.row.toRowW d [] (fun f vs => PySem.call f vs) := by
  refine Att.attach_call hn hdf fun w s₀ s₁ mg mb fa o pm cd doc a vs ns G Y ho hd hcd hmg hobj hints hlen hg => ?_
  obtain ⟨fd, hb, hF⟩ := F w mg fa _ (hY w _ Y) G.T.g hmg
  exact law_end (hY w _ Y) G.T.g G.T.b G.T.builtins G.T.nolimit hg hobj hints (Nat.le_trans hlen hn2) hr hF hb (hc ns hlen)
end Lt
set_option Elab.async false
set_option linter.all false
set_option maxRecDepth 100000
/-! Lt8: what the generated texts lean on; loops by invariants; promises with ghosts. -/
namespace Lt
open PySem PySem.Spec PyProof.Rows L2

theorem bt_len : bootBuiltins "len" = some (.builtin "len") := by decide +kernel
theorem bt_abs : bootBuiltins "abs" = some (.builtin "abs") := by decide +kernel
theorem bt_min : bootBuiltins "min" = some (.builtin "min") := by decide +kernel
theorem bt_max : bootBuiltins "max" = some (.builtin "max") := by decide +kernel
theorem bt_repr : bootBuiltins "repr" = some (.builtin "repr") := by decide +kernel
theorem bt_isinstance : bootBuiltins "isinstance" = some (.builtin "isinstance") := by decide +kernel
theorem bt_int : bootBuiltins "int" = some (.type "int") := by decide +kernel
theorem bt_str : bootBuiltins "str" = some (.type "str") := by decide +kernel
theorem bt_bool : bootBuiltins "bool" = some (.type "bool") := by decide +kernel
theorem bt_list : bootBuiltins "list" = some (.type "list") := by decide +kernel
theorem bt_tuple : bootBuiltins "tuple" = some (.type "tuple") := by decide +kernel

/-- x is None -/
def isNon : PV → Bool
  | .non => true
  | _ => false
def fIs : F2 := fun x y S => match y with
  | .non => some (.bl (isNon x), S)
  | _ => none
def fIsNot : F2 := fun x y S => match y with
  | .non => some (.bl (!isNon x), S)
  | _ => none
theorem non_dec {K : PySem.W.Frag} {ι : List Addr} {H : Hp} {x : PV} {v : V} (r : RV K ι H x v) : decide (v = .non) = isNon x := by cases r <;> rfl
theorem op_fIs {X : Cx} : OpR X (compareOp .Is) (rOp X.K fIs) := by
  intro pins s σ H u v uu vv Q I ru rv ⟨ι, S, x, y, P, rs, rx, ry, hf, hP⟩
  unfold fIs at hf
  split at hf
  · cases non_of ry
    exact op_isN pins s σ H _ _ _ _ Q I ru rv ⟨rfl, hP _ _ hf ι H _ .refl rs (by rw [non_dec rx]; exact .bl _)⟩
  · exact hf.elim
theorem op_fIsNot {X : Cx} : OpR X (compareOp .IsNot) (rOp X.K fIsNot) := by
  intro pins s σ H u v uu vv Q I ru rv ⟨ι, S, x, y, P, rs, rx, ry, hf, hP⟩
  unfold fIsNot at hf
  split at hf
  · cases non_of ry
    refine op_notN pins s σ H _ _ _ _ Q I ru rv ⟨rfl, hP _ _ hf ι H _ .refl rs ?_⟩
    rw [non_dec rx]
    exact .bl _
  · exact hf.elim

/-- the function that a def's text makes -/
def IsFn (x : Str) (st : Stmt) (fd : FuncData) : Prop := ∃ (kV doc pm : Value) (an : Option Addr) (cdv ct : Value), fd = PySem.W.fnOf x x (defArgs st) (defBody st) (defScope st) .none kV doc pm an cdv ct
/-- a def of the text with its promise, for callers -/
structure Callee (P : Program) (w : World) (K : PySem.W.Frag) (mg : Str → Option Value) (base : Heap) (x : Str) (ps : List Str) (st : Stmt) (k : Nat) (c : Con) : Prop where
  ex : ∃ f fd, FnG P w K mg base CX0 k f fd ps (spC K c) ∧ mg x = some (.ref f) ∧ PySem.W.keepIn K (.ref f) = true ∧ Binds K fd ps [] ∧ IsFn x st fd
/-- a def of the text as it stands -/
structure Def (K : PySem.W.Frag) (mg : Str → Option Value) (x : Str) (ps : List Str) (st : Stmt) : Prop where
  ex : ∃ f fd, Fun K x x st f fd ∧ mg x = some (.ref f) ∧ (∀ (s : Shared) (us : List Value), us.length = ps.length → BindsTo s fd ⟨us, []⟩ (ps.zip us)) ∧ IsFn x st fd
section
variable {P : Program} {w : World} {K : PySem.W.Frag} {mg : Str → Option Value} {base : Heap} {x : Str} {ps N : List Str} {k : Nat} {c : Con} {st : Stmt} {wb : WS}
theorem Callee.mono {j : Nat} (C : Callee P w K mg base x ps st j c) (h : j ≤ k) : Callee P w K mg base x ps st k c := by
  obtain ⟨f, fd, F, r⟩ := C.ex
  exact ⟨f, fd, F.mono h, r⟩
theorem callee_of (D : Def K mg x ps st) (S : FnScope N ps (defScope st)) (hlen : ∀ xs S0 P, c xs S0 P → xs.length = ps.length)
    (hbody : ∀ (f : Addr) (cdv : Value) (A : Around) (outer : List Env) (s : Shared) (H : Hp) (E : XK), Room k (A.deeper (envOfC x (defScope st) s.heap.objs.size f cdv)) → A.guards = some [] →
      JB (cxOf CX0 P w K mg base N x (defScope st) f cdv A outer s H E).nox (defBody st) wb)
    (hpl : ∀ xs S0 P, c xs S0 P → wb (xs.map some ++ List.replicate (N.length - xs.length) none) S0 ⟨fun _ S' => P .non S', P, fun _ _ => False, fun _ _ => False⟩) : Callee P w K mg base x ps st (k + 1) c := by
  obtain ⟨f, fd, F, hm, hb, hi⟩ := D.ex
  exact ⟨f, fd, def_ok F S hlen (hbody f) hpl, hm, F.kp, fun s us _ hl => by rw [List.append_nil] at hl ⊢; exact hb s us hl, hi⟩
end
theorem re_callee {X : Cx} {x : Str} {ps : List Str} {st : Stmt} {k : Nat} {c : Con} {p pos : Pos} {e : Expr} {es : List Expr} {w : WA} (C : Callee X.prog X.w X.K X.mg X.base x ps st k c) (hr : Room k X.A) (hgd : X.A.guards = some []) (ha : RA X (e :: es) w)
    (hx : Passes CX0 X E0) (hg : Gl X x := by rfl) (hdb : (x == ("__debug__" : Str)) = false := by decide) (he : starEach (e :: es) X.env = (false, eval e X.env) :: starEach es X.env := by rfl) (hpl : (backTo pos (starEach es X.env)).any (·.1) = false := by rfl) :
    RE X (.Call (.Name x p) (e :: es) [] pos) (wF c w) := by
  obtain ⟨f, fd, F, hm, hk, hb, _⟩ := C.ex
  exact re_call F hr hgd hg hm hk hb hx ha hdb he hpl

/-! ### keywords -/
structure RK (X : Cx) (kws : List Keyword) (w : WA) : Prop where
  pk : PK X kws (tWA X.K w)
theorem PK.weak {X : Cx} {kws : List Keyword} {t t' : TA} (h : PK X kws t) (i : ∀ σ H Q, t' σ H Q → t σ H Q) : PK X kws t' := ⟨fun pos pins s σ H Q I q => h.run pos pins s σ H Q I (i σ H Q q)⟩
theorem rk_nil {X : Cx} : RK X [] wNil := ⟨PK.weak pk_nil fun σ H Q ⟨ι, env, S, P, re, rs, hw, hP⟩ => hP [] S hw ι H [] .refl rs .nil⟩
theorem rk_cons {X : Cx} {nm : Option Str} {e : Expr} {kpos : Pos} {kws : List Keyword} {w : W} {r : WA} (h : RE X e w) (hr : RK X kws r) : RK X (⟨nm, e, kpos⟩ :: kws) (wCons w r) := by
  refine ⟨PK.weak (pk_cons h.pe hr.pk) fun σ H Q ⟨ι, env, S, P, re, rs, hw, hP⟩ => ?_⟩
  refine ⟨ι, env, S, _, re, rs, hw, fun x S1 hk ι1 H1 v e1 rs1 rx => ⟨ι1, env, S1, _, re.mono e1, rs1, hk, fun xs S2 hx ι2 H2 vs e2 rs2 rxs => ?_⟩⟩
  exact hP _ _ hx ι2 H2 _ (e1.trans e2) rs2 (.cons (rx.mono e2) rxs)
/-- values in another order -/
def perm {α : Type} (d : α) (is : List Nat) (xs : List α) : List α := is.map fun i => xs.getD i d
theorem perm_rvs {K : PySem.W.Frag} {ι : List Addr} {H : Hp} {xs : List PV} {vs : List V} (r : RVs K ι H xs vs) : ∀ is : List Nat, RVs K ι H (perm .non is xs) (perm .non is vs)
  | [] => .nil
  | i :: is => by
    refine .cons ?_ (perm_rvs r is)
    show RV K ι H (xs.getD i .non) (vs.getD i .non)
    rw [List.getD_eq_getElem?_getD, List.getD_eq_getElem?_getD]
    cases h : xs[i]? with
    | none =>
      have : vs[i]? = none := by rw [List.getElem?_eq_none_iff, ← r.length]; exact List.getElem?_eq_none_iff.mp h
      rw [this]
      exact .non
    | some x =>
      obtain ⟨v, h1, h2⟩ := r.get h
      rw [h1]
      exact h2
theorem perm_vals {vs : List V} {us : List Value} (r : Vals vs us) : ∀ is : List Nat, Vals (perm .non is vs) (perm .none is us)
  | [] => .nil
  | i :: is => by
    refine .cons ?_ (perm_vals r is)
    show RelV (vs.getD i .non) (us.getD i .none)
    rw [List.getD_eq_getElem?_getD, List.getD_eq_getElem?_getD]
    have key : ∀ {vs : List V} {us : List Value}, Vals vs us → ∀ i : Nat, RelV (vs[i]?.getD .non) (us[i]?.getD .none) := by
      intro vs us r
      induction r with
      | nil => intro i; exact rfl
      | cons h _ ih =>
        intro i
        cases i with
        | zero => exact h
        | succ i => exact ih i
    exact key r i
/-- how the text's def takes these keywords -/
def KwB (x : Str) (ps : List Str) (st : Stmt) (ks : List Str) (is : List Nat) : Prop := ∀ (kV doc pm : Value) (an : Option Addr) (cdv ct : Value) (ws : List Value), ws.length = ks.length →
  bindArgs (PySem.W.fnOf x x (defArgs st) (defBody st) (defScope st) .none kV doc pm an cdv ct) ⟨[], ks.zip ws⟩ = pure (ps.zip (perm .none is ws))
def wFK (c : Con) (n : Nat) (is : List Nat) (w : WA) : W := fun env S P => w env S fun xs S1 => xs.length = n ∧ c (perm .non is xs) S1 P
theorem re_calleeK {X : Cx} {x : Str} {ps ks : List Str} {is : List Nat} {st : Stmt} {k : Nat} {c : Con} {p pos : Pos} {kws : List Keyword} {w : WA} (C : Callee X.prog X.w X.K X.mg X.base x ps st k c) (hr : Room k X.A) (hgd : X.A.guards = some []) (hkw : RK X kws w) (kb : KwB x ps st ks is)
    (hx : Passes CX0 X E0) (hg : Gl X x := by rfl) (hdb : (x == ("__debug__" : Str)) = false := by decide)
    (hall : (backToKw pos (keywordEach kws X.env)).all (·.1.isSome) = true := by rfl) (hks : (backToKw pos (keywordEach kws X.env)).filterMap (·.1) = ks := by rfl)
    (hpl : ((backTo pos (starEach [] X.env)).any (·.1) || (backToKw pos (keywordEach kws X.env)).any (·.1.isNone)) = false := by rfl) :
    RE X (.Call (.Name x p) [] kws pos) (wFK c ks.length is w) := by
  obtain ⟨f, fd, F, hm, hk, _, kV, doc, pm, an, cdv, ct, rfl⟩ := C.ex
  refine ⟨⟨fun pins s σ H Q I ⟨ι, env, S, P, re, rs, hw, hP⟩ => ?_⟩⟩
  refine wpAny_Call_Name_kw (ld_glob I hg hm ?_ hdb)
  refine PySem.W.callWith_KW0 (h₀ := X.base) I.ok.mod.kin hk hall (thn (hkw.pk.run pos pins s σ H (fun vs H1 => vs.length = ks.length ∧ spC X.K c (perm .non is vs) H1 Q E0) I ⟨ι, env, S, _, re, rs, hw, fun xs S1 hx ι1 H1 vs e1 rs1 rx => ⟨by rw [← rx.length]; exact hx.1, spC_of e1 rs1 (perm_rvs rx is) hP hx.2⟩⟩) fun ws s1 ⟨vs, H1, I1, r, q1, q⟩ => ⟨I1.kIn, ?_⟩) hpl
  rw [hks]
  exact run_con (args := ⟨[], ks.zip ws⟩) F hr hgd hx I1 (.of_eq (kb kV doc pm an cdv ct ws (by rw [← r.length]; exact q1))) (perm_vals r is) q

theorem def_mk {K : PySem.W.Frag} {mg : Str → Option Value} {h : Heap} {x : Str} {ps : List Str} {st : Stmt} {f : Addr} {oc : Value} {od an : Option Addr} {osl : Array (Option Value)} {kV doc pm cdv ct : Value} (X : K.In h) (G : h.Ns mainGlobals mg)
    (a : PySem.W.nsIn K mainGlobals x = some (some (.ref f))) (l : K.lookup f = some ⟨oc, od, .func (PySem.W.fnOf x x (defArgs st) (defBody st) (defScope st) .none kV doc pm an cdv ct), osl⟩)
    (c : PySem.W.codeIn K cdv x = true) (k : PySem.W.keepIn K (.ref f) = true)
    (hb : ∀ (kV doc pm : Value) (an : Option Addr) (cdv ct : Value) (us : List Value), us.length = ps.length → bindArgs (PySem.W.fnOf x x (defArgs st) (defBody st) (defScope st) .none kV doc pm an cdv ct) ⟨us, []⟩ = pure (ps.zip us)) : Def K mg x ps st :=
  ⟨f, _, fun_mk l c k, PySem.W.mg_of X G a, fun _ us hl => .of_eq (hb _ _ _ _ _ _ us hl), _, _, _, _, _, _, rfl⟩
/-- the law's own def, ready for the end -/
theorem law_of {P : Program} {w : World} {K : PySem.W.Frag} {mg : Str → Option Value} {x : Str} {ps N : List Str} {k : Nat} {c : Con} {st : Stmt} {wb : WS} {fa : Addr} {y : Str} (D : Def K mg x ps st) (hp : ps = [y]) (hfa : mg x = some (.ref fa)) (S : FnScope N ps (defScope st)) (hlen : ∀ xs S0 P, c xs S0 P → xs.length = ps.length)
    (hbody : ∀ base : Heap, K.In base → base.Ns mainGlobals mg → ∀ (f : Addr) (cdv : Value) (A : Around) (outer : List Env) (s : Shared) (H : Hp) (E : XK), Room k (A.deeper (envOfC x (defScope st) s.heap.objs.size f cdv)) → A.guards = some [] →
      JB (cxOf CX0 P w K mg base N x (defScope st) f cdv A outer s H E).nox (defBody st) wb)
    (hpl : ∀ xs S0 P, c xs S0 P → wb (xs.map some ++ List.replicate (N.length - xs.length) none) S0 ⟨fun _ S' => P .non S', P, fun _ _ => False, fun _ _ => False⟩) :
    ∃ fd : FuncData, (∀ (s : Shared) (u : Value), BindsTo s fd ⟨[u], []⟩ [(y, u)]) ∧ ∀ base : Heap, K.In base → base.Ns mainGlobals mg → FnG P w K mg base CX0 (k + 1) fa fd [y] (spC K c) := by
  subst hp
  obtain ⟨f, fd, F, hm, hb, _⟩ := D.ex
  rw [hfa] at hm
  cases hm
  exact ⟨fd, fun s u => hb s [u] rfl, fun base h1 h2 => def_ok F S hlen (hbody base h1 h2 fa) hpl⟩

/-! ### promises with ghosts -/
def conG {G : Type} (pre : G → List PV → Store → Prop) (post : G → List PV → Store → PV → Store → Prop) : Con := fun xs S P => ∃ g, pre g xs S ∧ ∀ x S', post g xs S x S' → P x S'
theorem con_g {G : Type} {pre : G → List PV → Store → Prop} {post : G → List PV → Store → PV → Store → Prop} {xs : List PV} {S : Store} {P : PQ} (g : G) (h : pre g xs S) (k : ∀ x S', post g xs S x S' → P x S') : conG pre post xs S P := ⟨g, h, k⟩

/-! ### loops by an invariant -/
theorem loop_inv {g : PIt} {tg : WG} {body : WS} {D : PEnds} {n : Nat} (I : Nat → PEnv → Store → Prop)
    (turn : ∀ i env S, i < n → I i env S → ∃ x env1, g i S = some (some x) ∧ tg x env = some env1 ∧ ∀ D' : PEnds, (∀ env' S', I (i + 1) env' S' → D'.nx env' S') → (∀ env' S', I (i + 1) env' S' → D'.ct env' S') → D'.rt = D.rt → D'.bk = D.nx → body env1 S D')
    (stop : ∀ env S, I n env S → g n S = some none ∧ D.nx env S) {env : PEnv} {S : Store} (h0 : I 0 env S) : ∃ m, wLoop g tg body D m 0 env S := by
  have key : ∀ k i env S, i + k = n → I i env S → wLoop g tg body D (k + 1) i env S := by
    intro k
    induction k with
    | zero =>
      intro i env S e h
      obtain rfl : i = n := e
      obtain ⟨h1, h2⟩ := stop env S h
      unfold wLoop
      rw [h1]
      exact h2
    | succ k ih =>
      intro i env S e h
      obtain ⟨x, env1, h1, h2, h3⟩ := turn i env S (by omega) h
      unfold wLoop
      rw [h1]
      simp only [h2]
      exact h3 _ (fun env' S' q => ih (i + 1) env' S' (by omega) q) (fun env' S' q => ih (i + 1) env' S' (by omega) q) rfl rfl
  exact ⟨n + 1, key n 0 env S (by omega) h0⟩
theorem lc_inv {g : PIt} {tg : WG} {tt : WT} {te : W} {own : List Nat} {env0 : PEnv} {d n : Nat} {P : PQ} (I : Nat → Store → Prop)
    (turn : ∀ i S, i < n → I i S → ∃ x env1, g i S = some (some x) ∧ tg x (wipeP env0 own) = some env1 ∧ ∀ (Qt : Bool → Store → Prop) (Qe : PQ),
      (∀ y S2 acc, S2[d]? = some (.lst acc) → acc.length < sizeLine → I (i + 1) (S2.set d (.lst (acc ++ [y]))) → Qe y S2) → (∀ S1, I (i + 1) S1 → Qt false S1) → (∀ S1, te env1 S1 Qe → Qt true S1) → tt env1 S Qt)
    (stop : ∀ S, I n S → g n S = some none ∧ P (.ref d) S) {S : Store} (h0 : I 0 S) : ∃ m, wLcL g tg tt te own env0 d P m 0 S := by
  have key : ∀ k i S, i + k = n → I i S → wLcL g tg tt te own env0 d P (k + 1) i S := by
    intro k
    induction k with
    | zero =>
      intro i S e h
      obtain rfl : i = n := e
      obtain ⟨h1, h2⟩ := stop S h
      unfold wLcL
      rw [h1]
      exact h2
    | succ k ih =>
      intro i S e h
      obtain ⟨x, env1, h1, h2, h3⟩ := turn i S (by omega) h
      unfold wLcL
      rw [h1]
      simp only [h2]
      refine h3 _ _ (fun y S2 acc a1 a2 a3 => ?_) (fun S1 q => ih (i + 1) S1 (by omega) q) (fun S1 q => q)
      rw [a1]
      exact ⟨a2, ih (i + 1) _ (by omega) a3⟩
  exact ⟨n + 1, key n 0 S (by omega) h0⟩
end Lt
set_option Elab.async false
set_option linter.all false
set_option maxRecDepth 100000
/-! Lt9: reckoning with plain terms. -/
namespace Lt
open PySem PySem.Spec PyProof.Rows L2

theorem gMul_l {i j : Int} (h1 : -(2 ^ 64) < i) (h2 : i < 2 ^ 64) : gMul i j = some (.int (i * j)) := if_pos (.inl ⟨h1, h2⟩)
theorem gMul_r {i j : Int} (h1 : -(2 ^ 64) < j) (h2 : j < 2 ^ 64) : gMul i j = some (.int (i * j)) := if_pos (.inr ⟨h1, h2⟩)
theorem gDiv_ok {i j : Int} (h1 : 0 < j) (h2 : j < 1073741824) : gDiv i j = some (.int (i / j)) := if_pos ⟨h1, h2⟩
theorem gMod_ok {i j : Int} (h1 : 0 < j) : gMod i j = some (.int (i % j)) := if_pos h1
theorem cut_ok {n : Nat} {r : PV × Store} (h : n ≤ 16777216) : cut n r = some r := if_pos (by rw [sizeLine_eq]; exact h)
theorem sl_le {n : Nat} (h : n ≤ 16777216) : n ≤ sizeLine := by rw [sizeLine_eq]; exact h
theorem sl_lt {n : Nat} (h : n < 16777216) : n < sizeLine := by rw [sizeLine_eq]; exact h
theorem gPow_1018 : gPow 10 18 = some (.int 1000000000000000000) := rfl

theorem fAdd_ii (i j : Int) (S : Store) : fAdd (.int i) (.int j) S = some (.int (i + j), S) := rfl
theorem fAdd_tt {xs ys : List PV} {S : Store} (h : xs.length + ys.length ≤ 16777216) : fAdd (.tup xs) (.tup ys) S = some (.tup (xs ++ ys), S) := cut_ok h
theorem fAdd_ll {n m : Nat} {xs ys : List PV} {S : Store} (h1 : S[n]? = some (.lst xs)) (h2 : S[m]? = some (.lst ys)) (h : xs.length + ys.length ≤ 16777216) : fAdd (.ref n) (.ref m) S = some (.ref S.length, S ++ [.lst (xs ++ ys)]) := by
  show (match S[n]?, S[m]? with
    | some (Cell.lst xs), some (Cell.lst ys) => cut (xs.length + ys.length) (PV.ref S.length, S ++ [Cell.lst (xs ++ ys)])
    | _, _ => none) = _
  rw [h1, h2]
  exact cut_ok h
theorem fI_ii (g : Int → Int → Option PV) (i j : Int) (S : Store) : fI g (.int i) (.int j) S = (g i j).map fun v => (v, S) := rfl
theorem opt_some (r : PV × Store) (Q : PQ) : opt (some r) Q = Q r.1 r.2 := rfl
theorem fGet_ok {n : Nat} {y : PV} {k : Key} {kvs : List (Key × PV)} {v : PV} {S : Store} (hk : keyOf y = some k) (h : S[n]? = some (.dic kvs)) (hv : lookK k kvs = some v) : fGet (.ref n) y S = some (v, S) := by
  unfold fGet
  simp only [hk, h, hv, Option.map_some]
theorem fIx_t {xs : List PV} {j : Nat} {x : PV} {S : Store} (h : xs[j]? = some x) : fIx (.tup xs) (.int j) S = some (x, S) := by
  show (atI xs (j : Int)).map _ = _
  rw [atI_nat h]; rfl
theorem fIx_l {n : Nat} {c : Cell} {xs : List PV} {j : Nat} {x : PV} {S : Store} (hc : S[n]? = some c) (hx : c.items = some xs) (h : xs[j]? = some x) : fIx (.ref n) (.int j) S = some (x, S) := by
  unfold fIx
  simp only [hc, hx]
  rw [atI_nat h]; rfl
theorem seqOf_l {n : Nat} {c : Cell} {xs : List PV} {S : Store} (hc : S[n]? = some c) (hx : c.items = some xs) : seqOf (.ref n) S = some xs := by
  unfold seqOf
  simp only [hc, hx]
theorem bLen_l {n : Nat} {c : Cell} {xs : List PV} {S : Store} (hc : S[n]? = some c) (hx : c.items = some xs) : bLen [.ref n] S = some (.int xs.length, S) := by
  show (seqOf (.ref n) S).map _ = _
  rw [seqOf_l hc hx]; rfl
theorem bLen_t {xs : List PV} {S : Store} : bLen [.tup xs] S = some (.int xs.length, S) := rfl
/-- [..] * k -/
def fRep : F2
  | .ref n, .int k, S => match S[n]? with
    | some (.lst xs) => if (-(2 ^ 63) ≤ k ∧ k < 2 ^ 63) ∧ xs.length * k.toNat ≤ sizeLine then some (.ref S.length, S ++ [.lst (List.replicate k.toNat xs).flatten]) else none
    | _ => none
  | _, _, _ => none
theorem op_fRep {X : Cx} : OpR X (binaryOp .Mult) (rOp X.K fRep) := by
  intro pins s σ H u v uu vv Q I ru rv ⟨ι, S, x, y, P, rs, rx, ry, hf, hP⟩
  unfold fRep at hf
  split at hf
  · obtain ⟨a, rfl, ha⟩ := ref_of rx
    cases int_of ry
    split at hf
    · rename_i hm
      obtain ⟨us, hu, q⟩ := at_lst rs hm ha
      obtain ⟨⟨⟨c1, c2⟩, c3⟩, h⟩ := opt_ite hf
      refine L2.op_rep pins s σ H _ _ _ _ Q I ru rv ⟨a, _, us, rfl, rfl, hu, c1, c2, by rw [← q.length]; exact c3, fun p hp => ?_⟩
      exact new_lst rs (q.rep _) hP h p hp
    · exact hf.elim
  · exact hf.elim
/-! stores -/
/-- all but the cells of M stands as it stood -/
structure Kp (M : List Nat) (S S' : Store) : Prop where
  le : S.length ≤ S'.length
  at_ : ∀ n c, n ∉ M → S[n]? = some c → S'[n]? = some c
theorem Kp.refl {M : List Nat} {S : Store} : Kp M S S := ⟨Nat.le_refl _, fun _ _ _ h => h⟩
theorem Kp.trans {M : List Nat} {S S1 S2 : Store} (a : Kp M S S1) (b : Kp M S1 S2) : Kp M S S2 := ⟨Nat.le_trans a.le b.le, fun n c h e => b.at_ n c h (a.at_ n c h e)⟩
theorem Kp.sub {M M' : List Nat} {S S' : Store} (a : Kp M S S') (h : ∀ n ∈ M, n ∈ M') : Kp M' S S' := ⟨a.le, fun n c hn e => a.at_ n c (fun z => hn (h n z)) e⟩
theorem Kp.push {M : List Nat} {S : Store} {c : Cell} : Kp M S (S ++ [c]) := ⟨by simp, fun n d _ e => by rw [List.getElem?_append_left (List.getElem?_eq_some_iff.mp e).1]; exact e⟩
theorem Kp.set {M : List Nat} {S : Store} {n : Nat} {c : Cell} (h : n ∈ M) : Kp M S (S.set n c) := ⟨by simp, fun m d hm e => by rw [List.getElem?_set_ne (fun (z : n = m) => hm (by subst z; exact h))]; exact e⟩
/-- a cell that was made since may change -/
theorem Kp.set_new {M : List Nat} {S S' : Store} {n : Nat} {c : Cell} (a : Kp M S S') (h : S.length ≤ n) : Kp M S (S'.set n c) :=
  ⟨by simpa using a.le, fun m d hm e => by rw [List.getElem?_set_ne (fun z => by have := (List.getElem?_eq_some_iff.mp e).1; omega)]; exact a.at_ m d hm e⟩
theorem at_new (S : Store) (c : Cell) : (S ++ [c])[S.length]? = some c := by simp
theorem at_old {S : Store} {c d : Cell} {n : Nat} (h : S[n]? = some d) : (S ++ [c])[n]? = some d := by
  rw [List.getElem?_append_left (List.getElem?_eq_some_iff.mp h).1]; exact h
theorem at_set {S : Store} {c d : Cell} {n : Nat} (h : S[n]? = some d) : (S.set n c)[n]? = some c := List.getElem?_set_self (List.getElem?_eq_some_iff.mp h).1
theorem at_set_ne {S : Store} {c d : Cell} {n m : Nat} (hn : m ≠ n) (h : S[n]? = some d) : (S.set m c)[n]? = some d := by rw [List.getElem?_set_ne hn]; exact h
theorem lt_of_at {S : Store} {c : Cell} {n : Nat} (h : S[n]? = some c) : n < S.length := (List.getElem?_eq_some_iff.mp h).1

/-! ### data -/
theorem toD_ints (n : Nat) (S : Store) : ∀ ns : List Int, optAll (toD (n + 1) S) (ns.map PV.int) = some (ns.map PyData.int)
  | [] => rfl
  | i :: r => by
    simp only [List.map_cons]
    unfold optAll
    rw [toD_ints n S r]
    rfl
theorem lay_ints : ∀ ns : List Int, PyData.canLayAll0 (ns.map PyData.int) = true
  | [] => by simp [PyData.canLayAll0]
  | n :: r => by simp [PyData.canLayAll0, PyData.canLay0, lay_ints r]
theorem depth_ints : ∀ ns : List Int, PyData.depthAll (ns.map PyData.int) = 0
  | [] => by simp [PyData.depthAll]
  | n :: r => by simp [PyData.depthAll, PyData.depth, depth_ints r]
theorem shaped_ints (ns : List Int) : SeqAt.shaped (.list (ns.map PyData.int)) = true := by
  show (PyData.canLay0 _ && decide (PyData.depth _ ≤ 64)) = true
  simp [PyData.canLay0, PyData.depth, lay_ints, depth_ints]
theorem eqv_list_nil (ds : List PyData) : PyData.eqv (.list ds) (.list []) = ds.isEmpty := by
  cases ds <;> simp [PyData.eqv, PyData.eqvAll]
/-- a list of ints against [] -/
theorem fNe_ints_nil {n m : Nat} {ns : List Int} {S : Store} (h1 : S[n]? = some (.lst (ns.map .int))) (h2 : S[m]? = some (.lst [])) : fNe (.ref n) (.ref m) S = some (.bl (!ns.isEmpty), S) := by
  have d1 : toD 66 S (.ref n) = some (.list (ns.map .int)) := by
    unfold toD
    simp only [h1]
    rw [toD_ints 64 S ns]; rfl
  have d2 : toD 66 S (.ref m) = some (.list []) := by
    unfold toD
    simp only [h2]
    rfl
  have s2 : SeqAt.shaped (.list []) = true := shaped_ints []
  show (eqP (.ref n) (.ref m) S).map _ = _
  have e : eqP (.ref n) (.ref m) S = some ns.isEmpty := by
    unfold eqP
    simp only [d1, d2]
    rw [if_pos ⟨shaped_ints ns, s2⟩, eqv_list_nil]
    cases ns <;> rfl
  rw [e]; rfl
end Lt
set_option Elab.async false
set_option linter.all false
set_option maxRecDepth 100000
/-! Lt10: data for repr and for ==. -/
namespace Lt
open PySem PySem.Spec PyProof.Rows L2
/-- plain data that may be shown: depth and length -/
structure Okd (k L : Nat) (d : PyData) : Prop where
  nd : d.hasDict = false
  sh : d.showable = true
  dp : d.depth ≤ k
  ln : d.shown.length ≤ L
  cl : d.canLay0 = true
theorem Okd.mono {k L k' L' : Nat} {d : PyData} (h : Okd k L d) (h1 : k ≤ k') (h2 : L ≤ L') : Okd k' L' d := ⟨h.nd, h.sh, Nat.le_trans h.dp h1, Nat.le_trans h.ln h2, h.cl⟩
theorem Okd.int {v : Nat} (h : v < 1000) : Okd 0 (v + 2) (.int v) := by
  refine ⟨by simp [PyData.hasDict], ?_, by simp [PyData.depth], ?_, by simp [PyData.canLay0]⟩
  · show decide ((v : Int).natAbs.log2 < 1920) = true
    rw [decide_eq_true_eq, Int.natAbs_natCast]
    exact Nat.lt_of_le_of_lt (Nat.log2_le_self v) (by omega)
  · have := len_str_of_int (v : Int)
    show (Str.ofString (toString (v : Int))).length ≤ v + 2
    rw [Int.natAbs_natCast] at this
    omega
theorem piled_bd {L : Nat} : ∀ {ts : List Str}, (∀ t ∈ ts, t.length ≤ L) → piled ts ≤ ts.length * (L + 2)
  | [], _ => by simp [piled]
  | t :: ts, h => by
    have h1 := h t (by simp)
    have h2 := piled_bd (ts := ts) fun x hx => h x (List.mem_cons_of_mem _ hx)
    rw [piled_cons, List.length_cons, Nat.succ_mul]
    omega
theorem tupleText_bd {L : Nat} {ts : List Str} (h : ∀ t ∈ ts, t.length ≤ L) : (tupleText ts).length ≤ ts.length * (L + 2) + 3 := by
  have hp := piled_bd h
  have hj : (Str.join ", " ts).length ≤ piled ts := by
    by_cases e : ts = []
    · subst e; exact Nat.zero_le _
    · have := join_length_add ts e; omega
  have e1 : ((("(" : String) : Str)).length = 1 := rfl
  have e3 : (((if ts.length == 1 then ",)" else ")" : String) : Str)).length ≤ 2 := by split <;> decide
  unfold tupleText
  rw [strLen_append, strLen_append, e1]
  omega
theorem listText_bd {L : Nat} {ts : List Str} (h : ∀ t ∈ ts, t.length ≤ L) : (listText ts).length ≤ ts.length * (L + 2) + 3 := by
  have hp := piled_bd h
  unfold listText
  have e1 : ((("]" : String) : Str)).length = 1 := rfl
  rw [strLen_append, e1]
  have ht : (textFrom 0 "[" ts).length ≤ 1 + piled ts := by
    cases ts with
    | nil => exact Nat.le_refl 1
    | cons t r =>
      show (textFrom 1 (("[" : Str) ++ ("" : String) ++ t) r).length ≤ _
      rw [textFrom_length_pos r 1 _ (by decide), strLen_append, strLen_append, piled_cons]
      have : (("[" : Str)).length = 1 := rfl
      have : ((("" : String) : Str)).length = 0 := rfl
      omega
  omega
theorem mem_shownAll {L : Nat} : ∀ {ds : List PyData}, (∀ d ∈ ds, d.shown.length ≤ L) → ∀ t ∈ PyData.shownAll ds, t.length ≤ L
  | [], _ => fun t h => by simp [PyData.shownAll] at h
  | d :: r, h => fun t ht => by
    simp only [PyData.shownAll, List.mem_cons] at ht
    rcases ht with rfl | ht
    · exact h d (by simp)
    · exact mem_shownAll (fun x hx => h x (List.mem_cons_of_mem _ hx)) t ht
theorem shownAll_len : ∀ ds : List PyData, (PyData.shownAll ds).length = ds.length
  | [] => by simp [PyData.shownAll]
  | d :: r => by simp [PyData.shownAll, shownAll_len r]
theorem okd_all {k L : Nat} : ∀ {ds : List PyData}, (∀ d ∈ ds, Okd k L d) → PyData.hasDictAll ds = false ∧ PyData.showableAll ds = true ∧ PyData.depthAll ds ≤ k ∧ PyData.canLayAll0 ds = true
  | [], _ => by simp [PyData.hasDictAll, PyData.showableAll, PyData.depthAll, PyData.canLayAll0]
  | d :: r, h => by
    have h1 := h d (by simp)
    obtain ⟨a, b, c, e⟩ := okd_all (ds := r) fun x hx => h x (List.mem_cons_of_mem _ hx)
    refine ⟨by simp [PyData.hasDictAll, h1.nd, a], by simp [PyData.showableAll, h1.sh, b], ?_, by simp [PyData.canLayAll0, h1.cl, e]⟩
    simp only [PyData.depthAll]
    exact Nat.max_le.mpr ⟨h1.dp, c⟩
theorem Okd.tup {k L : Nat} {ds : List PyData} (h : ∀ d ∈ ds, Okd k L d) : Okd (k + 1) (ds.length * (L + 2) + 3) (.tuple ds) := by
  obtain ⟨a, b, c, e⟩ := okd_all h
  refine ⟨by simp [PyData.hasDict, a], by simp [PyData.showable, b], by simp only [PyData.depth]; omega, ?_, by simp [PyData.canLay0, e]⟩
  have := tupleText_bd (mem_shownAll fun d hd => (h d hd).ln)
  rw [shownAll_len] at this
  simpa only [PyData.shown] using this
theorem Okd.lst {k L : Nat} {ds : List PyData} (h : ∀ d ∈ ds, Okd k L d) : Okd (k + 1) (ds.length * (L + 2) + 3) (.list ds) := by
  obtain ⟨a, b, c, e⟩ := okd_all h
  refine ⟨by simp [PyData.hasDict, a], by simp [PyData.showable, b], by simp only [PyData.depth]; omega, ?_, by simp [PyData.canLay0, e]⟩
  have := listText_bd (mem_shownAll fun d hd => (h d hd).ln)
  rw [shownAll_len] at this
  simpa only [PyData.shown] using this
theorem bRepr_ok {x : PV} {S : Store} {d : PyData} {k L : Nat} (h : toD 66 S x = some d) (hd : isDisplay d = true) (o : Okd k L d) (hk : k ≤ 60) (hL : L ≤ 16777216) : bRepr [x] S = some (.str d.shown, S) := by
  unfold bRepr
  simp only [h]
  exact if_pos ⟨hd, o.nd, o.sh, Nat.le_trans o.dp hk, Nat.le_trans o.ln (sl_le hL)⟩
theorem optAll_map {α β : Type} {f : α → Option β} {g : α → β} : ∀ {xs : List α}, (∀ x ∈ xs, f x = some (g x)) → optAll f xs = some (xs.map g)
  | [], _ => rfl
  | x :: xs, h => by
    unfold optAll
    rw [h x (by simp), optAll_map (xs := xs) fun y hy => h y (List.mem_cons_of_mem _ hy)]
    rfl
theorem fNe_str (x y : Str) (S : Store) : fNe (.str x) (.str y) S = some (.bl (!decide (x = y)), S) := rfl
/-- a list of data against [] -/
theorem fNe_nil {n m k L : Nat} {ds : List PyData} {S : Store} (h1 : toD 66 S (.ref n) = some (.list ds)) (o : ∀ d ∈ ds, Okd k L d) (hk : k ≤ 63) (h2 : S[m]? = some (.lst [])) : fNe (.ref n) (.ref m) S = some (.bl (!ds.isEmpty), S) := by
  have d2 : toD 66 S (.ref m) = some (.list []) := by
    unfold toD
    simp only [h2]
    rfl
  have sh : ∀ {es : List PyData}, (∀ d ∈ es, Okd k L d) → SeqAt.shaped (.list es) = true := fun {es} h => by
    obtain ⟨a, b, c, e⟩ := okd_all h
    show (PyData.canLay0 _ && decide (PyData.depth _ ≤ 64)) = true
    simp [PyData.canLay0, e, PyData.depth]
    omega
  have e : eqP (.ref n) (.ref m) S = some ds.isEmpty := by
    unfold eqP
    simp only [h1, d2]
    rw [if_pos ⟨sh o, sh (es := []) (by simp)⟩, eqv_list_nil]
  show (eqP (.ref n) (.ref m) S).map _ = _
  rw [e]; rfl
theorem toD_lst {n m : Nat} {S : Store} {xs : List PV} {g : PV → PyData} (h : S[m]? = some (.lst xs)) (hx : ∀ x ∈ xs, toD n S x = some (g x)) : toD (n + 1) S (.ref m) = some (.list (xs.map g)) := by
  unfold toD
  simp only [h]
  rw [optAll_map hx]; rfl
theorem toD_tup {n : Nat} {S : Store} {xs : List PV} {g : PV → PyData} (hx : ∀ x ∈ xs, toD n S x = some (g x)) : toD (n + 1) S (.tup xs) = some (.tuple (xs.map g)) := by
  show (optAll (toD n S) xs).map _ = _
  rw [optAll_map hx]; rfl
end Lt
set_option Elab.async false
set_option linter.all false
set_option maxRecDepth 100000
set_option maxHeartbeats 4000000
namespace Lw
open PySem PySem.Spec PyProof.Rows L2 Lt
def topS (i : Nat) : Stmt := PySem.Challenge.pw_keptmarks_k02_whole_true_values_and_read.main.body.getD i (.Pass ⟨0, 0, 0, 0⟩)
/-- what the text finds at its names -/
structure Txt (K : PySem.W.Frag) (mg : Str → Option Value) : Prop where
  n_enumerate : mg "enumerate" = none
  n_int : mg "int" = none
  n_isinstance : mg "isinstance" = none
  n_len : mg "len" = none
  n_list : mg "list" = none
  n_min : mg "min" = none
  n_range : mg "range" = none
  n_repr : mg "repr" = none
  n_tuple : mg "tuple" = none
abbrev s_true_value : Stmt := topS 1
abbrev N_true_value : List Str := ["sheet", "row", "cell"]
abbrev P_true_value : List Str := ["sheet", "row", "cell"]
abbrev s_true_reads : Stmt := topS 2
abbrev N_true_reads : List Str := ["sheet", "row", "cell"]
abbrev P_true_reads : List Str := ["sheet", "row", "cell"]
abbrev s_true_values : Stmt := topS 3
abbrev N_true_values : List Str := ["sheet", "row", "values", "formula", "_", "value"]
abbrev P_true_values : List Str := ["sheet", "row"]
abbrev s_reads_by_values : Stmt := topS 4
abbrev N_reads_by_values : List Str := ["sheet", "values", "cell", "inputs", "formulas", "reads", "_"]
abbrev P_reads_by_values : List Str := ["sheet", "values", "cell"]
abbrev s_followed : Stmt := topS 5
abbrev N_followed : List Str := ["formula", "values", "reads", "cell", "branches", "value"]
abbrev P_followed : List Str := ["formula", "values"]
abbrev s_taken_branch : Stmt := topS 6
abbrev N_taken_branch : List Str := ["branches", "value"]
abbrev P_taken_branch : List Str := ["branches", "value"]
abbrev s_law_jar : Stmt := topS 8
abbrev N_law_jar : List Str := ["script", "cells", "seal", "own", "far"]
abbrev P_law_jar : List Str := ["script"]
abbrev s_law_draw : Stmt := topS 9
abbrev N_law_draw : List Str := ["jar", "many", "far", "count", "cells", "mix", "whole"]
abbrev P_law_draw : List Str := ["jar", "many"]
abbrev s_law_pick : Stmt := topS 10
abbrev N_law_pick : List Str := ["jar", "row"]
abbrev P_law_pick : List Str := ["jar", "row"]
abbrev s_law_mixed : Stmt := topS 11
abbrev N_law_mixed : List Str := ["jar", "row", "left", "found"]
abbrev P_law_mixed : List Str := ["jar", "row"]
abbrev s_law_formula : Stmt := topS 12
abbrev N_law_formula : List Str := ["jar", "c", "deep", "turn"]
abbrev P_law_formula : List Str := ["jar", "c", "deep"]
abbrev s_law_sheet : Stmt := topS 13
abbrev N_law_sheet : List Str := ["jar", "inputs", "many", "deep", "place"]
abbrev P_law_sheet : List Str := ["jar", "inputs", "many", "deep"]
abbrev s_law_some_sheet : Stmt := topS 14
abbrev N_law_some_sheet : List Str := ["jar", "inputs"]
abbrev P_law_some_sheet : List Str := ["jar"]
abbrev s_law_rows : Stmt := topS 15
abbrev N_law_rows : List Str := ["inputs", "found", "place"]
abbrev P_law_rows : List Str := ["inputs"]
abbrev s_law_longer : Stmt := topS 16
abbrev N_law_longer : List Str := ["some", "found", "row", "value"]
abbrev P_law_longer : List Str := ["some"]
abbrev s_law_table : Stmt := topS 17
abbrev N_law_table : List Str := ["sheet", "row", "found", "formula", "reads", "part", "value"]
abbrev P_law_table : List Str := ["sheet", "row"]
abbrev s_law_are_told : Stmt := topS 18
abbrev N_law_are_told : List Str := ["sheet", "row", "is_named", "cell", "value", "reads", "came"]
abbrev P_law_are_told : List Str := ["sheet", "row", "is_named"]
abbrev s_law : Stmt := topS 19
abbrev N_law : List Str := ["script", "jar", "turn", "first", "second", "twice", "sheet", "stood", "rows", "spot", "row", "value"]
abbrev P_law : List Str := ["script"]
/-! true_value -/
theorem sc_true_value : FnScope N_true_value P_true_value (defScope s_true_value) := ⟨rfl, rfl, rfl, by decide +kernel, rfl, by decide +kernel, by decide +kernel⟩
def b_true_value (c_true_values : Con) : WS :=
  (wRet (wOp fIx (wF c_true_values (wCons (wVar 0) (wCons (wVar 1) wNil))) (wVar 2)))
theorem jb_true_value {P : Program} {w : World} {K : PySem.W.Frag} {mg : Str → Option Value} {base : Heap} (T : Txt K mg) {k : Nat} {c_true_values : Con} {k_true_values : Nat} (C_true_values : Callee P w K mg base "true_values" P_true_values s_true_values k_true_values c_true_values) (l_true_values : k_true_values ≤ k)
    (f : Addr) (cdv : Value) (A : Around) (outer : List Env) (s : Shared) (H : Hp) (E : XK) (hr : Room k (A.deeper (envOfC "true_value" (defScope s_true_value) s.heap.objs.size f cdv))) (hgd : A.guards = some []) :
    JB (cxOf CX0 P w K mg base N_true_value "true_value" (defScope s_true_value) f cdv A outer s H E).nox (defBody s_true_value) (b_true_value c_true_values) := by
  have scND := sc_true_value.nd
  exact (jb_one (js_ret (re_ix (re_callee C_true_values (hr.mono l_true_values) hgd (ra_cons (re_var 0) (ra_cons (re_var 1) ra_nil)) pass0) (re_var 2))))
/-! true_reads -/
theorem sc_true_reads : FnScope N_true_reads P_true_reads (defScope s_true_reads) := ⟨rfl, rfl, rfl, by decide +kernel, rfl, by decide +kernel, by decide +kernel⟩
def b_true_reads (c_reads_by_values : Con) (c_true_values : Con) : WS :=
  (wRet (wF c_reads_by_values (wCons (wVar 0) (wCons (wF c_true_values (wCons (wVar 0) (wCons (wVar 1) wNil))) (wCons (wVar 2) wNil)))))
theorem jb_true_reads {P : Program} {w : World} {K : PySem.W.Frag} {mg : Str → Option Value} {base : Heap} (T : Txt K mg) {k : Nat} {c_reads_by_values : Con} {k_reads_by_values : Nat} (C_reads_by_values : Callee P w K mg base "reads_by_values" P_reads_by_values s_reads_by_values k_reads_by_values c_reads_by_values) (l_reads_by_values : k_reads_by_values ≤ k) {c_true_values : Con} {k_true_values : Nat} (C_true_values : Callee P w K mg base "true_values" P_true_values s_true_values k_true_values c_true_values) (l_true_values : k_true_values ≤ k)
    (f : Addr) (cdv : Value) (A : Around) (outer : List Env) (s : Shared) (H : Hp) (E : XK) (hr : Room k (A.deeper (envOfC "true_reads" (defScope s_true_reads) s.heap.objs.size f cdv))) (hgd : A.guards = some []) :
    JB (cxOf CX0 P w K mg base N_true_reads "true_reads" (defScope s_true_reads) f cdv A outer s H E).nox (defBody s_true_reads) (b_true_reads c_reads_by_values c_true_values) := by
  have scND := sc_true_reads.nd
  exact (jb_one (js_ret (re_callee C_reads_by_values (hr.mono l_reads_by_values) hgd (ra_cons (re_var 0) (ra_cons (re_callee C_true_values (hr.mono l_true_values) hgd (ra_cons (re_var 0) (ra_cons (re_var 1) ra_nil)) pass0) (ra_cons (re_var 2) ra_nil))) pass0)))
/-! true_values -/
theorem sc_true_values : FnScope N_true_values P_true_values (defScope s_true_values) := ⟨rfl, rfl, rfl, by decide +kernel, rfl, by decide +kernel, by decide +kernel⟩
def b_true_values (c_followed : Con) : WS :=
  (wSq (wSet 2 (wCall bList (wCons (wVar 1) wNil)))
    (wSq (wFor (wSeqI (wOp fIx (wVar 0) (wC (.int 1)))) (gN 3) (wSq (wAsg (wF c_followed (wCons (wVar 3) (wCons (wVar 2) wNil))) (gT (gsC (gN 4) (gsC (gN 5) gsN))))
    (wDrop (wM "list" (onL gAppend) (wVar 2) (wCons (wVar 5) wNil)))))
    (wRet (wVar 2))))
theorem jb_true_values {P : Program} {w : World} {K : PySem.W.Frag} {mg : Str → Option Value} {base : Heap} (T : Txt K mg) {k : Nat} {c_followed : Con} {k_followed : Nat} (C_followed : Callee P w K mg base "followed" P_followed s_followed k_followed c_followed) (l_followed : k_followed ≤ k)
    (f : Addr) (cdv : Value) (A : Around) (outer : List Env) (s : Shared) (H : Hp) (E : XK) (hr : Room k (A.deeper (envOfC "true_values" (defScope s_true_values) s.heap.objs.size f cdv))) (hgd : A.guards = some []) :
    JB (cxOf CX0 P w K mg base N_true_values "true_values" (defScope s_true_values) f cdv A outer s H E).nox (defBody s_true_values) (b_true_values c_followed) := by
  have scND := sc_true_values.nd
  exact (jb_cons (js_set 2 scND (re_callTy call_bList rfl T.n_list bt_list (ra_cons (re_var 1) ra_nil)))
    (jb_cons (js_for PassesOwn.never rfl (ri_seq (re_ix (re_var 0) re_int)) (rg_name 3 scND) (jb_cons (js_asg (re_callee C_followed (hr.mono l_followed) hgd (ra_cons (re_var 3) (ra_cons (re_var 2) ra_nil)) pass0) (rg_tup rfl (rgs_cons (rg_name 4 scND) (rgs_cons (rg_name 5 scND) rgs_nil))))
    (jb_one (js_expr (re_m PySem.F.plainAttrs_list PySem.F.slot_list_append PySem.F.type_list_append mt_gAppend (re_var 2) (ra_cons (re_var 5) ra_nil))))))
    (jb_one (js_ret (re_var 2)))))
/-! reads_by_values -/
theorem sc_reads_by_values : FnScope N_reads_by_values P_reads_by_values (defScope s_reads_by_values) := ⟨rfl, rfl, rfl, by decide +kernel, rfl, by decide +kernel, by decide +kernel⟩
def b_reads_by_values (c_followed : Con) : WS :=
  (wSq (wAsg (wVar 0) (gT (gsC (gN 3) (gsC (gN 4) gsN))))
    (wSq (wIfS (wB (wOp fLt (wVar 2) (wVar 3))) (wRet (wTup wNil)) wNx)
    (wSq (wAsg (wF c_followed (wCons (wOp fIx (wVar 4) (wOp (fI gSub) (wVar 2) (wVar 3))) (wCons (wVar 1) wNil))) (gT (gsC (gN 5) (gsC (gN 6) gsN))))
    (wRet (wVar 5)))))
theorem jb_reads_by_values {P : Program} {w : World} {K : PySem.W.Frag} {mg : Str → Option Value} {base : Heap} (T : Txt K mg) {k : Nat} {c_followed : Con} {k_followed : Nat} (C_followed : Callee P w K mg base "followed" P_followed s_followed k_followed c_followed) (l_followed : k_followed ≤ k)
    (f : Addr) (cdv : Value) (A : Around) (outer : List Env) (s : Shared) (H : Hp) (E : XK) (hr : Room k (A.deeper (envOfC "reads_by_values" (defScope s_reads_by_values) s.heap.objs.size f cdv))) (hgd : A.guards = some []) :
    JB (cxOf CX0 P w K mg base N_reads_by_values "reads_by_values" (defScope s_reads_by_values) f cdv A outer s H E).nox (defBody s_reads_by_values) (b_reads_by_values c_followed) := by
  have scND := sc_reads_by_values.nd
  exact (jb_cons (js_asg (re_var 0) (rg_tup rfl (rgs_cons (rg_name 3 scND) (rgs_cons (rg_name 4 scND) rgs_nil))))
    (jb_cons (js_if (rt_cmp op_fLt (re_var 2) (re_var 3) (by rfl)) (jb_one (js_ret (re_tup ra_nil))) jb_nil)
    (jb_cons (js_asg (re_callee C_followed (hr.mono l_followed) hgd (ra_cons (re_ix (re_var 4) (re_bin op_fSub (re_var 2) (re_var 3))) (ra_cons (re_var 1) ra_nil)) pass0) (rg_tup rfl (rgs_cons (rg_name 5 scND) (rgs_cons (rg_name 6 scND) rgs_nil))))
    (jb_one (js_ret (re_var 5))))))
/-! followed -/
theorem sc_followed : FnScope N_followed P_followed (defScope s_followed) := ⟨rfl, rfl, rfl, by decide +kernel, rfl, by decide +kernel, by decide +kernel⟩
def b_followed (c_taken_branch : Con) : WS :=
  (wSq (wSet 2 (wLst wNil))
    (wSq (wWhile (wTru (wCall bIsi (wCons (wVar 0) (wCons (wC (.ty "tuple")) wNil)))) (wSq (wAsg (wVar 0) (gT (gsC (gN 3) (gsC (gN 4) gsN))))
    (wSq (wSet 5 (wOp fIx (wVar 1) (wVar 3)))
    (wSq (wDrop (wM "list" (onL gAppend) (wVar 2) (wCons (wTup (wCons (wVar 3) (wCons (wVar 5) wNil))) wNil)))
    (wSet 0 (wF c_taken_branch (wCons (wVar 4) (wCons (wVar 5) wNil))))))))
    (wRet (wTup (wCons (wCall bTuple (wCons (wVar 2) wNil)) (wCons (wVar 0) wNil))))))
theorem jb_followed {P : Program} {w : World} {K : PySem.W.Frag} {mg : Str → Option Value} {base : Heap} (T : Txt K mg) {k : Nat} {c_taken_branch : Con} {k_taken_branch : Nat} (C_taken_branch : Callee P w K mg base "taken_branch" P_taken_branch s_taken_branch k_taken_branch c_taken_branch) (l_taken_branch : k_taken_branch ≤ k)
    (f : Addr) (cdv : Value) (A : Around) (outer : List Env) (s : Shared) (H : Hp) (E : XK) (hr : Room k (A.deeper (envOfC "followed" (defScope s_followed) s.heap.objs.size f cdv))) (hgd : A.guards = some []) :
    JB (cxOf CX0 P w K mg base N_followed "followed" (defScope s_followed) f cdv A outer s H E).nox (defBody s_followed) (b_followed c_taken_branch) := by
  have scND := sc_followed.nd
  exact (jb_cons (js_set 2 scND (re_lst ra_nil))
    (jb_cons (js_while PassesOwn.never (rt_tru (re_callB call_bIsi rfl T.n_isinstance bt_isinstance (ra_cons (re_var 0) (ra_cons (re_type (T := "tuple") rfl T.n_tuple bt_tuple) ra_nil)))) (jb_cons (js_asg (re_var 0) (rg_tup rfl (rgs_cons (rg_name 3 scND) (rgs_cons (rg_name 4 scND) rgs_nil))))
    (jb_cons (js_set 5 scND (re_ix (re_var 1) (re_var 3)))
    (jb_cons (js_expr (re_m PySem.F.plainAttrs_list PySem.F.slot_list_append PySem.F.type_list_append mt_gAppend (re_var 2) (ra_cons (re_tup (ra_cons (re_var 3) (ra_cons (re_var 5) ra_nil))) ra_nil)))
    (jb_one (js_set 0 scND (re_callee C_taken_branch (hr.mono l_taken_branch) hgd (ra_cons (re_var 4) (ra_cons (re_var 5) ra_nil)) pass0)))))))
    (jb_one (js_ret (re_tup (ra_cons (re_callTy call_bTuple rfl T.n_tuple bt_tuple (ra_cons (re_var 2) ra_nil)) (ra_cons (re_var 0) ra_nil)))))))
/-! taken_branch -/
theorem sc_taken_branch : FnScope N_taken_branch P_taken_branch (defScope s_taken_branch) := ⟨rfl, rfl, rfl, by decide +kernel, rfl, by decide +kernel, by decide +kernel⟩
def b_taken_branch : WS :=
  (wRet (wOp fIx (wVar 0) (wCall bMin (wCons (wVar 1) (wCons (wOp (fI gSub) (wCall bLen (wCons (wVar 0) wNil)) (wC (.int 1))) wNil)))))
theorem jb_taken_branch {P : Program} {w : World} {K : PySem.W.Frag} {mg : Str → Option Value} {base : Heap} (T : Txt K mg) {k : Nat}
    (f : Addr) (cdv : Value) (A : Around) (outer : List Env) (s : Shared) (H : Hp) (E : XK) (hr : Room k (A.deeper (envOfC "taken_branch" (defScope s_taken_branch) s.heap.objs.size f cdv))) (hgd : A.guards = some []) :
    JB (cxOf CX0 P w K mg base N_taken_branch "taken_branch" (defScope s_taken_branch) f cdv A outer s H E).nox (defBody s_taken_branch) (b_taken_branch) := by
  have scND := sc_taken_branch.nd
  exact (jb_one (js_ret (re_ix (re_var 0) (re_callB (call_bMin rfl) rfl T.n_min bt_min (ra_cons (re_var 1) (ra_cons (re_bin op_fSub (re_callB call_bLen rfl T.n_len bt_len (ra_cons (re_var 0) ra_nil)) re_int) ra_nil))))))
/-! _law_jar -/
theorem sc_law_jar : FnScope N_law_jar P_law_jar (defScope s_law_jar) := ⟨rfl, rfl, rfl, by decide +kernel, rfl, by decide +kernel, by decide +kernel⟩
def b_law_jar : WS :=
  (wSq (wPar 1 2 (wCons (wLc (wSeqI (wSl (wVar 0) wNoP (wP (wC (.int 63))))) (gN 3) wYes (wIf (wB (wOp fGe (wVar 3) (wC (.int 0)))) (wOp (fI gMul) (wC (.int 2)) (wVar 3)) (wOp (fI gSub) (wOp (fI gMul) (wNeg (wC (.int 2))) (wVar 3)) (wC (.int 1)))) [3]) (wCons (wOp fAdd (wC (.int 15723)) (wOp (fI gMul) (wC (.int 5)) (wCall bLen (wCons (wVar 0) wNil)))) wNil)))
    (wSq (wFor (wSeqI (wVar 1)) (gN 3) (wSet 2 (wOp (fI gMod) (wCall bInt (wCons (wOp fAdd (wOp fAdd (wOp (fI gMul) (wVar 2) (wC (.int 16807))) (wOp (fI gMul) (wVar 3) (wC (.int 3)))) (wC (.int 5))) wNil)) (wC (.int 4294967279)))))
    (wSq (wSet 4 (wLc (wSeqI (wVar 1)) (gN 3) (wB (wOp fGe (wVar 3) (wOp (fI gPow) (wC (.int 10)) (wC (.int 18))))) (wVar 3) [3]))
    (wRet (wDict [((.inr "far"), (wVar 4)), ((.inr "cells"), (wOp fAdd (wVar 1) (wLst (wCons (wOp fAdd (wOp (fI gMul) (wC (.int 7)) (wCall bLen (wCons (wVar 1) wNil))) (wC (.int 3))) wNil)))), ((.inr "seal"), (wVar 2)), ((.inr "count"), (wC (.int 0)))])))))
theorem jb_law_jar {P : Program} {w : World} {K : PySem.W.Frag} {mg : Str → Option Value} {base : Heap} (T : Txt K mg) {k : Nat}
    (f : Addr) (cdv : Value) (A : Around) (outer : List Env) (s : Shared) (H : Hp) (E : XK) (hr : Room k (A.deeper (envOfC "_law_jar" (defScope s_law_jar) s.heap.objs.size f cdv))) (hgd : A.guards = some []) :
    JB (cxOf CX0 P w K mg base N_law_jar "_law_jar" (defScope s_law_jar) f cdv A outer s H E).nox (defBody s_law_jar) (b_law_jar) := by
  have scND := sc_law_jar.nd
  exact (jb_cons (js_par 1 2 rfl scND (ra_cons (re_lc (own := [("own", 3)]) rfl scND (ri_seq (re_slice (re_var 0) ro_none (ro_some re_int))) (blkOk_by (N := N_law_jar) (sc := defScope s_law_jar) (by decide +kernel)) (by decide) (fun _ _ _ _ _ => (rg_name 3 scND)) (fun _ _ _ _ _ => rts_nil) (fun _ _ _ _ _ => (re_if (rt_cmp op_fGe (re_var 3) re_int (by rfl)) (re_bin op_fMul re_int (re_var 3)) (re_bin op_fSub (re_bin op_fMul (re_neg re_int) (re_var 3)) re_int)))) (ra_cons (re_bin op_fAdd re_int (re_bin op_fMul re_int (re_callB call_bLen rfl T.n_len bt_len (ra_cons (re_var 0) ra_nil)))) ra_nil)))
    (jb_cons (js_for PassesOwn.never rfl (ri_seq (re_var 1)) (rg_name 3 scND) (jb_one (js_set 2 scND (re_bin op_fMod (re_callTy call_bInt rfl T.n_int bt_int (ra_cons (re_bin op_fAdd (re_bin op_fAdd (re_bin op_fMul (re_var 2) re_int) (re_bin op_fMul (re_var 3) re_int)) re_int) ra_nil)) re_int))))
    (jb_cons (js_setLc 4 (own := [("own", 3)]) rfl scND (ri_seq (re_var 1)) (blkOk_by (N := N_law_jar) (sc := defScope s_law_jar) (by decide +kernel)) (by decide) (sw_true rfl rfl rfl (by decide +kernel)) (fun _ _ _ _ _ => (rg_name 3 scND)) (fun _ _ _ _ _ => (rts_one (rt_cmp op_fGe (re_var 3) (re_bin op_fPow re_int re_int) (by rfl)))) (fun _ _ _ _ _ => (re_var 3)))
    (jb_one (js_ret (re_dict (RPs.cons (k := (.inr "far")) (re_var 4) (RPs.cons (k := (.inr "cells")) (re_bin op_fAdd (re_var 1) (re_lst (ra_cons (re_bin op_fAdd (re_bin op_fMul re_int (re_callB call_bLen rfl T.n_len bt_len (ra_cons (re_var 1) ra_nil))) re_int) ra_nil))) (RPs.cons (k := (.inr "seal")) (re_var 2) (RPs.cons (k := (.inr "count")) re_int RPs.nil))))))))))
/-! _law_draw -/
theorem sc_law_draw : FnScope N_law_draw P_law_draw (defScope s_law_draw) := ⟨rfl, rfl, rfl, by decide +kernel, rfl, by decide +kernel, by decide +kernel⟩
def b_law_draw : WS :=
  (wSq (wSet 2 (wOp fGet (wVar 0) (wC (.str "far"))))
    (wSq (wIfS (wB (wOp fNe (wVar 2) (wLst wNil))) (wSq (wSet 6 (wM "list" (onL gPop) (wVar 2) (wCons (wC (.int 0)) wNil)))
    (wSq (wIfS (wB (wOp fGe (wVar 6) (wVar 1))) (wDrop (wM "list" (onL gInsert) (wVar 2) (wCons (wC (.int 0)) (wCons (wOp (fI gDiv) (wVar 6) (wVar 1)) wNil)))) wNx)
    (wRet (wOp (fI gMod) (wCall bInt (wCons (wVar 6) wNil)) (wVar 1))))) wNx)
    (wSq (wDPut (wVar 0) (wC (.str "count")) (wOp fAdd (wOp fGet (wVar 0) (wC (.str "count"))) (wC (.int 1))))
    (wSq (wPar 3 4 (wCons (wOp fGet (wVar 0) (wC (.str "count"))) (wCons (wOp fGet (wVar 0) (wC (.str "cells"))) wNil)))
    (wSq (wSet 5 (wOp (fI gMod) (wCall bInt (wCons (wOp fAdd (wOp fAdd (wOp fGet (wVar 0) (wC (.str "seal"))) (wOp (fI gMul) (wC (.int 7919)) (wCall bInt (wCons (wOp fIx (wVar 4) (wOp (fI gMod) (wCall bInt (wCons (wVar 3) wNil)) (wCall bLen (wCons (wVar 4) wNil)))) wNil)))) (wOp (fI gMul) (wC (.int 104729)) (wVar 3))) wNil)) (wC (.int 4294967291))))
    (wSq (wSet 5 (wOp (fI gMod) (wCall bInt (wCons (wOp fAdd (wOp fAdd (wOp (fI gMul) (wVar 5) (wC (.int 22695477))) (wOp (fI gMul) (wVar 3) (wVar 3))) (wC (.int 1))) wNil)) (wC (.int 4294967291))))
    (wSq (wSet 5 (wOp (fI gMod) (wCall bInt (wCons (wOp fAdd (wOp (fI gMul) (wVar 5) (wC (.int 48271))) (wOp (fI gDiv) (wVar 5) (wC (.int 65536)))) wNil)) (wC (.int 4294967279))))
    (wRet (wOp (fI gMod) (wCall bInt (wCons (wOp (fI gDiv) (wVar 5) (wC (.int 1024))) wNil)) (wVar 1))))))))))
theorem jb_law_draw {P : Program} {w : World} {K : PySem.W.Frag} {mg : Str → Option Value} {base : Heap} (T : Txt K mg) {k : Nat}
    (f : Addr) (cdv : Value) (A : Around) (outer : List Env) (s : Shared) (H : Hp) (E : XK) (hr : Room k (A.deeper (envOfC "_law_draw" (defScope s_law_draw) s.heap.objs.size f cdv))) (hgd : A.guards = some []) :
    JB (cxOf CX0 P w K mg base N_law_draw "_law_draw" (defScope s_law_draw) f cdv A outer s H E).nox (defBody s_law_draw) (b_law_draw) := by
  have scND := sc_law_draw.nd
  exact (jb_cons (js_set 2 scND (re_dget (hu_of hr) (re_var 0) re_str))
    (jb_cons (js_if (rt_cmp (op_fNe hr.units) (re_var 2) (re_lst ra_nil) (by rfl)) (jb_cons (js_set 6 scND (re_m PySem.F.plainAttrs_list PySem.F.slot_list_pop PySem.F.type_list_pop mt_gPop (re_var 2) (ra_cons re_int ra_nil)))
    (jb_cons (js_if (rt_cmp op_fGe (re_var 6) (re_var 1) (by rfl)) (jb_one (js_expr (re_m PySem.F.plainAttrs_list PySem.F.slot_list_insert PySem.F.type_list_insert mt_gInsert (re_var 2) (ra_cons re_int (ra_cons (re_bin op_fDiv (re_var 6) (re_var 1)) ra_nil))))) jb_nil)
    (jb_one (js_ret (re_bin op_fMod (re_callTy call_bInt rfl T.n_int bt_int (ra_cons (re_var 6) ra_nil)) (re_var 1)))))) jb_nil)
    (jb_cons (js_dput (hu_of hr) (re_bin op_fAdd (re_dget (hu_of hr) (re_var 0) re_str) re_int) (re_var 0) re_str)
    (jb_cons (js_par 3 4 rfl scND (ra_cons (re_dget (hu_of hr) (re_var 0) re_str) (ra_cons (re_dget (hu_of hr) (re_var 0) re_str) ra_nil)))
    (jb_cons (js_set 5 scND (re_bin op_fMod (re_callTy call_bInt rfl T.n_int bt_int (ra_cons (re_bin op_fAdd (re_bin op_fAdd (re_dget (hu_of hr) (re_var 0) re_str) (re_bin op_fMul re_int (re_callTy call_bInt rfl T.n_int bt_int (ra_cons (re_ix (re_var 4) (re_bin op_fMod (re_callTy call_bInt rfl T.n_int bt_int (ra_cons (re_var 3) ra_nil)) (re_callB call_bLen rfl T.n_len bt_len (ra_cons (re_var 4) ra_nil)))) ra_nil)))) (re_bin op_fMul re_int (re_var 3))) ra_nil)) re_int))
    (jb_cons (js_set 5 scND (re_bin op_fMod (re_callTy call_bInt rfl T.n_int bt_int (ra_cons (re_bin op_fAdd (re_bin op_fAdd (re_bin op_fMul (re_var 5) re_int) (re_bin op_fMul (re_var 3) (re_var 3))) re_int) ra_nil)) re_int))
    (jb_cons (js_set 5 scND (re_bin op_fMod (re_callTy call_bInt rfl T.n_int bt_int (ra_cons (re_bin op_fAdd (re_bin op_fMul (re_var 5) re_int) (re_bin op_fDiv (re_var 5) re_int)) ra_nil)) re_int))
    (jb_one (js_ret (re_bin op_fMod (re_callTy call_bInt rfl T.n_int bt_int (ra_cons (re_bin op_fDiv (re_var 5) re_int) ra_nil)) (re_var 1)))))))))))
/-! _law_pick -/
theorem sc_law_pick : FnScope N_law_pick P_law_pick (defScope s_law_pick) := ⟨rfl, rfl, rfl, by decide +kernel, rfl, by decide +kernel, by decide +kernel⟩
def b_law_pick (c_law_draw : Con) : WS :=
  (wRet (wOp fIx (wVar 1) (wF c_law_draw (wCons (wVar 0) (wCons (wCall bLen (wCons (wVar 1) wNil)) wNil)))))
theorem jb_law_pick {P : Program} {w : World} {K : PySem.W.Frag} {mg : Str → Option Value} {base : Heap} (T : Txt K mg) {k : Nat} {c_law_draw : Con} {k_law_draw : Nat} (C_law_draw : Callee P w K mg base "_law_draw" P_law_draw s_law_draw k_law_draw c_law_draw) (l_law_draw : k_law_draw ≤ k)
    (f : Addr) (cdv : Value) (A : Around) (outer : List Env) (s : Shared) (H : Hp) (E : XK) (hr : Room k (A.deeper (envOfC "_law_pick" (defScope s_law_pick) s.heap.objs.size f cdv))) (hgd : A.guards = some []) :
    JB (cxOf CX0 P w K mg base N_law_pick "_law_pick" (defScope s_law_pick) f cdv A outer s H E).nox (defBody s_law_pick) (b_law_pick c_law_draw) := by
  have scND := sc_law_pick.nd
  exact (jb_one (js_ret (re_ix (re_var 1) (re_callee C_law_draw (hr.mono l_law_draw) hgd (ra_cons (re_var 0) (ra_cons (re_callB call_bLen rfl T.n_len bt_len (ra_cons (re_var 1) ra_nil)) ra_nil)) pass0))))
/-! _law_mixed -/
theorem sc_law_mixed : FnScope N_law_mixed P_law_mixed (defScope s_law_mixed) := ⟨rfl, rfl, rfl, by decide +kernel, rfl, by decide +kernel, by decide +kernel⟩
def b_law_mixed (c_law_draw : Con) : WS :=
  (wSq (wPar 2 3 (wCons (wCall bList (wCons (wVar 1) wNil)) (wCons (wLst wNil) wNil)))
    (wSq (wWhile (wB (wOp fNe (wVar 2) (wLst wNil))) (wDrop (wM "list" (onL gAppend) (wVar 3) (wCons (wM "list" (onL gPop) (wVar 2) (wCons (wF c_law_draw (wCons (wVar 0) (wCons (wCall bLen (wCons (wVar 2) wNil)) wNil))) wNil)) wNil))))
    (wRet (wVar 3))))
theorem jb_law_mixed {P : Program} {w : World} {K : PySem.W.Frag} {mg : Str → Option Value} {base : Heap} (T : Txt K mg) {k : Nat} {c_law_draw : Con} {k_law_draw : Nat} (C_law_draw : Callee P w K mg base "_law_draw" P_law_draw s_law_draw k_law_draw c_law_draw) (l_law_draw : k_law_draw ≤ k)
    (f : Addr) (cdv : Value) (A : Around) (outer : List Env) (s : Shared) (H : Hp) (E : XK) (hr : Room k (A.deeper (envOfC "_law_mixed" (defScope s_law_mixed) s.heap.objs.size f cdv))) (hgd : A.guards = some []) :
    JB (cxOf CX0 P w K mg base N_law_mixed "_law_mixed" (defScope s_law_mixed) f cdv A outer s H E).nox (defBody s_law_mixed) (b_law_mixed c_law_draw) := by
  have scND := sc_law_mixed.nd
  exact (jb_cons (js_par 2 3 rfl scND (ra_cons (re_callTy call_bList rfl T.n_list bt_list (ra_cons (re_var 1) ra_nil)) (ra_cons (re_lst ra_nil) ra_nil)))
    (jb_cons (js_while PassesOwn.never (rt_cmp (op_fNe hr.units) (re_var 2) (re_lst ra_nil) (by rfl)) (jb_one (js_expr (re_m PySem.F.plainAttrs_list PySem.F.slot_list_append PySem.F.type_list_append mt_gAppend (re_var 3) (ra_cons (re_m PySem.F.plainAttrs_list PySem.F.slot_list_pop PySem.F.type_list_pop mt_gPop (re_var 2) (ra_cons (re_callee C_law_draw (hr.mono l_law_draw) hgd (ra_cons (re_var 0) (ra_cons (re_callB call_bLen rfl T.n_len bt_len (ra_cons (re_var 2) ra_nil)) ra_nil)) pass0) ra_nil)) ra_nil)))))
    (jb_one (js_ret (re_var 3)))))
/-! _law_formula -/
theorem sc_law_formula : FnScope N_law_formula P_law_formula (defScope s_law_formula) := ⟨rfl, rfl, rfl, by decide +kernel, rfl, by decide +kernel, by decide +kernel⟩
def b_law_formula (c_law_draw : Con) (c_law_formula : Con) : WS :=
  (wSq (wIfS (wOrT (wB (wOp fEq (wVar 1) (wC (.int 0)))) (wOrT (wB (wOp fEq (wVar 2) (wC (.int 0)))) (wB (wOp fEq (wF c_law_draw (wCons (wVar 0) (wCons (wC (.int 4)) wNil))) (wC (.int 0)))))) (wRet (wF c_law_draw (wCons (wVar 0) (wCons (wC (.int 4)) wNil)))) wNx)
    (wRet (wTup (wCons (wF c_law_draw (wCons (wVar 0) (wCons (wVar 1) wNil))) (wCons (wCall bTuple (wCons (wLc (wR1 (wCons (wOp fAdd (wC (.int 1)) (wF c_law_draw (wCons (wVar 0) (wCons (wC (.int 4)) wNil)))) wNil)) (gN 3) wYes (wF c_law_formula (wCons (wVar 0) (wCons (wVar 1) (wCons (wOp (fI gSub) (wVar 2) (wC (.int 1))) wNil)))) [3]) wNil)) wNil)))))
theorem jb_law_formula {P : Program} {w : World} {K : PySem.W.Frag} {mg : Str → Option Value} {base : Heap} (T : Txt K mg) {k : Nat} {c_law_draw : Con} {k_law_draw : Nat} (C_law_draw : Callee P w K mg base "_law_draw" P_law_draw s_law_draw k_law_draw c_law_draw) (l_law_draw : k_law_draw ≤ k) {c_law_formula : Con} {k_law_formula : Nat} (C_law_formula : Callee P w K mg base "_law_formula" P_law_formula s_law_formula k_law_formula c_law_formula) (l_law_formula : k_law_formula ≤ k)
    (f : Addr) (cdv : Value) (A : Around) (outer : List Env) (s : Shared) (H : Hp) (E : XK) (hr : Room k (A.deeper (envOfC "_law_formula" (defScope s_law_formula) s.heap.objs.size f cdv))) (hgd : A.guards = some []) :
    JB (cxOf CX0 P w K mg base N_law_formula "_law_formula" (defScope s_law_formula) f cdv A outer s H E).nox (defBody s_law_formula) (b_law_formula c_law_draw c_law_formula) := by
  have scND := sc_law_formula.nd
  exact (jb_cons (js_if (RW.rt (rw_or (rt_cmp (op_fEq hr.units) (re_var 1) re_int (by rfl)) (rw_or (rt_cmp (op_fEq hr.units) (re_var 2) re_int (by rfl)) (rw_or1 (rt_cmp (op_fEq hr.units) (re_callee C_law_draw (hr.mono l_law_draw) hgd (ra_cons (re_var 0) (ra_cons re_int ra_nil)) pass0) re_int (by rfl)))))) (jb_one (js_ret (re_callee C_law_draw (hr.mono l_law_draw) hgd (ra_cons (re_var 0) (ra_cons re_int ra_nil)) pass0))) jb_nil)
    (jb_one (js_ret (re_tup (ra_cons (re_callee C_law_draw (hr.mono l_law_draw) hgd (ra_cons (re_var 0) (ra_cons (re_var 1) ra_nil)) pass0) (ra_cons (re_callTy call_bTuple rfl T.n_tuple bt_tuple (ra_cons (re_lc (own := [("turn", 3)]) rfl scND (ri_range1 rfl T.n_range (ra_cons (re_bin op_fAdd re_int (re_callee C_law_draw (hr.mono l_law_draw) hgd (ra_cons (re_var 0) (ra_cons re_int ra_nil)) pass0)) ra_nil)) (blkOk_by (N := N_law_formula) (sc := defScope s_law_formula) (by decide +kernel)) (by decide) (fun _ _ _ _ _ => (rg_name 3 scND)) (fun _ _ _ _ _ => rts_nil) (fun _ _ _ _ _ => (re_callee C_law_formula (hr.mono l_law_formula) hgd (ra_cons (re_var 0) (ra_cons (re_var 1) (ra_cons (re_bin op_fSub (re_var 2) re_int) ra_nil))) pass0))) ra_nil)) ra_nil))))))
/-! _law_sheet -/
theorem sc_law_sheet : FnScope N_law_sheet P_law_sheet (defScope s_law_sheet) := ⟨rfl, rfl, rfl, by decide +kernel, rfl, by decide +kernel, by decide +kernel⟩
def b_law_sheet (c_law_formula : Con) : WS :=
  (wRet (wTup (wCons (wVar 1) (wCons (wCall bTuple (wCons (wLc (wR1 (wCons (wVar 2) wNil)) (gN 4) wYes (wF c_law_formula (wCons (wVar 0) (wCons (wOp fAdd (wVar 1) (wVar 4)) (wCons (wVar 3) wNil)))) [4]) wNil)) wNil))))
theorem jb_law_sheet {P : Program} {w : World} {K : PySem.W.Frag} {mg : Str → Option Value} {base : Heap} (T : Txt K mg) {k : Nat} {c_law_formula : Con} {k_law_formula : Nat} (C_law_formula : Callee P w K mg base "_law_formula" P_law_formula s_law_formula k_law_formula c_law_formula) (l_law_formula : k_law_formula ≤ k)
    (f : Addr) (cdv : Value) (A : Around) (outer : List Env) (s : Shared) (H : Hp) (E : XK) (hr : Room k (A.deeper (envOfC "_law_sheet" (defScope s_law_sheet) s.heap.objs.size f cdv))) (hgd : A.guards = some []) :
    JB (cxOf CX0 P w K mg base N_law_sheet "_law_sheet" (defScope s_law_sheet) f cdv A outer s H E).nox (defBody s_law_sheet) (b_law_sheet c_law_formula) := by
  have scND := sc_law_sheet.nd
  exact (jb_one (js_ret (re_tup (ra_cons (re_var 1) (ra_cons (re_callTy call_bTuple rfl T.n_tuple bt_tuple (ra_cons (re_lc (own := [("place", 4)]) rfl scND (ri_range1 rfl T.n_range (ra_cons (re_var 2) ra_nil)) (blkOk_by (N := N_law_sheet) (sc := defScope s_law_sheet) (by decide +kernel)) (by decide) (fun _ _ _ _ _ => (rg_name 4 scND)) (fun _ _ _ _ _ => rts_nil) (fun _ _ _ _ _ => (re_callee C_law_formula (hr.mono l_law_formula) hgd (ra_cons (re_var 0) (ra_cons (re_bin op_fAdd (re_var 1) (re_var 4)) (ra_cons (re_var 3) ra_nil))) pass0))) ra_nil)) ra_nil)))))
/-! _law_some_sheet -/
theorem sc_law_some_sheet : FnScope N_law_some_sheet P_law_some_sheet (defScope s_law_some_sheet) := ⟨rfl, rfl, rfl, by decide +kernel, rfl, by decide +kernel, by decide +kernel⟩
def b_law_some_sheet (c_law_pick : Con) (c_law_sheet : Con) (c_law_draw : Con) : WS :=
  (wSq (wSet 1 (wF c_law_pick (wCons (wVar 0) (wCons (wLst (wCons (wC (.int 0)) (wCons (wC (.int 1)) (wCons (wC (.int 1)) (wCons (wC (.int 2)) (wCons (wC (.int 2)) (wCons (wC (.int 2)) (wCons (wC (.int 3)) wNil)))))))) wNil))))
    (wRet (wF c_law_sheet (wCons (wVar 0) (wCons (wVar 1) (wCons (wOp fAdd (wC (.int 1)) (wF c_law_draw (wCons (wVar 0) (wCons (wC (.int 5)) wNil)))) (wCons (wOp fAdd (wC (.int 1)) (wF c_law_draw (wCons (wVar 0) (wCons (wC (.int 3)) wNil)))) wNil)))))))
theorem jb_law_some_sheet {P : Program} {w : World} {K : PySem.W.Frag} {mg : Str → Option Value} {base : Heap} (T : Txt K mg) {k : Nat} {c_law_pick : Con} {k_law_pick : Nat} (C_law_pick : Callee P w K mg base "_law_pick" P_law_pick s_law_pick k_law_pick c_law_pick) (l_law_pick : k_law_pick ≤ k) {c_law_sheet : Con} {k_law_sheet : Nat} (C_law_sheet : Callee P w K mg base "_law_sheet" P_law_sheet s_law_sheet k_law_sheet c_law_sheet) (l_law_sheet : k_law_sheet ≤ k) {c_law_draw : Con} {k_law_draw : Nat} (C_law_draw : Callee P w K mg base "_law_draw" P_law_draw s_law_draw k_law_draw c_law_draw) (l_law_draw : k_law_draw ≤ k)
    (f : Addr) (cdv : Value) (A : Around) (outer : List Env) (s : Shared) (H : Hp) (E : XK) (hr : Room k (A.deeper (envOfC "_law_some_sheet" (defScope s_law_some_sheet) s.heap.objs.size f cdv))) (hgd : A.guards = some []) :
    JB (cxOf CX0 P w K mg base N_law_some_sheet "_law_some_sheet" (defScope s_law_some_sheet) f cdv A outer s H E).nox (defBody s_law_some_sheet) (b_law_some_sheet c_law_pick c_law_sheet c_law_draw) := by
  have scND := sc_law_some_sheet.nd
  exact (jb_cons (js_set 1 scND (re_callee C_law_pick (hr.mono l_law_pick) hgd (ra_cons (re_var 0) (ra_cons (re_lst (ra_cons re_int (ra_cons re_int (ra_cons re_int (ra_cons re_int (ra_cons re_int (ra_cons re_int (ra_cons re_int ra_nil)))))))) ra_nil)) pass0))
    (jb_one (js_ret (re_callee C_law_sheet (hr.mono l_law_sheet) hgd (ra_cons (re_var 0) (ra_cons (re_var 1) (ra_cons (re_bin op_fAdd re_int (re_callee C_law_draw (hr.mono l_law_draw) hgd (ra_cons (re_var 0) (ra_cons re_int ra_nil)) pass0)) (ra_cons (re_bin op_fAdd re_int (re_callee C_law_draw (hr.mono l_law_draw) hgd (ra_cons (re_var 0) (ra_cons re_int ra_nil)) pass0)) ra_nil)))) pass0))))
/-! _law_rows -/
theorem sc_law_rows : FnScope N_law_rows P_law_rows (defScope s_law_rows) := ⟨rfl, rfl, rfl, by decide +kernel, rfl, by decide +kernel, by decide +kernel⟩
def b_law_rows (c_law_longer : Con) : WS :=
  (wSq (wSet 1 (wLst (wCons (wTup wNil) wNil)))
    (wSq (wFor (wR1 (wCons (wVar 0) wNil)) (gN 2) (wSet 1 (wF c_law_longer (wCons (wVar 1) wNil))))
    (wRet (wVar 1))))
theorem jb_law_rows {P : Program} {w : World} {K : PySem.W.Frag} {mg : Str → Option Value} {base : Heap} (T : Txt K mg) {k : Nat} {c_law_longer : Con} {k_law_longer : Nat} (C_law_longer : Callee P w K mg base "_law_longer" P_law_longer s_law_longer k_law_longer c_law_longer) (l_law_longer : k_law_longer ≤ k)
    (f : Addr) (cdv : Value) (A : Around) (outer : List Env) (s : Shared) (H : Hp) (E : XK) (hr : Room k (A.deeper (envOfC "_law_rows" (defScope s_law_rows) s.heap.objs.size f cdv))) (hgd : A.guards = some []) :
    JB (cxOf CX0 P w K mg base N_law_rows "_law_rows" (defScope s_law_rows) f cdv A outer s H E).nox (defBody s_law_rows) (b_law_rows c_law_longer) := by
  have scND := sc_law_rows.nd
  exact (jb_cons (js_set 1 scND (re_lst (ra_cons (re_tup ra_nil) ra_nil)))
    (jb_cons (js_for PassesOwn.never rfl (ri_range1 rfl T.n_range (ra_cons (re_var 0) ra_nil)) (rg_name 2 scND) (jb_one (js_set 1 scND (re_callee C_law_longer (hr.mono l_law_longer) hgd (ra_cons (re_var 1) ra_nil) pass0))))
    (jb_one (js_ret (re_var 1)))))
/-! _law_longer -/
theorem sc_law_longer : FnScope N_law_longer P_law_longer (defScope s_law_longer) := ⟨rfl, rfl, rfl, by decide +kernel, rfl, by decide +kernel, by decide +kernel⟩
def b_law_longer : WS :=
  (wSq (wSet 1 (wLst wNil))
    (wSq (wFor (wSeqI (wVar 0)) (gN 2) (wDrop (wM "list" mExtend (wVar 1) (wCons (wLc (wSeqI (wTup (wCons (wC (.int 0)) (wCons (wC (.int 1)) (wCons (wC (.int 2)) (wCons (wC (.int 3)) wNil)))))) (gN 3) wYes (wOp fAdd (wVar 2) (wTup (wCons (wVar 3) wNil))) [3]) wNil))))
    (wRet (wVar 1))))
theorem jb_law_longer {P : Program} {w : World} {K : PySem.W.Frag} {mg : Str → Option Value} {base : Heap} (T : Txt K mg) {k : Nat}
    (f : Addr) (cdv : Value) (A : Around) (outer : List Env) (s : Shared) (H : Hp) (E : XK) (hr : Room k (A.deeper (envOfC "_law_longer" (defScope s_law_longer) s.heap.objs.size f cdv))) (hgd : A.guards = some []) :
    JB (cxOf CX0 P w K mg base N_law_longer "_law_longer" (defScope s_law_longer) f cdv A outer s H E).nox (defBody s_law_longer) (b_law_longer) := by
  have scND := sc_law_longer.nd
  exact (jb_cons (js_set 1 scND (re_lst ra_nil))
    (jb_cons (js_for PassesOwn.never rfl (ri_seq (re_var 0)) (rg_name 2 scND) (jb_one (js_expr (re_m PySem.F.plainAttrs_list PySem.F.slot_list_extend PySem.F.type_list_extend mt_mExtend (re_var 1) (ra_cons (re_lc (own := [("value", 3)]) rfl scND (ri_seq (re_tup (ra_cons re_int (ra_cons re_int (ra_cons re_int (ra_cons re_int ra_nil)))))) (blkOk_by (N := N_law_longer) (sc := defScope s_law_longer) (by decide +kernel)) (by decide) (fun _ _ _ _ _ => (rg_name 3 scND)) (fun _ _ _ _ _ => rts_nil) (fun _ _ _ _ _ => (re_bin op_fAdd (re_var 2) (re_tup (ra_cons (re_var 3) ra_nil))))) ra_nil)))))
    (jb_one (js_ret (re_var 1)))))
/-! _law_table -/
theorem sc_law_table : FnScope N_law_table P_law_table (defScope s_law_table) := ⟨rfl, rfl, rfl, by decide +kernel, rfl, by decide +kernel, by decide +kernel⟩
def b_law_table : WS :=
  (wSq (wSet 2 (wLc (wSeqI (wVar 1)) (gN 6) wYes (wTup (wCons (wVar 6) (wCons (wTup wNil) wNil))) [6]))
    (wSq (wFor (wSeqI (wOp fIx (wVar 0) (wC (.int 1)))) (gN 3) (wSq (wPar 4 5 (wCons (wTup wNil) (wCons (wVar 3) wNil)))
    (wSq (wWhile (wTru (wCall bIsi (wCons (wVar 5) (wCons (wC (.ty "tuple")) wNil)))) (wSq (wSet 6 (wOp fIx (wOp fIx (wVar 2) (wOp fIx (wVar 5) (wC (.int 0)))) (wC (.int 0))))
    (wPar 4 5 (wCons (wOp fAdd (wVar 4) (wTup (wCons (wTup (wCons (wOp fIx (wVar 5) (wC (.int 0))) (wCons (wVar 6) wNil))) wNil))) (wCons (wOp fIx (wOp fIx (wVar 5) (wC (.int 1))) (wCall bMin (wCons (wVar 6) (wCons (wOp (fI gSub) (wCall bLen (wCons (wOp fIx (wVar 5) (wC (.int 1))) wNil)) (wC (.int 1))) wNil)))) wNil)))))
    (wDrop (wM "list" (onL gAppend) (wVar 2) (wCons (wTup (wCons (wVar 5) (wCons (wVar 4) wNil))) wNil))))))
    (wRet (wVar 2))))
theorem jb_law_table {P : Program} {w : World} {K : PySem.W.Frag} {mg : Str → Option Value} {base : Heap} (T : Txt K mg) {k : Nat}
    (f : Addr) (cdv : Value) (A : Around) (outer : List Env) (s : Shared) (H : Hp) (E : XK) (hr : Room k (A.deeper (envOfC "_law_table" (defScope s_law_table) s.heap.objs.size f cdv))) (hgd : A.guards = some []) :
    JB (cxOf CX0 P w K mg base N_law_table "_law_table" (defScope s_law_table) f cdv A outer s H E).nox (defBody s_law_table) (b_law_table) := by
  have scND := sc_law_table.nd
  exact (jb_cons (js_setLc 2 (own := [("value", 6)]) rfl scND (ri_seq (re_var 1)) (blkOk_by (N := N_law_table) (sc := defScope s_law_table) (by decide +kernel)) (by decide) (sw_true rfl rfl rfl (by decide +kernel)) (fun _ _ _ _ _ => (rg_name 6 scND)) (fun _ _ _ _ _ => rts_nil) (fun _ _ _ _ _ => (re_tup (ra_cons (re_var 6) (ra_cons (re_tup ra_nil) ra_nil)))))
    (jb_cons (js_for PassesOwn.never rfl (ri_seq (re_ix (re_var 0) re_int)) (rg_name 3 scND) (jb_cons (js_par 4 5 rfl scND (ra_cons (re_tup ra_nil) (ra_cons (re_var 3) ra_nil)))
    (jb_cons (js_while PassesOwn.never (rt_tru (re_callB call_bIsi rfl T.n_isinstance bt_isinstance (ra_cons (re_var 5) (ra_cons (re_type (T := "tuple") rfl T.n_tuple bt_tuple) ra_nil)))) (jb_cons (js_set 6 scND (re_ix (re_ix (re_var 2) (re_ix (re_var 5) re_int)) re_int))
    (jb_one (js_par 4 5 rfl scND (ra_cons (re_bin op_fAdd (re_var 4) (re_tup (ra_cons (re_tup (ra_cons (re_ix (re_var 5) re_int) (ra_cons (re_var 6) ra_nil))) ra_nil))) (ra_cons (re_ix (re_ix (re_var 5) re_int) (re_callB (call_bMin rfl) rfl T.n_min bt_min (ra_cons (re_var 6) (ra_cons (re_bin op_fSub (re_callB call_bLen rfl T.n_len bt_len (ra_cons (re_ix (re_var 5) re_int) ra_nil)) re_int) ra_nil)))) ra_nil))))))
    (jb_one (js_expr (re_m PySem.F.plainAttrs_list PySem.F.slot_list_append PySem.F.type_list_append mt_gAppend (re_var 2) (ra_cons (re_tup (ra_cons (re_var 5) (ra_cons (re_var 4) ra_nil))) ra_nil)))))))
    (jb_one (js_ret (re_var 2)))))
/-! _law_are_told -/
theorem sc_law_are_told : FnScope N_law_are_told P_law_are_told (defScope s_law_are_told) := ⟨rfl, rfl, rfl, by decide +kernel, rfl, by decide +kernel, by decide +kernel⟩
def b_law_are_told (c_law_table : Con) (c_true_reads : Con) (c_true_value : Con) : WS :=
  (wSq (wFor (wEnum (wCons (wF c_law_table (wCons (wVar 0) (wCons (wVar 1) wNil))) wNil)) (gT (gsC (gN 3) (gsC (gT (gsC (gN 4) (gsC (gN 5) gsN))) gsN))) (wSq (wSet 6 (wLst (wCons (wF c_true_value (wCons (wVar 0) (wCons (wVar 1) (wCons (wVar 3) wNil)))) (wCons (wF c_true_reads (wCons (wVar 0) (wCons (wVar 1) (wCons (wVar 3) wNil)))) wNil))))
    (wSq (wIfS (wTru (wVar 2)) (wSet 6 (wLst (wCons (wFK c_true_value 3 [2, 1, 0] (wCons (wVar 3) (wCons (wVar 1) (wCons (wVar 0) wNil)))) (wCons (wFK c_true_reads 3 [2, 0, 1] (wCons (wVar 1) (wCons (wVar 3) (wCons (wVar 0) wNil)))) wNil)))) wNx)
    (wIfS (wB (wOp fNe (wCall bRepr (wCons (wVar 6) wNil)) (wCall bRepr (wCons (wLst (wCons (wVar 4) (wCons (wVar 5) wNil))) wNil)))) (wRet (wC (.bl false))) wNx))))
    (wRet (wC (.bl true))))
theorem jb_law_are_told {P : Program} {w : World} {K : PySem.W.Frag} {mg : Str → Option Value} {base : Heap} (T : Txt K mg) {k : Nat} {c_law_table : Con} {k_law_table : Nat} (C_law_table : Callee P w K mg base "_law_table" P_law_table s_law_table k_law_table c_law_table) (l_law_table : k_law_table ≤ k) {c_true_reads : Con} {k_true_reads : Nat} (C_true_reads : Callee P w K mg base "true_reads" P_true_reads s_true_reads k_true_reads c_true_reads) (l_true_reads : k_true_reads ≤ k) {c_true_value : Con} {k_true_value : Nat} (C_true_value : Callee P w K mg base "true_value" P_true_value s_true_value k_true_value c_true_value) (l_true_value : k_true_value ≤ k)
    (f : Addr) (cdv : Value) (A : Around) (outer : List Env) (s : Shared) (H : Hp) (E : XK) (hr : Room k (A.deeper (envOfC "_law_are_told" (defScope s_law_are_told) s.heap.objs.size f cdv))) (hgd : A.guards = some []) :
    JB (cxOf CX0 P w K mg base N_law_are_told "_law_are_told" (defScope s_law_are_told) f cdv A outer s H E).nox (defBody s_law_are_told) (b_law_are_told c_law_table c_true_reads c_true_value) := by
  have scND := sc_law_are_told.nd
  exact (jb_cons (js_for PassesOwn.never rfl (ri_enum rfl T.n_enumerate (ra_cons (re_callee C_law_table (hr.mono l_law_table) hgd (ra_cons (re_var 0) (ra_cons (re_var 1) ra_nil)) pass0) ra_nil)) (rg_tup rfl (rgs_cons (rg_name 3 scND) (rgs_cons (rg_tup rfl (rgs_cons (rg_name 4 scND) (rgs_cons (rg_name 5 scND) rgs_nil))) rgs_nil))) (jb_cons (js_set 6 scND (re_lst (ra_cons (re_callee C_true_value (hr.mono l_true_value) hgd (ra_cons (re_var 0) (ra_cons (re_var 1) (ra_cons (re_var 3) ra_nil))) pass0) (ra_cons (re_callee C_true_reads (hr.mono l_true_reads) hgd (ra_cons (re_var 0) (ra_cons (re_var 1) (ra_cons (re_var 3) ra_nil))) pass0) ra_nil))))
    (jb_cons (js_if (rt_tru (re_var 2)) (jb_one (js_set 6 scND (re_lst (ra_cons (re_calleeK (ks := ["cell", "row", "sheet"]) (is := [2, 1, 0]) C_true_value (hr.mono l_true_value) hgd (rk_cons (re_var 3) (rk_cons (re_var 1) (rk_cons (re_var 0) rk_nil))) (fun _ _ _ _ _ _ ws hl => match ws, hl with | [_, _, _], _ => rfl) pass0) (ra_cons (re_calleeK (ks := ["row", "cell", "sheet"]) (is := [2, 0, 1]) C_true_reads (hr.mono l_true_reads) hgd (rk_cons (re_var 1) (rk_cons (re_var 3) (rk_cons (re_var 0) rk_nil))) (fun _ _ _ _ _ _ ws hl => match ws, hl with | [_, _, _], _ => rfl) pass0) ra_nil))))) jb_nil)
    (jb_one (js_if (rt_cmp (op_fNe hr.units) (re_callB (call_bRepr hgd hr.units) rfl T.n_repr bt_repr (ra_cons (re_var 6) ra_nil)) (re_callB (call_bRepr hgd hr.units) rfl T.n_repr bt_repr (ra_cons (re_lst (ra_cons (re_var 4) (ra_cons (re_var 5) ra_nil))) ra_nil)) (by rfl)) (jb_one (js_ret re_bl)) jb_nil)))))
    (jb_one (js_ret re_bl)))
/-! law -/
theorem sc_law : FnScope N_law P_law (defScope s_law) := ⟨rfl, rfl, rfl, by decide +kernel, rfl, by decide +kernel, by decide +kernel⟩
def b_law (c_law_jar : Con) (c_law_some_sheet : Con) (c_law_sheet : Con) (c_law_draw : Con) (c_law_rows : Con) (c_law_mixed : Con) (c_law_are_told : Con) : WS :=
  (wSq (wSet 1 (wF c_law_jar (wCons (wVar 0) wNil)))
    (wSq (wFor (wR1 (wCons (wC (.int 4)) wNil)) (gN 2) (wSq (wSet 6 (wIf (wB (wOp fLt (wVar 2) (wC (.int 3)))) (wF c_law_some_sheet (wCons (wVar 1) wNil)) (wF c_law_sheet (wCons (wVar 1) (wCons (wC (.int 3)) (wCons (wOp fAdd (wC (.int 6)) (wOp (fI gMul) (wC (.int 2)) (wCall bInt (wCons (wOp fEq (wF c_law_draw (wCons (wVar 1) (wCons (wC (.int 3)) wNil))) (wC (.int 0))) wNil)))) (wCons (wC (.int 2)) wNil)))))))
    (wSq (wPar 7 8 (wCons (wCall bRepr (wCons (wVar 6) wNil)) (wCons (wF c_law_rows (wCons (wOp fIx (wVar 6) (wC (.int 0))) wNil)) wNil)))
    (wSq (wFor (wEnum (wCons (wSl (wF c_law_mixed (wCons (wVar 1) (wCons (wVar 8) wNil))) wNoP (wP (wC (.int 12)))) wNil)) (gT (gsC (gN 9) (gsC (gN 10) gsN))) (wIfS (wOrT (wNot (wTru (wF c_law_are_told (wCons (wVar 6) (wCons (wVar 10) (wCons (wOp fEq (wVar 9) (wVar 2)) wNil)))))) (wB (wOp fNe (wCall bRepr (wCons (wVar 6) wNil)) (wVar 7)))) (wRet (wC (.bl false))) wNx))
    (wIfS (wOrT (wNot (wTru (wF c_law_are_told (wCons (wVar 6) (wCons (wOp fIx (wVar 8) (wC (.int 0))) (wCons (wC (.bl false)) wNil)))))) (wNot (wTru (wF c_law_are_told (wCons (wVar 6) (wCons (wOp fIx (wVar 8) (wNeg (wC (.int 1)))) (wCons (wC (.bl true)) wNil))))))) (wRet (wC (.bl false))) wNx)))))
    (wSq (wAsg (wTup (wCons (wTup (wCons (wC (.int 0)) (wCons (wTup (wCons (wC (.int 0)) (wCons (wTup (wCons (wC (.int 0)) (wCons (wTup (wCons (wC (.int 2)) (wCons (wC (.int 3)) wNil))) wNil))) (wCons (wTup (wCons (wC (.int 0)) (wCons (wTup (wCons (wC (.int 1)) (wCons (wTup (wCons (wC (.int 0)) (wCons (wTup (wCons (wC (.int 2)) (wCons (wC (.int 0)) wNil))) wNil))) wNil))) wNil))) wNil)))) wNil))) (wCons (wTup (wCons (wC (.int 1)) (wCons (wTup (wCons (wC (.int 2)) (wCons (wTup (wCons (wC (.int 0)) (wCons (wTup (wCons (wC (.int 1)) wNil)) wNil))) (wCons (wTup (wCons (wC (.int 1)) (wCons (wTup (wCons (wC (.int 3)) (wCons (wC (.int 2)) (wCons (wC (.int 1)) wNil)))) wNil))) wNil)))) wNil))) wNil))) (gT (gsC (gN 3) (gsC (gN 4) gsN))))
    (wSq (wSet 5 (wTup (wCons (wC (.int 1)) (wCons (wTup (wCons (wVar 3) (wCons (wVar 4) wNil))) wNil))))
    (wRet (wOp fEq (wLc (wSeqI (wTup (wCons (wC (.int 0)) (wCons (wC (.int 1)) (wCons (wC (.int 2)) (wCons (wC (.int 3)) wNil)))))) (gN 11) wYes (wF c_law_are_told (wCons (wVar 5) (wCons (wTup (wCons (wVar 11) wNil)) (wCons (wOp fEq (wVar 11) (wC (.int 1))) wNil)))) [11]) (wOp fRep (wLst (wCons (wC (.bl true)) wNil)) (wC (.int 4)))))))))
theorem jb_law {P : Program} {w : World} {K : PySem.W.Frag} {mg : Str → Option Value} {base : Heap} (T : Txt K mg) {k : Nat} {c_law_jar : Con} {k_law_jar : Nat} (C_law_jar : Callee P w K mg base "_law_jar" P_law_jar s_law_jar k_law_jar c_law_jar) (l_law_jar : k_law_jar ≤ k) {c_law_some_sheet : Con} {k_law_some_sheet : Nat} (C_law_some_sheet : Callee P w K mg base "_law_some_sheet" P_law_some_sheet s_law_some_sheet k_law_some_sheet c_law_some_sheet) (l_law_some_sheet : k_law_some_sheet ≤ k) {c_law_sheet : Con} {k_law_sheet : Nat} (C_law_sheet : Callee P w K mg base "_law_sheet" P_law_sheet s_law_sheet k_law_sheet c_law_sheet) (l_law_sheet : k_law_sheet ≤ k) {c_law_draw : Con} {k_law_draw : Nat} (C_law_draw : Callee P w K mg base "_law_draw" P_law_draw s_law_draw k_law_draw c_law_draw) (l_law_draw : k_law_draw ≤ k) {c_law_rows : Con} {k_law_rows : Nat} (C_law_rows : Callee P w K mg base "_law_rows" P_law_rows s_law_rows k_law_rows c_law_rows) (l_law_rows : k_law_rows ≤ k) {c_law_mixed : Con} {k_law_mixed : Nat} (C_law_mixed : Callee P w K mg base "_law_mixed" P_law_mixed s_law_mixed k_law_mixed c_law_mixed) (l_law_mixed : k_law_mixed ≤ k) {c_law_are_told : Con} {k_law_are_told : Nat} (C_law_are_told : Callee P w K mg base "_law_are_told" P_law_are_told s_law_are_told k_law_are_told c_law_are_told) (l_law_are_told : k_law_are_told ≤ k)
    (f : Addr) (cdv : Value) (A : Around) (outer : List Env) (s : Shared) (H : Hp) (E : XK) (hr : Room k (A.deeper (envOfC "law" (defScope s_law) s.heap.objs.size f cdv))) (hgd : A.guards = some []) :
    JB (cxOf CX0 P w K mg base N_law "law" (defScope s_law) f cdv A outer s H E).nox (defBody s_law) (b_law c_law_jar c_law_some_sheet c_law_sheet c_law_draw c_law_rows c_law_mixed c_law_are_told) := by
  have scND := sc_law.nd
  exact (jb_cons (js_set 1 scND (re_callee C_law_jar (hr.mono l_law_jar) hgd (ra_cons (re_var 0) ra_nil) pass0))
    (jb_cons (js_for PassesOwn.never rfl (ri_range1 rfl T.n_range (ra_cons re_int ra_nil)) (rg_name 2 scND) (jb_cons (js_set 6 scND (re_if (rt_cmp op_fLt (re_var 2) re_int (by rfl)) (re_callee C_law_some_sheet (hr.mono l_law_some_sheet) hgd (ra_cons (re_var 1) ra_nil) pass0) (re_callee C_law_sheet (hr.mono l_law_sheet) hgd (ra_cons (re_var 1) (ra_cons re_int (ra_cons (re_bin op_fAdd re_int (re_bin op_fMul re_int (re_callTy call_bInt rfl T.n_int bt_int (ra_cons (re_cmp (op_fEq hr.units) (re_callee C_law_draw (hr.mono l_law_draw) hgd (ra_cons (re_var 1) (ra_cons re_int ra_nil)) pass0) re_int (by rfl)) ra_nil)))) (ra_cons re_int ra_nil)))) pass0)))
    (jb_cons (js_par 7 8 rfl scND (ra_cons (re_callB (call_bRepr hgd hr.units) rfl T.n_repr bt_repr (ra_cons (re_var 6) ra_nil)) (ra_cons (re_callee C_law_rows (hr.mono l_law_rows) hgd (ra_cons (re_ix (re_var 6) re_int) ra_nil) pass0) ra_nil)))
    (jb_cons (js_for PassesOwn.never rfl (ri_enum rfl T.n_enumerate (ra_cons (re_slice (re_callee C_law_mixed (hr.mono l_law_mixed) hgd (ra_cons (re_var 1) (ra_cons (re_var 8) ra_nil)) pass0) ro_none (ro_some re_int)) ra_nil)) (rg_tup rfl (rgs_cons (rg_name 9 scND) (rgs_cons (rg_name 10 scND) rgs_nil))) (jb_one (js_if (RW.rt (rw_or (rt_not (rt_tru (re_callee C_law_are_told (hr.mono l_law_are_told) hgd (ra_cons (re_var 6) (ra_cons (re_var 10) (ra_cons (re_cmp (op_fEq hr.units) (re_var 9) (re_var 2) (by rfl)) ra_nil))) pass0))) (rw_or1 (rt_cmp (op_fNe hr.units) (re_callB (call_bRepr hgd hr.units) rfl T.n_repr bt_repr (ra_cons (re_var 6) ra_nil)) (re_var 7) (by rfl))))) (jb_one (js_ret re_bl)) jb_nil)))
    (jb_one (js_if (RW.rt (rw_or (rt_not (rt_tru (re_callee C_law_are_told (hr.mono l_law_are_told) hgd (ra_cons (re_var 6) (ra_cons (re_ix (re_var 8) re_int) (ra_cons re_bl ra_nil))) pass0))) (rw_or1 (rt_not (rt_tru (re_callee C_law_are_told (hr.mono l_law_are_told) hgd (ra_cons (re_var 6) (ra_cons (re_ix (re_var 8) (re_neg re_int)) (ra_cons re_bl ra_nil))) pass0)))))) (jb_one (js_ret re_bl)) jb_nil))))))
    (jb_cons (js_asg (re_tup (ra_cons (re_tup (ra_cons re_int (ra_cons (re_tup (ra_cons re_int (ra_cons (re_tup (ra_cons re_int (ra_cons (re_tup (ra_cons re_int (ra_cons re_int ra_nil))) ra_nil))) (ra_cons (re_tup (ra_cons re_int (ra_cons (re_tup (ra_cons re_int (ra_cons (re_tup (ra_cons re_int (ra_cons (re_tup (ra_cons re_int (ra_cons re_int ra_nil))) ra_nil))) ra_nil))) ra_nil))) ra_nil)))) ra_nil))) (ra_cons (re_tup (ra_cons re_int (ra_cons (re_tup (ra_cons re_int (ra_cons (re_tup (ra_cons re_int (ra_cons (re_tup (ra_cons re_int ra_nil)) ra_nil))) (ra_cons (re_tup (ra_cons re_int (ra_cons (re_tup (ra_cons re_int (ra_cons re_int (ra_cons re_int ra_nil)))) ra_nil))) ra_nil)))) ra_nil))) ra_nil))) (rg_tup rfl (rgs_cons (rg_name 3 scND) (rgs_cons (rg_name 4 scND) rgs_nil))))
    (jb_cons (js_set 5 scND (re_tup (ra_cons re_int (ra_cons (re_tup (ra_cons (re_var 3) (ra_cons (re_var 4) ra_nil))) ra_nil))))
    (jb_one (js_ret (re_cmp (op_fEq hr.units) (re_lc (own := [("value", 11)]) rfl scND (ri_seq (re_tup (ra_cons re_int (ra_cons re_int (ra_cons re_int (ra_cons re_int ra_nil)))))) (blkOk_by (N := N_law) (sc := defScope s_law) (by decide +kernel)) (by decide) (fun _ _ _ _ _ => (rg_name 11 scND)) (fun _ _ _ _ _ => rts_nil) (fun _ _ _ _ _ => (re_callee C_law_are_told (hr.mono l_law_are_told) hgd (ra_cons (re_var 5) (ra_cons (re_tup (ra_cons (re_var 11) ra_nil)) (ra_cons (re_cmp (op_fEq hr.units) (re_var 11) re_int (by rfl)) ra_nil))) pass0))) (re_bin op_fRep (re_lst (ra_cons re_bl ra_nil)) re_int) (by rfl))))))))
/-- every def of the text, as it stands behind the top -/
structure Defs (K : PySem.W.Frag) (mg : Str → Option Value) : Prop where
  T : Txt K mg
  d_true_value : Def K mg "true_value" P_true_value s_true_value
  d_true_reads : Def K mg "true_reads" P_true_reads s_true_reads
  d_true_values : Def K mg "true_values" P_true_values s_true_values
  d_reads_by_values : Def K mg "reads_by_values" P_reads_by_values s_reads_by_values
  d_followed : Def K mg "followed" P_followed s_followed
  d_taken_branch : Def K mg "taken_branch" P_taken_branch s_taken_branch
  d_law_jar : Def K mg "_law_jar" P_law_jar s_law_jar
  d_law_draw : Def K mg "_law_draw" P_law_draw s_law_draw
  d_law_pick : Def K mg "_law_pick" P_law_pick s_law_pick
  d_law_mixed : Def K mg "_law_mixed" P_law_mixed s_law_mixed
  d_law_formula : Def K mg "_law_formula" P_law_formula s_law_formula
  d_law_sheet : Def K mg "_law_sheet" P_law_sheet s_law_sheet
  d_law_some_sheet : Def K mg "_law_some_sheet" P_law_some_sheet s_law_some_sheet
  d_law_rows : Def K mg "_law_rows" P_law_rows s_law_rows
  d_law_longer : Def K mg "_law_longer" P_law_longer s_law_longer
  d_law_table : Def K mg "_law_table" P_law_table s_law_table
  d_law_are_told : Def K mg "_law_are_told" P_law_are_told s_law_are_told
  d_law : Def K mg "law" P_law s_law
theorem defs_mk {K : PySem.W.Frag} {mg : Str → Option Value} {h : Heap} (X : K.In h) (G : h.Ns mainGlobals mg)
    {f_true_value f_true_reads f_true_values f_reads_by_values f_followed f_taken_branch f_law_jar f_law_draw f_law_pick f_law_mixed f_law_formula f_law_sheet f_law_some_sheet f_law_rows f_law_longer f_law_table f_law_are_told f_law : Addr} {od_true_value an_true_value od_true_reads an_true_reads od_true_values an_true_values od_reads_by_values an_reads_by_values od_followed an_followed od_taken_branch an_taken_branch od_law_jar an_law_jar od_law_draw an_law_draw od_law_pick an_law_pick od_law_mixed an_law_mixed od_law_formula an_law_formula od_law_sheet an_law_sheet od_law_some_sheet an_law_some_sheet od_law_rows an_law_rows od_law_longer an_law_longer od_law_table an_law_table od_law_are_told an_law_are_told od_law an_law : Option Addr} {sl_true_value sl_true_reads sl_true_values sl_reads_by_values sl_followed sl_taken_branch sl_law_jar sl_law_draw sl_law_pick sl_law_mixed sl_law_formula sl_law_sheet sl_law_some_sheet sl_law_rows sl_law_longer sl_law_table sl_law_are_told sl_law : Array (Option Value)} {oc_true_value kV_true_value dc_true_value pm_true_value cd_true_value ct_true_value oc_true_reads kV_true_reads dc_true_reads pm_true_reads cd_true_reads ct_true_reads oc_true_values kV_true_values dc_true_values pm_true_values cd_true_values ct_true_values oc_reads_by_values kV_reads_by_values dc_reads_by_values pm_reads_by_values cd_reads_by_values ct_reads_by_values oc_followed kV_followed dc_followed pm_followed cd_followed ct_followed oc_taken_branch kV_taken_branch dc_taken_branch pm_taken_branch cd_taken_branch ct_taken_branch oc_law_jar kV_law_jar dc_law_jar pm_law_jar cd_law_jar ct_law_jar oc_law_draw kV_law_draw dc_law_draw pm_law_draw cd_law_draw ct_law_draw oc_law_pick kV_law_pick dc_law_pick pm_law_pick cd_law_pick ct_law_pick oc_law_mixed kV_law_mixed dc_law_mixed pm_law_mixed cd_law_mixed ct_law_mixed oc_law_formula kV_law_formula dc_law_formula pm_law_formula cd_law_formula ct_law_formula oc_law_sheet kV_law_sheet dc_law_sheet pm_law_sheet cd_law_sheet ct_law_sheet oc_law_some_sheet kV_law_some_sheet dc_law_some_sheet pm_law_some_sheet cd_law_some_sheet ct_law_some_sheet oc_law_rows kV_law_rows dc_law_rows pm_law_rows cd_law_rows ct_law_rows oc_law_longer kV_law_longer dc_law_longer pm_law_longer cd_law_longer ct_law_longer oc_law_table kV_law_table dc_law_table pm_law_table cd_law_table ct_law_table oc_law_are_told kV_law_are_told dc_law_are_told pm_law_are_told cd_law_are_told ct_law_are_told oc_law kV_law dc_law pm_law cd_law ct_law : Value}
    (a_true_value : PySem.W.nsIn K mainGlobals "true_value" = some (some (.ref f_true_value))) (l_true_value : K.lookup f_true_value = some ⟨oc_true_value, od_true_value, .func (PySem.W.fnOf "true_value" "true_value" (defArgs s_true_value) (defBody s_true_value) (defScope s_true_value) .none kV_true_value dc_true_value pm_true_value an_true_value cd_true_value ct_true_value), sl_true_value⟩) (e_true_value : PySem.W.codeIn K cd_true_value "true_value" = true) (k_true_value : PySem.W.keepIn K (.ref f_true_value) = true)
    (a_true_reads : PySem.W.nsIn K mainGlobals "true_reads" = some (some (.ref f_true_reads))) (l_true_reads : K.lookup f_true_reads = some ⟨oc_true_reads, od_true_reads, .func (PySem.W.fnOf "true_reads" "true_reads" (defArgs s_true_reads) (defBody s_true_reads) (defScope s_true_reads) .none kV_true_reads dc_true_reads pm_true_reads an_true_reads cd_true_reads ct_true_reads), sl_true_reads⟩) (e_true_reads : PySem.W.codeIn K cd_true_reads "true_reads" = true) (k_true_reads : PySem.W.keepIn K (.ref f_true_reads) = true)
    (a_true_values : PySem.W.nsIn K mainGlobals "true_values" = some (some (.ref f_true_values))) (l_true_values : K.lookup f_true_values = some ⟨oc_true_values, od_true_values, .func (PySem.W.fnOf "true_values" "true_values" (defArgs s_true_values) (defBody s_true_values) (defScope s_true_values) .none kV_true_values dc_true_values pm_true_values an_true_values cd_true_values ct_true_values), sl_true_values⟩) (e_true_values : PySem.W.codeIn K cd_true_values "true_values" = true) (k_true_values : PySem.W.keepIn K (.ref f_true_values) = true)
    (a_reads_by_values : PySem.W.nsIn K mainGlobals "reads_by_values" = some (some (.ref f_reads_by_values))) (l_reads_by_values : K.lookup f_reads_by_values = some ⟨oc_reads_by_values, od_reads_by_values, .func (PySem.W.fnOf "reads_by_values" "reads_by_values" (defArgs s_reads_by_values) (defBody s_reads_by_values) (defScope s_reads_by_values) .none kV_reads_by_values dc_reads_by_values pm_reads_by_values an_reads_by_values cd_reads_by_values ct_reads_by_values), sl_reads_by_values⟩) (e_reads_by_values : PySem.W.codeIn K cd_reads_by_values "reads_by_values" = true) (k_reads_by_values : PySem.W.keepIn K (.ref f_reads_by_values) = true)
    (a_followed : PySem.W.nsIn K mainGlobals "followed" = some (some (.ref f_followed))) (l_followed : K.lookup f_followed = some ⟨oc_followed, od_followed, .func (PySem.W.fnOf "followed" "followed" (defArgs s_followed) (defBody s_followed) (defScope s_followed) .none kV_followed dc_followed pm_followed an_followed cd_followed ct_followed), sl_followed⟩) (e_followed : PySem.W.codeIn K cd_followed "followed" = true) (k_followed : PySem.W.keepIn K (.ref f_followed) = true)
    (a_taken_branch : PySem.W.nsIn K mainGlobals "taken_branch" = some (some (.ref f_taken_branch))) (l_taken_branch : K.lookup f_taken_branch = some ⟨oc_taken_branch, od_taken_branch, .func (PySem.W.fnOf "taken_branch" "taken_branch" (defArgs s_taken_branch) (defBody s_taken_branch) (defScope s_taken_branch) .none kV_taken_branch dc_taken_branch pm_taken_branch an_taken_branch cd_taken_branch ct_taken_branch), sl_taken_branch⟩) (e_taken_branch : PySem.W.codeIn K cd_taken_branch "taken_branch" = true) (k_taken_branch : PySem.W.keepIn K (.ref f_taken_branch) = true)
    (a_law_jar : PySem.W.nsIn K mainGlobals "_law_jar" = some (some (.ref f_law_jar))) (l_law_jar : K.lookup f_law_jar = some ⟨oc_law_jar, od_law_jar, .func (PySem.W.fnOf "_law_jar" "_law_jar" (defArgs s_law_jar) (defBody s_law_jar) (defScope s_law_jar) .none kV_law_jar dc_law_jar pm_law_jar an_law_jar cd_law_jar ct_law_jar), sl_law_jar⟩) (e_law_jar : PySem.W.codeIn K cd_law_jar "_law_jar" = true) (k_law_jar : PySem.W.keepIn K (.ref f_law_jar) = true)
    (a_law_draw : PySem.W.nsIn K mainGlobals "_law_draw" = some (some (.ref f_law_draw))) (l_law_draw : K.lookup f_law_draw = some ⟨oc_law_draw, od_law_draw, .func (PySem.W.fnOf "_law_draw" "_law_draw" (defArgs s_law_draw) (defBody s_law_draw) (defScope s_law_draw) .none kV_law_draw dc_law_draw pm_law_draw an_law_draw cd_law_draw ct_law_draw), sl_law_draw⟩) (e_law_draw : PySem.W.codeIn K cd_law_draw "_law_draw" = true) (k_law_draw : PySem.W.keepIn K (.ref f_law_draw) = true)
    (a_law_pick : PySem.W.nsIn K mainGlobals "_law_pick" = some (some (.ref f_law_pick))) (l_law_pick : K.lookup f_law_pick = some ⟨oc_law_pick, od_law_pick, .func (PySem.W.fnOf "_law_pick" "_law_pick" (defArgs s_law_pick) (defBody s_law_pick) (defScope s_law_pick) .none kV_law_pick dc_law_pick pm_law_pick an_law_pick cd_law_pick ct_law_pick), sl_law_pick⟩) (e_law_pick : PySem.W.codeIn K cd_law_pick "_law_pick" = true) (k_law_pick : PySem.W.keepIn K (.ref f_law_pick) = true)
    (a_law_mixed : PySem.W.nsIn K mainGlobals "_law_mixed" = some (some (.ref f_law_mixed))) (l_law_mixed : K.lookup f_law_mixed = some ⟨oc_law_mixed, od_law_mixed, .func (PySem.W.fnOf "_law_mixed" "_law_mixed" (defArgs s_law_mixed) (defBody s_law_mixed) (defScope s_law_mixed) .none kV_law_mixed dc_law_mixed pm_law_mixed an_law_mixed cd_law_mixed ct_law_mixed), sl_law_mixed⟩) (e_law_mixed : PySem.W.codeIn K cd_law_mixed "_law_mixed" = true) (k_law_mixed : PySem.W.keepIn K (.ref f_law_mixed) = true)
    (a_law_formula : PySem.W.nsIn K mainGlobals "_law_formula" = some (some (.ref f_law_formula))) (l_law_formula : K.lookup f_law_formula = some ⟨oc_law_formula, od_law_formula, .func (PySem.W.fnOf "_law_formula" "_law_formula" (defArgs s_law_formula) (defBody s_law_formula) (defScope s_law_formula) .none kV_law_formula dc_law_formula pm_law_formula an_law_formula cd_law_formula ct_law_formula), sl_law_formula⟩) (e_law_formula : PySem.W.codeIn K cd_law_formula "_law_formula" = true) (k_law_formula : PySem.W.keepIn K (.ref f_law_formula) = true)
    (a_law_sheet : PySem.W.nsIn K mainGlobals "_law_sheet" = some (some (.ref f_law_sheet))) (l_law_sheet : K.lookup f_law_sheet = some ⟨oc_law_sheet, od_law_sheet, .func (PySem.W.fnOf "_law_sheet" "_law_sheet" (defArgs s_law_sheet) (defBody s_law_sheet) (defScope s_law_sheet) .none kV_law_sheet dc_law_sheet pm_law_sheet an_law_sheet cd_law_sheet ct_law_sheet), sl_law_sheet⟩) (e_law_sheet : PySem.W.codeIn K cd_law_sheet "_law_sheet" = true) (k_law_sheet : PySem.W.keepIn K (.ref f_law_sheet) = true)
    (a_law_some_sheet : PySem.W.nsIn K mainGlobals "_law_some_sheet" = some (some (.ref f_law_some_sheet))) (l_law_some_sheet : K.lookup f_law_some_sheet = some ⟨oc_law_some_sheet, od_law_some_sheet, .func (PySem.W.fnOf "_law_some_sheet" "_law_some_sheet" (defArgs s_law_some_sheet) (defBody s_law_some_sheet) (defScope s_law_some_sheet) .none kV_law_some_sheet dc_law_some_sheet pm_law_some_sheet an_law_some_sheet cd_law_some_sheet ct_law_some_sheet), sl_law_some_sheet⟩) (e_law_some_sheet : PySem.W.codeIn K cd_law_some_sheet "_law_some_sheet" = true) (k_law_some_sheet : PySem.W.keepIn K (.ref f_law_some_sheet) = true)
    (a_law_rows : PySem.W.nsIn K mainGlobals "_law_rows" = some (some (.ref f_law_rows))) (l_law_rows : K.lookup f_law_rows = some ⟨oc_law_rows, od_law_rows, .func (PySem.W.fnOf "_law_rows" "_law_rows" (defArgs s_law_rows) (defBody s_law_rows) (defScope s_law_rows) .none kV_law_rows dc_law_rows pm_law_rows an_law_rows cd_law_rows ct_law_rows), sl_law_rows⟩) (e_law_rows : PySem.W.codeIn K cd_law_rows "_law_rows" = true) (k_law_rows : PySem.W.keepIn K (.ref f_law_rows) = true)
    (a_law_longer : PySem.W.nsIn K mainGlobals "_law_longer" = some (some (.ref f_law_longer))) (l_law_longer : K.lookup f_law_longer = some ⟨oc_law_longer, od_law_longer, .func (PySem.W.fnOf "_law_longer" "_law_longer" (defArgs s_law_longer) (defBody s_law_longer) (defScope s_law_longer) .none kV_law_longer dc_law_longer pm_law_longer an_law_longer cd_law_longer ct_law_longer), sl_law_longer⟩) (e_law_longer : PySem.W.codeIn K cd_law_longer "_law_longer" = true) (k_law_longer : PySem.W.keepIn K (.ref f_law_longer) = true)
    (a_law_table : PySem.W.nsIn K mainGlobals "_law_table" = some (some (.ref f_law_table))) (l_law_table : K.lookup f_law_table = some ⟨oc_law_table, od_law_table, .func (PySem.W.fnOf "_law_table" "_law_table" (defArgs s_law_table) (defBody s_law_table) (defScope s_law_table) .none kV_law_table dc_law_table pm_law_table an_law_table cd_law_table ct_law_table), sl_law_table⟩) (e_law_table : PySem.W.codeIn K cd_law_table "_law_table" = true) (k_law_table : PySem.W.keepIn K (.ref f_law_table) = true)
    (a_law_are_told : PySem.W.nsIn K mainGlobals "_law_are_told" = some (some (.ref f_law_are_told))) (l_law_are_told : K.lookup f_law_are_told = some ⟨oc_law_are_told, od_law_are_told, .func (PySem.W.fnOf "_law_are_told" "_law_are_told" (defArgs s_law_are_told) (defBody s_law_are_told) (defScope s_law_are_told) .none kV_law_are_told dc_law_are_told pm_law_are_told an_law_are_told cd_law_are_told ct_law_are_told), sl_law_are_told⟩) (e_law_are_told : PySem.W.codeIn K cd_law_are_told "_law_are_told" = true) (k_law_are_told : PySem.W.keepIn K (.ref f_law_are_told) = true)
    (a_law : PySem.W.nsIn K mainGlobals "law" = some (some (.ref f_law))) (l_law : K.lookup f_law = some ⟨oc_law, od_law, .func (PySem.W.fnOf "law" "law" (defArgs s_law) (defBody s_law) (defScope s_law) .none kV_law dc_law pm_law an_law cd_law ct_law), sl_law⟩) (e_law : PySem.W.codeIn K cd_law "law" = true) (k_law : PySem.W.keepIn K (.ref f_law) = true)
    (z_enumerate : PySem.W.nsIn K mainGlobals "enumerate" = some none)
    (z_int : PySem.W.nsIn K mainGlobals "int" = some none)
    (z_isinstance : PySem.W.nsIn K mainGlobals "isinstance" = some none)
    (z_len : PySem.W.nsIn K mainGlobals "len" = some none)
    (z_list : PySem.W.nsIn K mainGlobals "list" = some none)
    (z_min : PySem.W.nsIn K mainGlobals "min" = some none)
    (z_range : PySem.W.nsIn K mainGlobals "range" = some none)
    (z_repr : PySem.W.nsIn K mainGlobals "repr" = some none)
    (z_tuple : PySem.W.nsIn K mainGlobals "tuple" = some none) : Defs K mg where
  T := { n_enumerate := PySem.W.mg_none_of X G z_enumerate, n_int := PySem.W.mg_none_of X G z_int, n_isinstance := PySem.W.mg_none_of X G z_isinstance, n_len := PySem.W.mg_none_of X G z_len, n_list := PySem.W.mg_none_of X G z_list, n_min := PySem.W.mg_none_of X G z_min, n_range := PySem.W.mg_none_of X G z_range, n_repr := PySem.W.mg_none_of X G z_repr, n_tuple := PySem.W.mg_none_of X G z_tuple }
  d_true_value := def_mk X G a_true_value l_true_value e_true_value k_true_value fun _ _ _ _ _ _ us hl => match us, hl with | [_, _, _], _ => rfl
  d_true_reads := def_mk X G a_true_reads l_true_reads e_true_reads k_true_reads fun _ _ _ _ _ _ us hl => match us, hl with | [_, _, _], _ => rfl
  d_true_values := def_mk X G a_true_values l_true_values e_true_values k_true_values fun _ _ _ _ _ _ us hl => match us, hl with | [_, _], _ => rfl
  d_reads_by_values := def_mk X G a_reads_by_values l_reads_by_values e_reads_by_values k_reads_by_values fun _ _ _ _ _ _ us hl => match us, hl with | [_, _, _], _ => rfl
  d_followed := def_mk X G a_followed l_followed e_followed k_followed fun _ _ _ _ _ _ us hl => match us, hl with | [_, _], _ => rfl
  d_taken_branch := def_mk X G a_taken_branch l_taken_branch e_taken_branch k_taken_branch fun _ _ _ _ _ _ us hl => match us, hl with | [_, _], _ => rfl
  d_law_jar := def_mk X G a_law_jar l_law_jar e_law_jar k_law_jar fun _ _ _ _ _ _ us hl => match us, hl with | [_], _ => rfl
  d_law_draw := def_mk X G a_law_draw l_law_draw e_law_draw k_law_draw fun _ _ _ _ _ _ us hl => match us, hl with | [_, _], _ => rfl
  d_law_pick := def_mk X G a_law_pick l_law_pick e_law_pick k_law_pick fun _ _ _ _ _ _ us hl => match us, hl with | [_, _], _ => rfl
  d_law_mixed := def_mk X G a_law_mixed l_law_mixed e_law_mixed k_law_mixed fun _ _ _ _ _ _ us hl => match us, hl with | [_, _], _ => rfl
  d_law_formula := def_mk X G a_law_formula l_law_formula e_law_formula k_law_formula fun _ _ _ _ _ _ us hl => match us, hl with | [_, _, _], _ => rfl
  d_law_sheet := def_mk X G a_law_sheet l_law_sheet e_law_sheet k_law_sheet fun _ _ _ _ _ _ us hl => match us, hl with | [_, _, _, _], _ => rfl
  d_law_some_sheet := def_mk X G a_law_some_sheet l_law_some_sheet e_law_some_sheet k_law_some_sheet fun _ _ _ _ _ _ us hl => match us, hl with | [_], _ => rfl
  d_law_rows := def_mk X G a_law_rows l_law_rows e_law_rows k_law_rows fun _ _ _ _ _ _ us hl => match us, hl with | [_], _ => rfl
  d_law_longer := def_mk X G a_law_longer l_law_longer e_law_longer k_law_longer fun _ _ _ _ _ _ us hl => match us, hl with | [_], _ => rfl
  d_law_table := def_mk X G a_law_table l_law_table e_law_table k_law_table fun _ _ _ _ _ _ us hl => match us, hl with | [_, _], _ => rfl
  d_law_are_told := def_mk X G a_law_are_told l_law_are_told e_law_are_told k_law_are_told fun _ _ _ _ _ _ us hl => match us, hl with | [_, _, _], _ => rfl
  d_law := def_mk X G a_law l_law e_law k_law fun _ _ _ _ _ _ us hl => match us, hl with | [_], _ => rfl
end Lw
set_option Elab.async false
set_option linter.all false
set_option maxRecDepth 100000
set_option maxHeartbeats 1000000
namespace Lw
open PySem PySem.Spec PyProof.Rows L2 Lt
theorem bMin_ii (i j : Int) (S : Store) : bMin [.int i, .int j] S = some (.int (if j < i then j else i), S) := rfl
theorem bInt_i (i : Int) (S : Store) : bInt [.int i] S = some (.int i, S) := rfl
theorem fEq_ii (i j : Int) (S : Store) : fEq (.int i) (.int j) S = some (.bl (decide (i = j)), S) := rfl
theorem fNe_ii (i j : Int) (S : Store) : fNe (.int i) (.int j) S = some (.bl (!decide (i = j)), S) := rfl
theorem bIsi_tt (xs : List PV) (S : Store) : bIsi [.tup xs, .ty "tuple"] S = some (.bl true, S) := rfl
theorem bIsi_it (i : Int) (S : Store) : bIsi [.int i, .ty "tuple"] S = some (.bl false, S) := rfl
theorem tru_b (b : Bool) (S : Store) : tru (.bl b) S = some b := rfl
theorem onL_ok {g : List PV → List PV → Option (List PV × PV)} {n : Nat} {xs args ys : List PV} {z : PV} {S : Store} (h : S[n]? = some (.lst xs)) (hg : g xs args = some (ys, z)) : onL g (.ref n) args S = some (z, S.set n (.lst ys)) := by
  show (match S[n]? with
    | some (Cell.lst xs) => (g xs args).map fun (r : List PV × PV) => (r.2, S.set n (Cell.lst r.1))
    | _ => none) = _
  rw [h]
  show (g xs args).map _ = _
  rw [hg]; rfl
theorem app_ok {n : Nat} {xs : List PV} {y : PV} {S : Store} (h : S[n]? = some (.lst xs)) (hl : xs.length < 16777216) : onL gAppend (.ref n) [y] S = some (.non, S.set n (.lst (xs ++ [y]))) :=
  onL_ok h (if_pos (sl_lt hl))
theorem ty_l {n : Nat} {c : Cell} {xs : List PV} {S : Store} (h : S[n]? = some c) (hx : c.items = some xs) : tyOk "list" (.ref n) S := .inl ⟨rfl, c, xs, h, hx⟩
theorem bTup_l {n : Nat} {c : Cell} {xs : List PV} {S : Store} (hc : S[n]? = some c) (hx : c.items = some xs) : bTuple [.ref n] S = some (.tup xs, S) := by
  show (seqOf (.ref n) S).map _ = _
  rw [seqOf_l hc hx]; rfl
theorem bList_l {n : Nat} {c : Cell} {xs : List PV} {S : Store} (hc : S[n]? = some c) (hx : c.items = some xs) : bList [.ref n] S = some (.ref S.length, S ++ [.lst xs]) := by
  show (seqOf (.ref n) S).map _ = _
  rw [seqOf_l hc hx]; rfl
theorem bList_t {xs : List PV} {S : Store} : bList [.tup xs] S = some (.ref S.length, S ++ [.lst xs]) := rfl

/-- what was made since does not count -/
theorem Kp.out {M M' : List Nat} {S S' : Store} {c : Cell} (a : Kp M (S ++ [c]) S') (h : ∀ n ∈ M, n ∈ M' ∨ S.length ≤ n) : Kp M' S S' :=
  ⟨by have := a.le; simp at this; omega, fun n d hn e => a.at_ n d (fun z => by
    rcases h n z with q | q
    · exact hn q
    · have := lt_of_at e; omega) (at_old e)⟩
local macro_rules | `(tactic| walk_at "go") => `(tactic| simp only [wSq, wSet, wRet, wDrop, wAsg, wPar, wNx, wIfS, wVar, wC, wOp, wCons, wNil, wB, wNot, wTup, wLst, wCall, wM, wOrT, wAndT, wIf, wNeg, wSl, wNoP, wP, wTru, wSeqI, wR1, wR2, wFor, wWhile, wYes, wDPut, wF,
  gN, gT, gsC, gsN, Option.bind_some, Option.map_some, List.getElem?_cons_zero, List.getElem?_cons_succ, List.set_cons_zero, List.set_cons_succ, List.map_cons, List.map_nil, List.length_cons, List.length_nil, List.replicate_succ, List.replicate_zero, List.append_nil, List.nil_append, List.cons_append,
  fAdd_ii, fI_ii, Lt.gSub, Lt.gB, opt_some, bMin_ii, bInt_i, bLen_t, fEq_ii, fNe_ii, tru_b, bIsi_tt, bIsi_it])

/-! taken_branch -/
def cTB : Con := conG (G := List PV × Nat) (fun g xs S => xs = [.tup g.1, .int g.2] ∧ g.1 ≠ []) (fun g xs S x S' => S' = S ∧ g.1[min g.2 (g.1.length - 1)]? = some x)
theorem pl_taken_branch (xs : List PV) (S0 : Store) (P : PQ) (h : cTB xs S0 P) : b_taken_branch (xs.map some ++ List.replicate (N_taken_branch.length - xs.length) none) S0 ⟨fun _ S' => P .non S', P, fun _ _ => False, fun _ _ => False⟩ := by
  obtain ⟨⟨bs, v⟩, ⟨rfl, hb⟩, hP⟩ := h
  unfold b_taken_branch
  walk_at "go"
  have hl : 0 < bs.length := List.length_pos_iff.mpr hb
  obtain ⟨x, hx⟩ : ∃ x, bs[min v (bs.length - 1)]? = some x := ⟨_, List.getElem?_eq_getElem (by omega)⟩
  have e : (if ((bs.length : Int) - 1) < (v : Int) then ((bs.length : Int) - 1) else (v : Int)) = ((min v (bs.length - 1) : Nat) : Int) := by split <;> omega
  rw [e, fIx_t hx]
  exact hP _ _ ⟨rfl, hx⟩

/-! formulas -/
abbrev iN (v : Nat) : PV := .int v
abbrev rdP (r : Nat × Nat) : PV := .tup [iN r.1, iN r.2]
def Fw : Nat → Nat → PV → Prop
  | 0, _, p => ∃ v : Nat, v ≤ 3 ∧ p = iN v
  | n + 1, c, p => (∃ v : Nat, v ≤ 3 ∧ p = iN v) ∨ ∃ (a : Nat) (bs : List PV), a < c ∧ bs ≠ [] ∧ bs.length ≤ 4 ∧ (∀ b ∈ bs, Fw n c b) ∧ p = .tup [iN a, .tup bs]
def go : Nat → List Nat → PV → List (Nat × Nat) × Nat
  | n + 1, vals, .tup [.int a, .tup bs] => ((a.toNat, vals.getD a.toNat 0) :: (go n vals (bs.getD (min (vals.getD a.toNat 0) (bs.length - 1)) .non)).1, (go n vals (bs.getD (min (vals.getD a.toNat 0) (bs.length - 1)) .non)).2)
  | _, _, .int i => ([], i.toNat)
  | _, _, _ => ([], 0)
theorem go_int (n : Nat) (vals : List Nat) (v : Nat) : go n vals (iN v) = ([], v) := by cases n <;> simp [go]
theorem Fw.int {n c : Nat} {v : Nat} (h : v ≤ 3) : Fw n c (iN v) := by
  cases n with
  | zero => exact ⟨v, h, rfl⟩
  | succ n => exact .inl ⟨v, h, rfl⟩
/-- the way's next turn -/
theorem go_tup {n c a : Nat} {vals : List Nat} {bs : List PV} (ha : a < vals.length) (hb : bs ≠ []) (hw : ∀ b ∈ bs, Fw n c b) : ∃ v b, vals[a]? = some v ∧ bs[min v (bs.length - 1)]? = some b ∧ Fw n c b ∧ go (n + 1) vals (.tup [iN a, .tup bs]) = ((a, v) :: (go n vals b).1, (go n vals b).2) := by
  have hl : 0 < bs.length := List.length_pos_iff.mpr hb
  have hv : vals[a]? = some vals[a] := List.getElem?_eq_getElem ha
  have hi : min vals[a] (bs.length - 1) < bs.length := by omega
  have hx := List.getElem?_eq_getElem hi
  refine ⟨vals[a], _, hv, hx, hw _ (List.getElem_mem hi), ?_⟩
  have e1 : vals.getD a 0 = vals[a] := by rw [List.getD_eq_getElem?_getD, hv]; rfl
  have e2 : bs.getD (min vals[a] (bs.length - 1)) .non = bs[min vals[a] (bs.length - 1)] := by rw [List.getD_eq_getElem?_getD, hx]; rfl
  simp only [go, Int.toNat_natCast, e1, e2]

/-! followed -/
def cFo : Con := conG (G := Nat × Nat × PV × Nat × List Nat) (fun g xs S => xs = [g.2.2.1, .ref g.2.2.2.1] ∧ g.1 ≤ 60 ∧ Fw g.1 g.2.1 g.2.2.1 ∧ g.2.1 ≤ g.2.2.2.2.length ∧ S[g.2.2.2.1]? = some (.lst (g.2.2.2.2.map iN)))
  (fun g xs S x S' => Kp [] S S' ∧ x = .tup [.tup ((go g.1 g.2.2.2.2 g.2.2.1).1.map rdP), iN (go g.1 g.2.2.2.2 g.2.2.1).2])
abbrev fo_t : WT := wTru (wCall bIsi (wCons (wVar 0) (wCons (wC (.ty "tuple")) wNil)))
abbrev fo_b : WS := (wSq (wAsg (wVar 0) (gT (gsC (gN 3) (gsC (gN 4) gsN))))
    (wSq (wSet 5 (wOp fIx (wVar 1) (wVar 3)))
    (wSq (wDrop (wM "list" (onL gAppend) (wVar 2) (wCons (wTup (wCons (wVar 3) (wCons (wVar 5) wNil))) wNil)))
    (wSet 0 (wF cTB (wCons (wVar 4) (wCons (wVar 5) wNil)))))))
theorem go_loop {D : PEnds} {c m r : Nat} {vals : List Nat} (hmr : m ≠ r) (hc : c ≤ vals.length) : ∀ (n : Nat) (p : PV) (acc : List PV) (e3 e4 e5 : Option PV) (S : Store), Fw n c p → acc.length + n ≤ 60 →
    S[m]? = some (.lst (vals.map iN)) → S[r]? = some (.lst acc) → (∀ e3 e4 e5 S', Kp [r] S S' → S'[r]? = some (.lst (acc ++ (go n vals p).1.map rdP)) → D.nx [some (iN (go n vals p).2), some (.ref m), some (.ref r), e3, e4, e5] S') →
    wWhL fo_t fo_b D (n + 1) [some p, some (.ref m), some (.ref r), e3, e4, e5] S := by
  intro n
  induction n with
  | zero =>
    intro p acc e3 e4 e5 S w hl hm hr hD
    obtain ⟨v, -, rfl⟩ := w
    unfold wWhL fo_t
    walk_at "go"
    have := hD e3 e4 e5 S .refl (by rw [go_int]; simpa using hr)
    rwa [go_int] at this
  | succ n ih =>
    intro p acc e3 e4 e5 S w hl hm hr hD
    rcases w with ⟨v, -, rfl⟩ | ⟨a, bs, h1, h2, h3, h4, rfl⟩
    · unfold wWhL fo_t
      walk_at "go"
      have := hD e3 e4 e5 S .refl (by rw [go_int]; simpa using hr)
      rwa [go_int] at this
    · obtain ⟨v, b, g1, g2, g3, g4⟩ := go_tup (n := n) (c := c) (vals := vals) (by omega : a < vals.length) h2 h4
      have hv : (vals.map iN)[a]? = some (iN v) := by rw [List.getElem?_map, g1]; rfl
      unfold wWhL fo_t
      walk_at "go"
      rw [fIx_l hm rfl hv]
      walk_at "go"
      refine ⟨ty_l hr rfl, sl_le (by decide), ?_⟩
      rw [app_ok hr (by omega)]
      walk_at "go"
      refine con_g (bs, v) ⟨rfl, h2⟩ ?_
      rintro x S' ⟨rfl, hx⟩
      rw [g2] at hx
      cases hx
      refine ih b (acc ++ [rdP (a, v)]) _ _ _ _ g3 (by simp; omega) (at_set_ne hmr.symm hm) (at_set hr) fun e3 e4 e5 S' k1 k2 => ?_
      have := hD e3 e4 e5 S' ((Kp.set (by simp)).trans k1) (by rw [k2, g4]; simp)
      rwa [g4] at this
theorem pl_followed (xs : List PV) (S0 : Store) (P : PQ) (h : cFo xs S0 P) : b_followed cTB (xs.map some ++ List.replicate (N_followed.length - xs.length) none) S0 ⟨fun _ S' => P .non S', P, fun _ _ => False, fun _ _ => False⟩ := by
  obtain ⟨⟨n, c, p, m, vals⟩, ⟨rfl, hn, hw, hc, hm⟩, hP⟩ := h
  unfold b_followed
  walk_at "go"
  refine ⟨sl_le (by decide), n + 1, ?_⟩
  have hml : m < S0.length := lt_of_at hm
  refine go_loop (m := m) (r := S0.length) (by omega) hc n p [] none none none _ hw (by simp; omega) (at_old hm) (at_new _ _) fun e3 e4 e5 S' k1 k2 => ?_
  walk_at "go"
  rw [bTup_l k2 rfl]
  walk_at "go"
  refine ⟨sl_le (by decide), ?_⟩
  refine hP _ _ ⟨Kp.out k1 (fun k hk => .inr ?_), rfl⟩
  obtain rfl : k = S0.length := by simpa using hk
  exact Nat.le_refl _
end Lw
set_option Elab.async false
set_option linter.all false
set_option maxRecDepth 100000
set_option maxHeartbeats 1000000
namespace Lw
open PySem PySem.Spec PyProof.Rows L2 Lt
local macro_rules | `(tactic| walk_at "go") => `(tactic| try simp only [wSq, wSet, wRet, wDrop, wAsg, wPar, wNx, wIfS, wVar, wC, wOp, wCons, wNil, wB, wNot, wTup, wLst, wCall, wM, wOrT, wAndT, wIf, wNeg, wSl, wNoP, wP, wTru, wSeqI, wR1, wR2, wFor, wWhile, wYes, wDPut, wF,
  gN, gT, gsC, gsN, Option.bind_some, Option.map_some, List.getElem?_cons_zero, List.getElem?_cons_succ, List.set_cons_zero, List.set_cons_succ, List.map_cons, List.map_nil, List.length_cons, List.length_nil, List.replicate_succ, List.replicate_zero, List.append_nil, List.nil_append, List.cons_append,
  fAdd_ii, fI_ii, Lt.gSub, Lt.gB, opt_some, bMin_ii, bInt_i, bLen_t, fEq_ii, fNe_ii, tru_b, bIsi_tt, bIsi_it])

/-! true_values -/
def tv : List PV → List Nat → List Nat
  | [], vals => vals
  | p :: r, vals => tv r (vals ++ [(go 3 vals p).2])
theorem tv_snoc : ∀ (fs : List PV) (p : PV) (r : List Nat), tv (fs ++ [p]) r = tv fs r ++ [(go 3 (tv fs r) p).2]
  | [], p, r => rfl
  | q :: fs, p, r => tv_snoc fs p _
theorem tv_len : ∀ (fs : List PV) (r : List Nat), (tv fs r).length = r.length + fs.length
  | [], r => rfl
  | q :: fs, r => by
    show (tv fs _).length = _
    rw [tv_len fs]
    simp
    omega
theorem take_snoc {α : Type} {xs : List α} {i : Nat} {x : α} (h : xs[i]? = some x) : xs.take (i + 1) = xs.take i ++ [x] := by
  rw [List.take_succ, h]; rfl
structure Sh (inp : Nat) (fs : List PV) : Prop where
  i3 : inp ≤ 3
  l5 : fs.length ≤ 8
  w : ∀ i p, fs[i]? = some p → Fw 3 (inp + i) p
abbrev shP (inp : Nat) (fs : List PV) : PV := .tup [iN inp, .tup fs]
def cTV : Con := conG (G := Nat × List PV × List Nat) (fun g xs S => xs = [shP g.1 g.2.1, .tup (g.2.2.map iN)] ∧ Sh g.1 g.2.1 ∧ g.2.2.length = g.1)
  (fun g xs S x S' => Kp [] S S' ∧ ∃ m, x = .ref m ∧ S'[m]? = some (.lst ((tv g.2.1 g.2.2).map iN)))
theorem pl_true_values (xs : List PV) (S0 : Store) (P : PQ) (h : cTV xs S0 P) : b_true_values cFo (xs.map some ++ List.replicate (N_true_values.length - xs.length) none) S0 ⟨fun _ S' => P .non S', P, fun _ _ => False, fun _ _ => False⟩ := by
  obtain ⟨⟨inp, fs, r⟩, ⟨rfl, hs, hr⟩, hP⟩ := h
  dsimp only at *
  unfold b_true_values
  walk_at "go"
  rw [bList_t]
  walk_at "go"
  rw [show ((1 : Int)) = ((1 : Nat) : Int) from rfl, fIx_t (x := .tup fs) rfl]
  walk_at "go"
  refine loop_inv (n := fs.length) (fun i env S => ∃ e3 e4 e5, env = [some (shP inp fs), some (.tup (r.map iN)), some (.ref S0.length), e3, e4, e5] ∧ Kp [] S0 S ∧ S0.length < S.length ∧ S[S0.length]? = some (.lst ((tv (fs.take i) r).map iN))) ?_ ?_ ⟨none, none, none, rfl, .push, by simp, at_new _ _⟩
  · rintro i env S hi ⟨e3, e4, e5, rfl, k1, k2, k3⟩
    have hf : fs[i]? = some fs[i] := List.getElem?_eq_getElem hi
    have tl : (tv (fs.take i) r).length = inp + i := by rw [tv_len, hr]; simp; omega
    refine ⟨fs[i], _, congrArg some hf, rfl, fun D' hnx _ _ _ => ?_⟩
    walk_at "go"
    refine con_g (3, inp + i, fs[i], S0.length, tv (fs.take i) r) ⟨rfl, (by show (3:Nat) ≤ 60; decide), hs.w i _ hf, (by show inp + i ≤ (tv (fs.take i) r).length; omega), k3⟩ ?_
    rintro x S' ⟨q1, rfl⟩
    walk_at "go"
    have q2 := q1.at_ _ _ (by simp) k3
    refine ⟨ty_l q2 rfl, ?_⟩
    rw [app_ok q2 (by simp only [List.length_map, tl]; have := hs.i3; have := hs.l5; omega)]
    walk_at "go"
    refine hnx _ _ ⟨_, _, _, rfl, (k1.trans q1).set_new (Nat.le_refl _), by simpa using Nat.lt_of_lt_of_le k2 q1.le, ?_⟩
    rw [at_set q2, take_snoc hf, tv_snoc]
    simp
  · rintro env S ⟨e3, e4, e5, rfl, k1, k2, k3⟩
    refine ⟨congrArg some (by simp), ?_⟩
    walk_at "go"
    refine hP _ _ ⟨k1, _, rfl, ?_⟩
    rw [List.take_length] at k3
    exact k3
/-! true_value -/
def cTVal : Con := conG (G := Nat × List PV × List Nat × Nat) (fun g xs S => xs = [shP g.1 g.2.1, .tup (g.2.2.1.map iN), iN g.2.2.2] ∧ Sh g.1 g.2.1 ∧ g.2.2.1.length = g.1 ∧ g.2.2.2 < g.1 + g.2.1.length)
  (fun g xs S x S' => Kp [] S S' ∧ x = iN ((tv g.2.1 g.2.2.1).getD g.2.2.2 0))
theorem getD_at {xs : List Nat} {i : Nat} (h : i < xs.length) : xs[i]? = some (xs.getD i 0) := by
  rw [List.getD_eq_getElem?_getD, List.getElem?_eq_getElem h]; rfl
theorem at_iN {xs : List Nat} {i v : Nat} (h : xs[i]? = some v) : (xs.map iN)[i]? = some (iN v) := by rw [List.getElem?_map, h]; rfl
theorem pl_true_value (xs : List PV) (S0 : Store) (P : PQ) (h : cTVal xs S0 P) : b_true_value cTV (xs.map some ++ List.replicate (N_true_value.length - xs.length) none) S0 ⟨fun _ S' => P .non S', P, fun _ _ => False, fun _ _ => False⟩ := by
  obtain ⟨⟨inp, fs, r, c⟩, ⟨rfl, hs, hr, hc⟩, hP⟩ := h
  dsimp only at *
  unfold b_true_value
  walk_at "go"
  refine con_g (inp, fs, r) ⟨rfl, hs, hr⟩ ?_
  rintro x S' ⟨k1, m, rfl, k2⟩
  have hv : (tv fs r)[c]? = some ((tv fs r).getD c 0) := getD_at (by rw [tv_len, hr]; exact hc)
  rw [fIx_l k2 rfl (at_iN hv)]
  exact hP _ _ ⟨k1, rfl⟩
/-! reads_by_values -/
def RdOf (inp : Nat) (fs : List PV) (vals : List Nat) (cell : Nat) (out : List (Nat × Nat)) : Prop := (cell < inp ∧ out = []) ∨ ∃ i p, cell = inp + i ∧ fs[i]? = some p ∧ out = (go 3 vals p).1
def cRB : Con := conG (G := Nat × List PV × Nat × List Nat × Nat × List (Nat × Nat)) (fun g xs S => xs = [shP g.1 g.2.1, .ref g.2.2.1, iN g.2.2.2.2.1] ∧ Sh g.1 g.2.1 ∧ g.2.2.2.1.length = g.1 + g.2.1.length ∧ RdOf g.1 g.2.1 g.2.2.2.1 g.2.2.2.2.1 g.2.2.2.2.2 ∧ S[g.2.2.1]? = some (.lst (g.2.2.2.1.map iN)))
  (fun g xs S x S' => Kp [] S S' ∧ x = .tup (g.2.2.2.2.2.map rdP))
theorem pl_reads_by_values (xs : List PV) (S0 : Store) (P : PQ) (h : cRB xs S0 P) : b_reads_by_values cFo (xs.map some ++ List.replicate (N_reads_by_values.length - xs.length) none) S0 ⟨fun _ S' => P .non S', P, fun _ _ => False, fun _ _ => False⟩ := by
  obtain ⟨⟨inp, fs, m, vals, cell, out⟩, ⟨rfl, hs, hl, hp, hm⟩, hP⟩ := h
  dsimp only at *
  unfold b_reads_by_values
  walk_at "go"
  rcases hp with ⟨h1, rfl⟩ | ⟨i, p, rfl, hp, rfl⟩
  · rw [decide_eq_true (by omega)]
    walk_at "go"
    exact ⟨sl_le (by decide), hP _ _ ⟨.refl, rfl⟩⟩
  have hi : i < fs.length := (List.getElem?_eq_some_iff.mp hp).1
  rw [decide_eq_false (by omega)]
  walk_at "go"
  rw [show ((inp + i : Nat) : Int) - (inp : Int) = (i : Int) by omega, fIx_t hp]
  walk_at "go"
  refine con_g (3, inp + i, p, m, vals) ⟨rfl, (by show (3:Nat) ≤ 60; decide), hs.w i p hp, (by show inp + i ≤ vals.length; omega), hm⟩ ?_
  rintro x S' ⟨q1, rfl⟩
  walk_at "go"
  exact hP _ _ ⟨q1, rfl⟩
/-! true_reads -/
def cTR : Con := conG (G := Nat × List PV × List Nat × Nat × List (Nat × Nat)) (fun g xs S => xs = [shP g.1 g.2.1, .tup (g.2.2.1.map iN), iN g.2.2.2.1] ∧ Sh g.1 g.2.1 ∧ g.2.2.1.length = g.1 ∧ RdOf g.1 g.2.1 (tv g.2.1 g.2.2.1) g.2.2.2.1 g.2.2.2.2)
  (fun g xs S x S' => Kp [] S S' ∧ x = .tup (g.2.2.2.2.map rdP))
theorem pl_true_reads (xs : List PV) (S0 : Store) (P : PQ) (h : cTR xs S0 P) : b_true_reads cRB cTV (xs.map some ++ List.replicate (N_true_reads.length - xs.length) none) S0 ⟨fun _ S' => P .non S', P, fun _ _ => False, fun _ _ => False⟩ := by
  obtain ⟨⟨inp, fs, r, cell, out⟩, ⟨rfl, hs, hr, hp⟩, hP⟩ := h
  dsimp only at *
  unfold b_true_reads
  walk_at "go"
  refine con_g (inp, fs, r) ⟨rfl, hs, hr⟩ ?_
  rintro x S' ⟨k1, m, rfl, k2⟩
  walk_at "go"
  refine con_g (inp, fs, m, tv fs r, cell, out) ⟨rfl, hs, by rw [tv_len, hr], hp, k2⟩ ?_
  rintro x S' ⟨q1, rfl⟩
  exact hP _ _ ⟨k1.trans q1, rfl⟩
end Lw
set_option Elab.async false
set_option linter.all false
set_option maxRecDepth 100000
set_option maxHeartbeats 1000000
namespace Lw
open PySem PySem.Spec PyProof.Rows L2 Lt
local macro_rules | `(tactic| walk_at "go") => `(tactic| try simp only [wSq, wSet, wRet, wDrop, wAsg, wPar, wNx, wIfS, wVar, wC, wOp, wCons, wNil, wB, wNot, wTup, wLst, wCall, wM, wOrT, wAndT, wIf, wNeg, wSl, wNoP, wP, wTru, wSeqI, wR1, wR2, wFor, wWhile, wYes, wDPut, wF,
  gN, gT, gsC, gsN, Option.bind_some, Option.map_some, List.getElem?_cons_zero, List.getElem?_cons_succ, List.set_cons_zero, List.set_cons_succ, List.map_cons, List.map_nil, List.length_cons, List.length_nil, List.replicate_succ, List.replicate_zero, List.append_nil, List.nil_append, List.cons_append,
  fAdd_ii, fI_ii, Lt.gSub, Lt.gB, opt_some, bMin_ii, bInt_i, bLen_t, fEq_ii, fNe_ii, tru_b, bIsi_tt, bIsi_it])

/-! table -/
abbrev tc (g : List (Nat × Nat) × Nat) : PV := .tup [iN g.2, .tup (g.1.map rdP)]
def tbl : List PV → List Nat → List PV → List PV
  | [], _, acc => acc
  | p :: r, vals, acc => tbl r (vals ++ [(go 3 vals p).2]) (acc ++ [tc (go 3 vals p)])
theorem tbl_snoc : ∀ (fs : List PV) (p : PV) (r : List Nat) (acc : List PV), tbl (fs ++ [p]) r acc = tbl fs r acc ++ [tc (go 3 (tv fs r) p)]
  | [], p, r, acc => rfl
  | q :: fs, p, r, acc => tbl_snoc fs p _ _
abbrev r0 (v : Nat) : PV := .tup [iN v, .tup []]
abbrev row0 (r : List Nat) : List PV := r.map r0
structure TV (tb : List PV) (vals : List Nat) : Prop where
  len : tb.length = vals.length
  at_ : ∀ (a v : Nat), vals[a]? = some v → ∃ rs : List PV, tb[a]? = some (PV.tup [iN v, PV.tup rs])
theorem TV.row (r : List Nat) : TV (row0 r) r := ⟨by simp, fun a v h => ⟨[], by rw [List.getElem?_map, h]; rfl⟩⟩
theorem TV.snoc {tb : List PV} {vals : List Nat} (t : TV tb vals) (g : List (Nat × Nat) × Nat) : TV (tb ++ [tc g]) (vals ++ [g.2]) := by
  refine ⟨by simp [t.len], fun a v h => ?_⟩
  by_cases ha : a < vals.length
  · rw [List.getElem?_append_left ha] at h
    rw [List.getElem?_append_left (by rw [t.len]; exact ha)]
    exact t.at_ a v h
  · rw [List.getElem?_append_right (by omega)] at h
    rw [List.getElem?_append_right (by rw [t.len]; omega), t.len]
    cases e : a - vals.length with
    | zero => rw [e] at h; cases h; exact ⟨_, rfl⟩
    | succ k => rw [e] at h; simp at h
theorem TV.tbl : ∀ (fs : List PV) (vals : List Nat) (tb : List PV), TV tb vals → TV (tbl fs vals tb) (tv fs vals)
  | [], _, _, t => t
  | p :: r, vals, tb, t => TV.tbl r _ _ (t.snoc (go 3 vals p))
def cTab : Con := conG (G := Nat × List PV × List Nat) (fun g xs S => xs = [shP g.1 g.2.1, .tup (g.2.2.map iN)] ∧ Sh g.1 g.2.1 ∧ g.2.2.length = g.1)
  (fun g xs S x S' => Kp [] S S' ∧ ∃ m, x = .ref m ∧ S'[m]? = some (.lst (tbl g.2.1 g.2.2 (row0 g.2.2))))
abbrev ta_t : WT := wTru (wCall bIsi (wCons (wVar 5) (wCons (wC (.ty "tuple")) wNil)))
abbrev ta_b : WS := (wSq (wSet 6 (wOp fIx (wOp fIx (wVar 2) (wOp fIx (wVar 5) (wC (.int 0)))) (wC (.int 0))))
    (wPar 4 5 (wCons (wOp fAdd (wVar 4) (wTup (wCons (wTup (wCons (wOp fIx (wVar 5) (wC (.int 0))) (wCons (wVar 6) wNil))) wNil))) (wCons (wOp fIx (wOp fIx (wVar 5) (wC (.int 1))) (wCall bMin (wCons (wVar 6) (wCons (wOp (fI Lt.gSub) (wCall bLen (wCons (wOp fIx (wVar 5) (wC (.int 1))) wNil)) (wC (.int 1))) wNil)))) wNil))))
theorem ix0 (x y : PV) (S : Store) : fIx (.tup [x, y]) (.int 0) S = some (x, S) := fIx_t (j := 0) rfl
theorem ix1 (x y : PV) (S : Store) : fIx (.tup [x, y]) (.int 1) S = some (y, S) := fIx_t (j := 1) rfl
theorem min_nat {v k : Nat} (h : 0 < k) : (if ((k : Int) - 1) < (v : Int) then ((k : Int) - 1) else (v : Int)) = ((min v (k - 1) : Nat) : Int) := by split <;> omega
theorem tab_loop {D : PEnds} {c m : Nat} {vals : List Nat} {tb : List PV} {s0 s1 s3 : Option PV} (hc : c ≤ vals.length) (t : TV tb vals) : ∀ (n : Nat) (p : PV) (acc : List PV) (e6 : Option PV) (S : Store), Fw n c p → acc.length + n ≤ 60 →
    S[m]? = some (.lst tb) → (∀ e6, D.nx [s0, s1, some (.ref m), s3, some (.tup (acc ++ (go n vals p).1.map rdP)), some (iN (go n vals p).2), e6] S) →
    wWhL ta_t ta_b D (n + 1) [s0, s1, some (.ref m), s3, some (.tup acc), some p, e6] S := by
  intro n
  induction n with
  | zero =>
    intro p acc e6 S w hl hm hD
    obtain ⟨v, -, rfl⟩ := w
    unfold wWhL ta_t
    walk_at "go"
    have := hD e6
    rw [go_int] at this
    simpa using this
  | succ n ih =>
    intro p acc e6 S w hl hm hD
    rcases w with ⟨v, -, rfl⟩ | ⟨a, bs, h1, h2, h3, h4, rfl⟩
    · unfold wWhL ta_t
      walk_at "go"
      have := hD e6
      rw [go_int] at this
      simpa using this
    · obtain ⟨v, b, g1, g2, g3, g4⟩ := go_tup (n := n) (c := c) (vals := vals) (by omega : a < vals.length) h2 h4
      obtain ⟨rs, hv⟩ := t.at_ a v g1
      unfold wWhL ta_t
      walk_at "go"
      rw [ix0]
      walk_at "go"
      rw [fIx_l hm rfl hv]
      walk_at "go"
      rw [ix0]
      walk_at "go"
      rw [ix0]
      walk_at "go"
      refine ⟨sl_le (by decide), sl_le (by decide), ?_⟩
      rw [fAdd_tt (by simp; omega)]
      walk_at "go"
      rw [ix1]
      walk_at "go"
      rw [ix1]
      walk_at "go"
      have hl : 0 < bs.length := List.length_pos_iff.mpr h2
      rw [min_nat hl, fIx_t g2]
      walk_at "go"
      refine ih b _ _ _ g3 (by simp; omega) hm fun e6 => ?_
      have := hD e6
      rw [g4] at this
      simpa using this
theorem pl_law_table (xs : List PV) (S0 : Store) (P : PQ) (h : cTab xs S0 P) : b_law_table (xs.map some ++ List.replicate (N_law_table.length - xs.length) none) S0 ⟨fun _ S' => P .non S', P, fun _ _ => False, fun _ _ => False⟩ := by
  obtain ⟨⟨inp, fs, r⟩, ⟨rfl, hs, hr⟩, hP⟩ := h
  dsimp only at *
  unfold b_law_table
  walk_at "go"
  unfold wLc
  walk_at "go"
  refine lc_inv (n := r.length) (fun i S => Kp [] S0 S ∧ S0.length < S.length ∧ S[S0.length]? = some (.lst (row0 (r.take i)))) ?_ ?_ ⟨.push, by simp, at_new _ _⟩
  · rintro i S hi ⟨k1, k2, k3⟩
    have hf : r[i]? = some r[i] := List.getElem?_eq_getElem hi
    refine ⟨iN r[i], _, congrArg some (at_iN hf), rfl, fun Qt Qe hq _ ht => ?_⟩
    walk_at "go"
    refine ht _ ?_
    unfold wipeP wipeP
    walk_at "go"
    refine ⟨sl_le (by decide), sl_le (by decide), ?_⟩
    refine hq _ _ _ k3 (sl_lt (by simp; have := hs.i3; omega)) ⟨k1.set_new (Nat.le_refl _), by simpa using k2, ?_⟩
    rw [at_set k3, take_snoc hf]
    unfold row0
    rw [List.map_append]
    rfl
  rintro S ⟨k1, k2, k3⟩
  refine ⟨congrArg some (by simp), ?_⟩
  rw [List.take_length] at k3
  walk_at "go"
  rw [ix1]
  walk_at "go"
  refine loop_inv (n := fs.length) (fun i env S => ∃ e3 e4 e5 e6, env = [some (shP inp fs), some (.tup (r.map iN)), some (.ref S0.length), e3, e4, e5, e6] ∧ Kp [] S0 S ∧ S0.length < S.length ∧ S[S0.length]? = some (.lst (tbl (fs.take i) r (row0 r)))) ?_ ?_ ⟨none, none, none, none, rfl, k1, k2, k3⟩
  · rintro i env S hi ⟨e3, e4, e5, e6, rfl, k1, k2, k3⟩
    have hf : fs[i]? = some fs[i] := List.getElem?_eq_getElem hi
    have tl : (tv (fs.take i) r).length = inp + i := by rw [tv_len, hr]; simp; omega
    refine ⟨fs[i], _, congrArg some hf, rfl, fun D' hnx _ _ _ => ?_⟩
    walk_at "go"
    refine ⟨sl_le (by decide), 4, ?_⟩
    have tt := TV.tbl (fs.take i) r _ (TV.row r)
    refine tab_loop (c := inp + i) (by rw [tl]; exact Nat.le_refl _) tt 3 fs[i] [] _ S (hs.w i _ hf) (by decide) k3 fun e6 => ?_
    walk_at "go"
    refine ⟨ty_l k3 rfl, sl_le (by decide), ?_⟩
    rw [app_ok k3 (by rw [tt.len, tl]; have := hs.i3; have := hs.l5; omega)]
    walk_at "go"
    refine hnx _ _ ⟨_, _, _, _, rfl, k1.set_new (Nat.le_refl _), by simpa using k2, ?_⟩
    rw [at_set k3, take_snoc hf, tbl_snoc]
  · rintro env S ⟨e3, e4, e5, e6, rfl, k1, k2, k3⟩
    refine ⟨congrArg some (by simp), ?_⟩
    walk_at "go"
    refine hP _ _ ⟨k1, _, rfl, ?_⟩
    rw [List.take_length] at k3
    exact k3
end Lw
set_option Elab.async false
set_option linter.all false
set_option maxRecDepth 100000
set_option maxHeartbeats 1000000
namespace Lw
open PySem PySem.Spec PyProof.Rows L2 Lt
local macro_rules | `(tactic| walk_at "go") => `(tactic| try simp only [wSq, wSet, wRet, wDrop, wAsg, wPar, wNx, wIfS, wVar, wC, wOp, wCons, wNil, wB, wNot, wTup, wLst, wCall, wM, wOrT, wAndT, wIf, wNeg, wSl, wNoP, wP, wTru, wSeqI, wR1, wR2, wFor, wWhile, wYes, wDPut, wF,
  gN, gT, gsC, gsN, Option.bind_some, Option.map_some, List.getElem?_cons_zero, List.getElem?_cons_succ, List.set_cons_zero, List.set_cons_succ, List.map_cons, List.map_nil, List.length_cons, List.length_nil, List.replicate_succ, List.replicate_zero, List.append_nil, List.nil_append, List.cons_append,
  fAdd_ii, fI_ii, Lt.gSub, Lt.gB, opt_some, bMin_ii, bInt_i, bLen_t, fEq_ii, fNe_ii, tru_b, bIsi_tt, bIsi_it])

/-! ways -/
theorem go_at {c : Nat} {vals : List Nat} (hc : c ≤ vals.length) : ∀ (n : Nat) (p : PV), Fw n c p → (∀ r ∈ (go n vals p).1, r.1 < c ∧ vals[r.1]? = some r.2) ∧ (go n vals p).1.length ≤ n ∧ (go n vals p).2 ≤ 3
  | 0, p, w => by
    obtain ⟨v, h, rfl⟩ := w
    rw [go_int]
    exact ⟨fun r hr => (List.not_mem_nil hr).elim, Nat.le_refl _, h⟩
  | n + 1, p, w => by
    rcases w with ⟨v, h, rfl⟩ | ⟨a, bs, h1, h2, h3, h4, rfl⟩
    · rw [go_int]
      exact ⟨fun r hr => (List.not_mem_nil hr).elim, Nat.zero_le _, h⟩
    · obtain ⟨v, b, g1, g2, g3, g4⟩ := go_tup (n := n) (c := c) (vals := vals) (by omega : a < vals.length) h2 h4
      obtain ⟨i1, i2, i3⟩ := go_at hc n b g3
      rw [g4]
      refine ⟨fun r hr => ?_, by simpa using i2, i3⟩
      rcases List.mem_cons.mp hr with rfl | hr
      · exact ⟨h1, g1⟩
      · exact i1 r hr
theorem go_same {c : Nat} {vals vals' : List Nat} (hc : c ≤ vals.length) (hc' : c ≤ vals'.length) : ∀ (n : Nat) (p : PV), Fw n c p → (∀ r ∈ (go n vals p).1, vals'[r.1]? = some r.2) → go n vals' p = go n vals p
  | 0, p, w, _ => by
    obtain ⟨v, h, rfl⟩ := w
    rw [go_int, go_int]
  | n + 1, p, w, h => by
    rcases w with ⟨v, _, rfl⟩ | ⟨a, bs, h1, h2, h3, h4, rfl⟩
    · rw [go_int, go_int]
    · obtain ⟨v, b, g1, g2, g3, g4⟩ := go_tup (n := n) (c := c) (vals := vals) (by omega : a < vals.length) h2 h4
      obtain ⟨v', b', g1', g2', g3', g4'⟩ := go_tup (n := n) (c := c) (vals := vals') (by omega : a < vals'.length) h2 h4
      rw [g4] at h ⊢
      have e := h (a, v) (by simp)
      rw [g1'] at e
      cases e
      rw [g2] at g2'
      cases g2'
      rw [g4', go_same hc hc' n b g3 fun r hr => h r (by simp [hr])]
theorem tv_app : ∀ (fs gs : List PV) (r : List Nat), tv (fs ++ gs) r = tv gs (tv fs r)
  | [], gs, r => rfl
  | p :: fs, gs, r => tv_app fs gs _
theorem tv_pre : ∀ (gs : List PV) (r : List Nat), ∃ s, tv gs r = r ++ s
  | [], r => ⟨[], by simp [tv]⟩
  | p :: gs, r => by
    obtain ⟨s, h⟩ := tv_pre gs (r ++ [(go 3 r p).2])
    exact ⟨_, h.trans (List.append_assoc ..)⟩
theorem tbl_app : ∀ (fs gs : List PV) (r : List Nat) (acc : List PV), tbl (fs ++ gs) r acc = tbl gs (tv fs r) (tbl fs r acc)
  | [], gs, r, acc => rfl
  | p :: fs, gs, r, acc => tbl_app fs gs _ _
theorem tbl_pre : ∀ (gs : List PV) (r : List Nat) (acc : List PV), ∃ s, tbl gs r acc = acc ++ s
  | [], r, acc => ⟨[], by simp [tbl]⟩
  | p :: gs, r, acc => by
    obtain ⟨s, h⟩ := tbl_pre gs (r ++ [(go 3 r p).2]) (acc ++ [tc (go 3 r p)])
    exact ⟨_, h.trans (List.append_assoc ..)⟩
section
variable {inp : Nat} {fs : List PV} {r : List Nat} {i : Nat} {p : PV}
theorem split_at {α : Type} {xs : List α} {i : Nat} {x : α} (h : xs[i]? = some x) : xs = xs.take i ++ x :: xs.drop (i + 1) := by
  obtain ⟨hl, rfl⟩ := List.getElem?_eq_some_iff.mp h
  rw [List.getElem_cons_drop hl, List.take_append_drop]
/-- a cell's own row -/
theorem cell_at (hs : Sh inp fs) (hr : r.length = inp) (hp : fs[i]? = some p) : (tv fs r)[inp + i]? = some (go 3 (tv fs r) p).2 ∧ (tbl fs r (row0 r))[inp + i]? = some (tc (go 3 (tv fs r) p)) := by
  have hi : i < fs.length := (List.getElem?_eq_some_iff.mp hp).1
  have tl : (tv (fs.take i) r).length = inp + i := by rw [tv_len, hr]; simp; omega
  have e := split_at hp
  have e1 : tv fs r = tv (fs.drop (i + 1)) (tv (fs.take i) r ++ [(go 3 (tv (fs.take i) r) p).2]) := by
    conv => lhs; rw [e]
    rw [tv_app]; rfl
  have e2 : tbl fs r (row0 r) = tbl (fs.drop (i + 1)) (tv (fs.take i) r ++ [(go 3 (tv (fs.take i) r) p).2]) (tbl (fs.take i) r (row0 r) ++ [tc (go 3 (tv (fs.take i) r) p)]) := by
    conv => lhs; rw [e]
    rw [tbl_app]; rfl
  obtain ⟨s, h⟩ := tv_pre (fs.drop (i + 1)) (tv (fs.take i) r ++ [(go 3 (tv (fs.take i) r) p).2])
  obtain ⟨s2, h2⟩ := tbl_pre (fs.drop (i + 1)) (tv (fs.take i) r ++ [(go 3 (tv (fs.take i) r) p).2]) (tbl (fs.take i) r (row0 r) ++ [tc (go 3 (tv (fs.take i) r) p)])
  rw [h] at e1
  rw [h2] at e2
  have w := hs.w i p hp
  have g : go 3 (tv fs r) p = go 3 (tv (fs.take i) r) p := by
    refine go_same (by rw [tl]; exact Nat.le_refl _) (by rw [tv_len, hr]; omega) 3 p w fun q hq => ?_
    obtain ⟨h1, h2⟩ := (go_at (by rw [tl]; exact Nat.le_refl _) 3 p w).1 q hq
    rw [e1, List.append_assoc, List.getElem?_append_left (by omega)]
    exact h2
  have tb := (TV.tbl (fs.take i) r _ (TV.row r)).len
  refine ⟨?_, ?_⟩
  · rw [g, e1, List.append_assoc, List.getElem?_append_right (by omega), tl, Nat.sub_self]
    rfl
  · rw [g, e2, List.append_assoc, List.getElem?_append_right (by omega), tb, tl, Nat.sub_self]
    rfl
theorem tv_le (hs : Sh inp fs) (hr : r.length = inp) (h3 : ∀ v ∈ r, v ≤ 3) : ∀ (a v : Nat), (tv fs r)[a]? = some v → v ≤ 3 := by
  intro a v h
  by_cases ha : a < inp
  · obtain ⟨s, e⟩ := tv_pre fs r
    rw [e, List.getElem?_append_left (by omega)] at h
    exact h3 v (List.mem_of_getElem? h)
  · have hl := (List.getElem?_eq_some_iff.mp h).1
    rw [tv_len, hr] at hl
    have hp : fs[a - inp]? = some fs[a - inp] := List.getElem?_eq_getElem (by omega)
    have e := (cell_at hs hr hp).1
    rw [show inp + (a - inp) = a by omega, h] at e
    cases e
    exact (go_at (by rw [tv_len, hr]; omega) 3 _ (hs.w _ _ hp)).2.2
end
/-! reads as data -/
abbrev rdD (r : Nat × Nat) : PyData := .tuple [.int r.1, .int r.2]
theorem toD_rd (n : Nat) (S : Store) (r : Nat × Nat) : toD (n + 2) S (rdP r) = some (rdD r) := rfl
theorem toD_rds (n : Nat) (S : Store) (rs : List (Nat × Nat)) : toD (n + 3) S (.tup (rs.map rdP)) = some (.tuple (rs.map rdD)) := by
  show (optAll (toD (n + 2) S) (rs.map rdP)).map _ = _
  have : optAll (toD (n + 2) S) (rs.map rdP) = some (rs.map rdD) := by
    induction rs with
    | nil => rfl
    | cons r rs ih =>
      simp only [List.map_cons]
      unfold optAll
      rw [ih, toD_rd]
  rw [this]; rfl
theorem okd_rd {r : Nat × Nat} (h1 : r.1 < 12) (h2 : r.2 ≤ 3) : Okd 1 40 (rdD r) :=
  (Okd.tup (k := 0) (L := 14) fun d hd => by
    rcases List.mem_cons.mp hd with rfl | hd
    · exact (Okd.int (by omega)).mono (Nat.le_refl _) (by omega)
    · rcases List.mem_cons.mp hd with rfl | hd
      · exact (Okd.int (by omega)).mono (Nat.le_refl _) (by omega)
      · cases hd).mono (by decide) (Nat.le_of_ble_eq_true rfl)
theorem okd_rds {rs : List (Nat × Nat)} (hl : rs.length ≤ 3) (h : ∀ r ∈ rs, r.1 < 12 ∧ r.2 ≤ 3) : Okd 2 200 (.tuple (rs.map rdD)) :=
  (Okd.tup (k := 1) (L := 40) fun d hd => by
    obtain ⟨r, hr, rfl⟩ := List.mem_map.mp hd
    exact okd_rd (h r hr).1 (h r hr).2).mono (by decide) (by rw [List.length_map]; omega)
theorem okd_due {rs : List (Nat × Nat)} {v : Nat} (hv : v ≤ 3) (hl : rs.length ≤ 3) (h : ∀ r ∈ rs, r.1 < 12 ∧ r.2 ≤ 3) : Okd 4 2000 (.list [.int v, .tuple [.int v, .tuple (rs.map rdD)]]) := by
  have o1 : Okd 0 9 (.int v) := (Okd.int (by omega)).mono (by decide) (by omega)
  have o2 : Okd 3 500 (.tuple [.int v, .tuple (rs.map rdD)]) := (Okd.tup (k := 2) (L := 200) fun d hd => by
    rcases List.mem_cons.mp hd with rfl | hd
    · exact o1.mono (by decide) (by decide)
    · rcases List.mem_cons.mp hd with rfl | hd
      · exact okd_rds hl h
      · cases hd).mono (by decide) (Nat.le_of_ble_eq_true rfl)
  refine (Okd.lst (k := 3) (L := 500) fun d hd => ?_).mono (by decide) (Nat.le_of_ble_eq_true rfl)
  rcases List.mem_cons.mp hd with rfl | hd
  · exact o1.mono (by decide) (by decide)
  · rcases List.mem_cons.mp hd with rfl | hd
    · exact o2
    · cases hd
theorem toD_due {S : Store} {m : Nat} {rs : List (Nat × Nat)} {v : Nat} (h : S[m]? = some (.lst [iN v, .tup [iN v, .tup (rs.map rdP)]])) : toD 66 S (.ref m) = some (.list [.int v, .tuple [.int v, .tuple (rs.map rdD)]]) := by
  unfold toD
  simp only [h]
  have e := toD_rds 61 S rs
  have e2 : toD 65 S (.tup [iN v, .tup (rs.map rdP)]) = some (.tuple [.int v, .tuple (rs.map rdD)]) := by
    show (optAll (toD 64 S) [iN v, .tup (rs.map rdP)]).map _ = _
    unfold optAll
    unfold optAll
    rw [e]
    rfl
  unfold optAll
  unfold optAll
  rw [e2]
  rfl
structure Row (inp : Nat) (r : List Nat) : Prop where
  len : r.length = inp
  le : ∀ v ∈ r, v ≤ 3
abbrev rowP (r : List Nat) : PV := .tup (r.map iN)
theorem eR2 {lo : Int} {n : Nat} {i : Nat} {S : Store} {x : PV} (h : i < n) (e : x = .int (lo + i)) : gR lo n i S = some (some x) := by
  unfold gR; rw [if_pos h, e]
theorem eR0 {lo : Int} {n : Nat} {S : Store} : gR lo n n S = some none := by
  unfold gR; rw [if_neg (Nat.lt_irrefl n)]
end Lw
set_option Elab.async false
set_option linter.all false
set_option maxRecDepth 100000
set_option maxHeartbeats 1000000
namespace Lw
open PySem PySem.Spec PyProof.Rows L2 Lt
theorem keyOf_str (x : Str) : keyOf (.str x) = some (.inr x) := rfl
theorem opt_go (r : PV × Store) (Q : PQ) : opt (some r) Q = Q r.1 r.2 := by
  obtain ⟨a, b⟩ := r
  exact opt_some _ _
local macro_rules | `(tactic| walk_at "go") => `(tactic| try simp only [wSq, wSet, wRet, wDrop, wAsg, wPar, wNx, wIfS, wVar, wC, wOp, wCons, wNil, wB, wNot, wTup, wLst, wCall, wM, wOrT, wAndT, wIf, wNeg, wSl, wNoP, wP, wTru, wSeqI, wR1, wR2, wFor, wWhile, wYes, wDPut, wF, keyOf_str, wDict, wPairs, wLc, wipeP, decide_true, decide_false, Bool.not_true, Bool.not_false, List.isEmpty_nil, List.isEmpty_cons,
  gN, gT, gsC, gsN, Option.bind_some, Option.map_some, List.getElem?_cons_zero, List.getElem?_cons_succ, List.set_cons_zero, List.set_cons_succ, List.map_cons, List.map_nil, List.length_cons, List.length_nil, List.replicate_succ, List.replicate_zero, List.append_nil, List.nil_append, List.cons_append,
  fAdd_ii, fI_ii, Lt.gSub, Lt.gB, opt_go, bMin_ii, bInt_i, bLen_t, fEq_ii, fNe_ii, tru_b, bIsi_tt, bIsi_it])

local macro_rules | `(tactic| walk_at "num") => `(tactic| (try simp (disch := first | omega | decide) only [gMul_l, gMul_r, gDiv_ok, gMod_ok, gPow_1018, Option.map_some, opt_go, fI_ii, fAdd_ii, bInt_i]); walk_at "go")
abbrev jd (f cs : Nat) (sl : Int) (cnt : Nat) : List (Key × PV) := [(.inr "far", .ref f), (.inr "cells", .ref cs), (.inr "seal", .int sl), (.inr "count", .int cnt)]
theorem jd_far (f cs : Nat) (sl : Int) (cnt : Nat) : lookK (.inr "far") (jd f cs sl cnt) = some (.ref f) := rfl
theorem jd_cells (f cs : Nat) (sl : Int) (cnt : Nat) : lookK (.inr "cells") (jd f cs sl cnt) = some (.ref cs) := rfl
theorem jd_seal (f cs : Nat) (sl : Int) (cnt : Nat) : lookK (.inr "seal") (jd f cs sl cnt) = some (.int sl) := rfl
theorem jd_count (f cs : Nat) (sl : Int) (cnt : Nat) : lookK (.inr "count") (jd f cs sl cnt) = some (.int cnt) := rfl
section
variable {j f cs cnt : Nat} {sl : Int} {S : Store} (h : S[j]? = some (.dic (jd f cs sl cnt)))
include h
theorem g_far : fGet (.ref j) (.str "far") S = some (.ref f, S) := fGet_ok (k := .inr "far") rfl h (jd_far f cs sl cnt)
theorem g_cells : fGet (.ref j) (.str "cells") S = some (.ref cs, S) := fGet_ok (k := .inr "cells") rfl h (jd_cells f cs sl cnt)
theorem g_seal : fGet (.ref j) (.str "seal") S = some (.int sl, S) := fGet_ok (k := .inr "seal") rfl h (jd_seal f cs sl cnt)
theorem g_count : fGet (.ref j) (.str "count") S = some (iN cnt, S) := fGet_ok (k := .inr "count") rfl h (jd_count f cs sl cnt)
end
theorem jd_put (f cs : Nat) (sl : Int) (cnt n : Nat) : putP (jd f cs sl cnt) (.inr "count") (.int n) = jd f cs sl n := rfl
/-- the jar -/
def Jar (j f cs B : Nat) (S : Store) : Prop := f ≠ j ∧ cs ≠ j ∧ cs ≠ f ∧ ∃ (sl : Int) (cnt : Nat) (fs cl : List Int), S[j]? = some (.dic (jd f cs sl cnt)) ∧ S[f]? = some (.lst (fs.map .int)) ∧ fs.length ≤ 63 ∧ S[cs]? = some (.lst (cl.map .int)) ∧ 0 < cl.length ∧ cnt ≤ B
theorem Jar.kept {j f cs B B' : Nat} {S S' : Store} (h : Jar j f cs B S) (k : Kp [] S S') (hB : B ≤ B') : Jar j f cs B' S' := by
  obtain ⟨h1, h2, h3, sl, cnt, fs, cl, a, b, c, d, e, g⟩ := h
  exact ⟨h1, h2, h3, sl, cnt, fs, cl, k.at_ _ _ (by simp) a, k.at_ _ _ (by simp) b, c, k.at_ _ _ (by simp) d, e, by omega⟩
theorem Jar.push {j f cs B : Nat} {S : Store} {c : Cell} (h : Jar j f cs B S) : Jar j f cs B (S ++ [c]) := h.kept .push (Nat.le_refl _)
/-- another cell is set -/
theorem Jar.set {j f cs B n : Nat} {S : Store} {c : Cell} (h : Jar j f cs B S) (h1 : n ≠ j) (h2 : n ≠ f) (h3 : n ≠ cs) : Jar j f cs B (S.set n c) := by
  obtain ⟨g1, g2, g3, sl, cnt, fs, cl, a, b, c, d, e, g⟩ := h
  exact ⟨g1, g2, g3, sl, cnt, fs, cl, at_set_ne h1 a, at_set_ne h2 b, c, at_set_ne h3 d, e, g⟩
theorem Jar.lt {j f cs B : Nat} {S : Store} (h : Jar j f cs B S) : j < S.length ∧ f < S.length ∧ cs < S.length := by
  obtain ⟨g1, g2, g3, sl, cnt, fs, cl, a, b, c, d, e, g⟩ := h
  exact ⟨lt_of_at a, lt_of_at b, lt_of_at d⟩
def cDr : Con := conG (G := Nat × Nat × Nat × Nat × Nat) (fun g xs S => xs = [.ref g.1, iN g.2.2.2.2] ∧ Jar g.1 g.2.1 g.2.2.1 g.2.2.2.1 S ∧ g.2.2.2.1 < 2 ^ 60 ∧ 0 < g.2.2.2.2 ∧ g.2.2.2.2 < 1000000)
  (fun g xs S x S' => ∃ d : Nat, d < g.2.2.2.2 ∧ x = iN d ∧ Jar g.1 g.2.1 g.2.2.1 (g.2.2.2.1 + 1) S' ∧ Kp [g.1, g.2.1] S S')
theorem mod_nat (z : Int) {m : Nat} (h : 0 < m) : ∃ d : Nat, d < m ∧ z % (m : Int) = (d : Int) := by
  refine ⟨(z % (m : Int)).toNat, ?_, ?_⟩
  · have := Int.emod_nonneg z (show (m : Int) ≠ 0 by omega)
    have := Int.emod_lt_of_pos z (show (0 : Int) < m by omega)
    omega
  · have := Int.emod_nonneg z (show (m : Int) ≠ 0 by omega)
    omega
theorem ty_l' {n : Nat} {xs : List PV} {S : Store} (h : S[n]? = some (.lst xs)) : tyOk "list" (.ref n) S := ty_l h rfl
theorem pop_at {xs : List PV} {i : Nat} {y : PV} (h : xs[i]? = some y) (hl : xs.length < 2 ^ 60) : gPop xs [.int i] = some (xs.eraseIdx i, y) := by
  have hi : i < xs.length := (List.getElem?_eq_some_iff.mp h).1
  have e : seqIndex? (i : Int) xs.length = some i := by
    unfold seqIndex?
    have : ¬ ((i : Int) < 0) := by omega
    simp only [this, if_false]
    rw [if_pos (by simp; omega)]
    rfl
  unfold gPop
  dsimp only
  rw [if_pos ⟨by omega, by omega⟩]
  simp only [e, h, Option.map_some]
theorem ins0 {xs : List PV} {y : PV} (h : xs.length < 16777216) : gInsert xs [.int 0, y] = some (y :: xs, .non) := by
  unfold gInsert
  dsimp only
  rw [if_pos ⟨sl_lt h, by omega, by omega⟩]
  rfl
theorem pl_law_draw (xs : List PV) (S0 : Store) (P : PQ) (h : cDr xs S0 P) : b_law_draw (xs.map some ++ List.replicate (N_law_draw.length - xs.length) none) S0 ⟨fun _ S' => P .non S', P, fun _ _ => False, fun _ _ => False⟩ := by
  obtain ⟨⟨j, f, cs, B, many⟩, ⟨rfl, hj, hB, hm, hm2⟩, hP⟩ := h
  dsimp only at *
  have hj0 := hj
  obtain ⟨n1, n2, n3, sl, cnt, fs, cl, a, b, c, d, e, g⟩ := hj
  unfold b_law_draw
  walk_at "go"
  rw [g_far a]
  walk_at "go"
  refine ⟨sl_le (by decide), ?_⟩
  rw [fNe_ints_nil (at_old b) (at_new _ _)]
  walk_at "go"
  cases fs with
  | cons z zs =>
    walk_at "go"
    refine ⟨ty_l' (at_old b), ?_⟩
    have p0 : gPop ((z :: zs).map PV.int) [.int 0] = some (zs.map .int, .int z) := pop_at (i := 0) (y := .int z) rfl (by simp at c ⊢; omega)
    rw [onL_ok (at_old b) p0]
    walk_at "go"
    obtain ⟨dd, hd, ed⟩ := mod_nat z hm
    have b1 : (List.set (S0 ++ [Cell.lst []]) f (.lst (zs.map .int)))[f]? = some (.lst (zs.map .int)) := at_set (at_old b)
    by_cases hz : (many : Int) ≤ z
    · rw [decide_eq_true hz]
      walk_at "go"
      refine ⟨ty_l' b1, ?_⟩
      walk_at "num"
      rw [onL_ok b1 (ins0 (y := .int (z / (many : Int))) (by simp at c ⊢; omega))]
      walk_at "num"
      rw [ed]
      refine hP _ _ ⟨dd, hd, rfl, ⟨n1, n2, n3, sl, cnt, (z / (many : Int)) :: zs, cl, at_set_ne n1 (at_set_ne n1 (at_old a)), (at_set b1).trans rfl, by simpa using c, at_set_ne n3.symm (at_set_ne n3.symm (at_old d)), e, by omega⟩, (Kp.push.trans (.set (by simp))).trans (.set (by simp))⟩
    · rw [decide_eq_false hz]
      walk_at "num"
      rw [ed]
      refine hP _ _ ⟨dd, hd, rfl, ⟨n1, n2, n3, sl, cnt, zs, cl, at_set_ne n1 (at_old a), b1, by simp at c; omega, at_set_ne n3.symm (at_old d), e, by omega⟩, Kp.push.trans (.set (by simp))⟩
  | nil =>
    walk_at "go"
    rw [g_count (at_old a)]
    walk_at "go"
    simp only [at_old a]
    refine ⟨sl_lt (Nat.le_of_ble_eq_true rfl), ?_⟩
    rw [show ((cnt : Int) + 1) = ((cnt + 1 : Nat) : Int) from rfl, jd_put]
    have a' : (List.set (S0 ++ [Cell.lst []]) j (.dic (jd f cs sl (cnt + 1))))[j]? = some (.dic (jd f cs sl (cnt + 1))) := at_set (at_old a)
    have d' : (List.set (S0 ++ [Cell.lst []]) j (.dic (jd f cs sl (cnt + 1))))[cs]? = some (.lst (cl.map .int)) := at_set_ne n2.symm (at_old d)
    have b' : (List.set (S0 ++ [Cell.lst []]) j (.dic (jd f cs sl (cnt + 1))))[f]? = some (.lst (([] : List Int).map .int)) := at_set_ne n1.symm (at_old b)
    have kk : Kp [j, f] S0 (List.set (S0 ++ [Cell.lst []]) j (.dic (jd f cs sl (cnt + 1)))) := Kp.push.trans (.set (by simp))
    generalize (List.set (S0 ++ [Cell.lst []]) j (.dic (jd f cs sl (cnt + 1)))) = S1 at *
    rw [g_count a']
    walk_at "go"
    rw [g_cells a']
    walk_at "go"
    rw [g_seal a']
    walk_at "go"
    rw [bLen_l d' rfl]
    walk_at "go"
    rw [List.length_map]
    rw [gMod_ok (by omega)]
    walk_at "go"
    obtain ⟨q, hq, eq⟩ := mod_nat ((cnt + 1 : Nat) : Int) e
    rw [eq, fIx_l d' rfl (j := q) (x := .int cl[q]) (by rw [List.getElem?_map, List.getElem?_eq_getElem hq]; rfl)]
    walk_at "num"
    have key : ∀ z : Int, P (.int (z % (many : Int))) S1 := fun z => by
      obtain ⟨dd, hd, ed⟩ := mod_nat z hm
      rw [ed]
      exact hP _ _ ⟨dd, hd, rfl, ⟨n1, n2, n3, sl, cnt + 1, [], cl, a', b', by decide, d', e, by omega⟩, kk⟩
    exact key _
end Lw
set_option Elab.async false
set_option linter.all false
set_option maxRecDepth 100000
set_option maxHeartbeats 1000000
namespace Lw
open PySem PySem.Spec PyProof.Rows L2 Lt
local macro_rules | `(tactic| walk_at "go") => `(tactic| try simp only [wSq, wSet, wRet, wDrop, wAsg, wPar, wNx, wIfS, wVar, wC, wOp, wCons, wNil, wB, wNot, wTup, wLst, wCall, wM, wOrT, wAndT, wIf, wNeg, wSl, wNoP, wP, wTru, wSeqI, wR1, wR2, wFor, wWhile, wYes, wDPut, wF, keyOf_str, wDict, wPairs, wLc, wipeP, decide_true, decide_false, Bool.not_true, Bool.not_false, List.isEmpty_nil, List.isEmpty_cons,
  gN, gT, gsC, gsN, Option.bind_some, Option.map_some, List.getElem?_cons_zero, List.getElem?_cons_succ, List.set_cons_zero, List.set_cons_succ, List.map_cons, List.map_nil, List.length_cons, List.length_nil, List.replicate_succ, List.replicate_zero, List.append_nil, List.nil_append, List.cons_append,
  fAdd_ii, fI_ii, Lt.gSub, Lt.gB, opt_go, bMin_ii, bInt_i, bLen_t, fEq_ii, fNe_ii, tru_b, bIsi_tt, bIsi_it])

local macro_rules | `(tactic| walk_at "num") => `(tactic| (walk_at "go"; try simp (disch := first | omega | decide) only [gMul_l, gMul_r, gDiv_ok, gMod_ok, gPow_1018, Option.map_some, opt_go, fI_ii, fAdd_ii, bInt_i]); walk_at "go")
/-! jar -/
def cJar : Con := conG (G := List Int) (fun g xs S => xs = [.ref 0] ∧ S[0]? = some (.ro (g.map .int)) ∧ g.length ≤ 63)
  (fun g xs S x S' => ∃ j f cs, x = .ref j ∧ Jar j f cs 0 S')
theorem cutP_int (ns : List Int) (lo hi : Option Int) : ∃ ms : List Int, cutP (ns.map PV.int) lo hi = ms.map .int ∧ ms.length ≤ ns.length :=
  ⟨_, by unfold cutP; rw [← List.map_drop, ← List.map_take], by simp; omega⟩
theorem fSl_l {n : Nat} {c : Cell} {xs : List PV} {lo hi : Option Int} {S : Store} (h : S[n]? = some c) (hx : c.items = some xs) : fSl (.ref n) lo hi S = some (.ref S.length, S ++ [.lst (cutP xs lo hi)]) := by
  unfold fSl
  simp only [h, hx]
theorem eGL {n i : Nat} {c : Cell} {xs : List PV} {S : Store} (h : S[n]? = some c) (hx : c.items = some xs) : gL n i S = some xs[i]? := by
  unfold gL
  simp only [h, hx]
theorem at_int {ns : List Int} {i : Nat} {v : Int} (h : ns[i]? = some v) : (ns.map PV.int)[i]? = some (.int v) := by rw [List.getElem?_map, h]; rfl
theorem fAdd_ll' {n m : Nat} {xs ys : List PV} {S : Store} (h1 : S[n]? = some (.lst xs)) (h2 : S[m]? = some (.lst ys)) (h : xs.length + ys.length ≤ 16777216) : fAdd (.ref n) (.ref m) S = some (.ref S.length, S ++ [.lst (xs ++ ys)]) := fAdd_ll h1 h2 h
theorem seqI_go {n : Nat} {c : Cell} {xs : List PV} {S : Store} (h : S[n]? = some c) (hx : c.items = some xs) {R : Prop} (hR : R) : (∃ c xs, S[n]? = some c ∧ c.items = some xs) ∧ R := ⟨⟨c, xs, h, hx⟩, hR⟩
theorem jd_fold (f cs : Nat) (sl : Int) (cnt : Nat) : ([(.inr "far", .ref f), (.inr "cells", .ref cs), (.inr "seal", .int sl), (.inr "count", .int cnt)] : List (Key × PV)).foldl (fun acc kv => putP acc kv.1 kv.2) [] = jd f cs sl cnt := rfl
theorem pl_law_jar (xs : List PV) (S0 : Store) (P : PQ) (h : cJar xs S0 P) : b_law_jar (xs.map some ++ List.replicate (N_law_jar.length - xs.length) none) S0 ⟨fun _ S' => P .non S', P, fun _ _ => False, fun _ _ => False⟩ := by
  obtain ⟨ns, ⟨rfl, h0, hl⟩, hP⟩ := h
  dsimp only at *
  unfold b_law_jar
  walk_at "go"
  rw [fSl_l h0 rfl]
  walk_at "go"
  obtain ⟨ms, em, lm⟩ := cutP_int ns none (some 63)
  rw [em]
  refine seqI_go (at_new _ _) rfl ?_
  have s1 : (S0 ++ [Cell.lst (ms.map .int)])[S0.length]? = some (.lst (ms.map .int)) := at_new _ _
  have z1 := at_old (c := .lst (ms.map .int)) h0
  have l1 : (S0 ++ [Cell.lst (ms.map .int)]).length = S0.length + 1 := by simp
  generalize (S0 ++ [Cell.lst (ms.map .int)]) = S1 at *
  refine lc_inv (n := ms.length) (fun i S => Kp [] S1 S ∧ S1.length < S.length ∧ ∃ cl : List Int, cl.length = i ∧ S[S1.length]? = some (.lst (cl.map .int))) ?_ ?_ ⟨.push, by simp, [], rfl, at_new _ _⟩
  · rintro i S hi ⟨q1, q2, cl, q3, q4⟩
    have hm : ms[i]? = some ms[i] := List.getElem?_eq_getElem hi
    generalize hv : ms[i] = v at hm
    refine ⟨.int v, _, (eGL (q1.at_ _ _ (by simp) s1) rfl).trans (congrArg some (at_int hm)), rfl, fun Qt Qe hq _ ht => ?_⟩
    walk_at "go"
    refine ht _ ?_
    have fin : ∀ u : Int, Qe (.int u) S := fun u => hq _ _ _ q4 (sl_lt (by simp; omega)) ⟨q1.set_new (Nat.le_refl _), by simpa using q2, cl ++ [u], by simp [q3], by rw [at_set q4]; simp⟩
    walk_at "go"
    by_cases hz : 0 ≤ v
    · rw [decide_eq_true hz]
      walk_at "num"
      exact fin _
    · rw [decide_eq_false hz]
      walk_at "num"
      exact fin _
  rintro S ⟨q1, q2, cl, q3, q4⟩
  refine ⟨(eGL (q1.at_ _ _ (by simp) s1) rfl).trans (congrArg some (by simp)), ?_⟩
  walk_at "go"
  have z2 := q1.at_ _ _ (by simp) z1
  rw [bLen_l z2 rfl]
  walk_at "num"
  refine seqI_go q4 rfl ?_
  generalize S1.length = d at *
  refine loop_inv (n := cl.length) (fun i env S' => ∃ (sl : Int) (e3 : Option PV), env = [some (.ref 0), some (.ref d), some (.int sl), e3, none] ∧ S' = S) ?_ ?_ ⟨_, _, rfl, rfl⟩
  · rintro i env S' hi ⟨sl, e3, rfl, rfl⟩
    have hm : cl[i]? = some cl[i] := List.getElem?_eq_getElem hi
    refine ⟨.int cl[i], _, (eGL q4 rfl).trans (congrArg some (at_int hm)), rfl, fun D' hnx _ _ _ => ?_⟩
    walk_at "num"
    exact hnx _ _ ⟨_, _, rfl, rfl⟩
  rintro env S' ⟨sl, e3, rfl, rfl⟩
  refine ⟨(eGL q4 rfl).trans (congrArg some (by simp)), ?_⟩
  walk_at "go"
  refine seqI_go q4 rfl ?_
  refine lc_inv (n := cl.length) (fun i S => Kp [] S' S ∧ S'.length < S.length ∧ ∃ fl : List Int, fl.length ≤ i ∧ S[S'.length]? = some (.lst (fl.map .int))) ?_ ?_ ⟨.push, by simp, [], Nat.le_refl _, at_new _ _⟩
  · rintro i S hi ⟨p1, p2, fl, p3, p4⟩
    have hm : cl[i]? = some cl[i] := List.getElem?_eq_getElem hi
    generalize hv : cl[i] = v at hm
    refine ⟨.int v, _, (eGL (p1.at_ _ _ (by simp) q4) rfl).trans (congrArg some (at_int hm)), rfl, fun Qt Qe hq hn ht => ?_⟩
    walk_at "num"
    by_cases hz : 1000000000000000000 ≤ v
    · rw [decide_eq_true hz]
      refine ht _ ?_
      walk_at "go"
      exact hq _ _ _ p4 (sl_lt (by simp; omega)) ⟨p1.set_new (Nat.le_refl _), by simpa using p2, fl ++ [v], by simp; omega, by rw [at_set p4]; simp⟩
    · rw [decide_eq_false hz]
      exact hn _ ⟨p1, p2, fl, by omega, p4⟩
  rintro S ⟨p1, p2, fl, p3, p4⟩
  refine ⟨(eGL (p1.at_ _ _ (by simp) q4) rfl).trans (congrArg some (by simp)), ?_⟩
  have q5 := p1.at_ _ _ (by simp) q4
  walk_at "go"
  rw [bLen_l (at_old q5) rfl]
  walk_at "num"
  refine ⟨sl_le (by decide), ?_⟩
  rw [fAdd_ll' (at_old (at_old q5)) (at_new _ _) (by simp; omega)]
  walk_at "go"
  refine ⟨?_, by decide, ?_⟩
  · exact at_old (at_old (at_new _ _))
  generalize (7 : Int) * ((cl.map PV.int).length : Int) + 3 = u
  have e2 : (S ++ [Cell.dic []] ++ [Cell.lst [PV.int u]]).length = S.length + 2 := by simp
  rw [e2]
  have c0 : (S ++ [Cell.dic []] ++ [Cell.lst [PV.int u]] ++ [Cell.lst (cl.map PV.int ++ [PV.int u])])[S.length]? = some (.dic []) := at_old (at_old (at_new _ _))
  have c1 : (S ++ [Cell.dic []] ++ [Cell.lst [PV.int u]] ++ [Cell.lst (cl.map PV.int ++ [PV.int u])])[S.length + 2]? = some (.lst ((cl ++ [u]).map PV.int)) := by
    rw [← e2, at_new]
    simp
  have c2 : (S ++ [Cell.dic []] ++ [Cell.lst [PV.int u]] ++ [Cell.lst (cl.map PV.int ++ [PV.int u])])[S'.length]? = some (.lst (fl.map PV.int)) := at_old (at_old (at_old p4))
  generalize (S ++ [Cell.dic []] ++ [Cell.lst [PV.int u]] ++ [Cell.lst (cl.map PV.int ++ [PV.int u])]) = S9 at *
  exact hP _ _ ⟨S.length, S'.length, S.length + 2, rfl, by omega, by omega, by omega, sl, 0, fl, cl ++ [u], (at_set c0).trans rfl, at_set_ne (by omega) c2, by omega, at_set_ne (by omega) c1, by simp, Nat.le_refl _⟩
/-! pick -/
def cPk : Con := conG (G := Nat × Nat × Nat × Nat × Nat × List PV) (fun g xs S => xs = [.ref g.1, .ref g.2.2.2.2.1] ∧ Jar g.1 g.2.1 g.2.2.1 g.2.2.2.1 S ∧ g.2.2.2.1 < 2 ^ 60 ∧ S[g.2.2.2.2.1]? = some (.lst g.2.2.2.2.2) ∧ 0 < g.2.2.2.2.2.length ∧ g.2.2.2.2.2.length < 1000000 ∧ g.2.2.2.2.1 ≠ g.1 ∧ g.2.2.2.2.1 ≠ g.2.1)
  (fun g xs S x S' => x ∈ g.2.2.2.2.2 ∧ Jar g.1 g.2.1 g.2.2.1 (g.2.2.2.1 + 1) S' ∧ Kp [g.1, g.2.1] S S')
theorem pl_law_pick (xs : List PV) (S0 : Store) (P : PQ) (h : cPk xs S0 P) : b_law_pick cDr (xs.map some ++ List.replicate (N_law_pick.length - xs.length) none) S0 ⟨fun _ S' => P .non S', P, fun _ _ => False, fun _ _ => False⟩ := by
  obtain ⟨⟨j, f, cs, B, m, ys⟩, ⟨rfl, hj, hB, hm, h1, h2, h3, h4⟩, hP⟩ := h
  dsimp only at *
  unfold b_law_pick
  walk_at "go"
  rw [bLen_l hm rfl]
  walk_at "go"
  refine con_g (j, f, cs, B, ys.length) ⟨rfl, hj, hB, h1, h2⟩ ?_
  rintro x S1 ⟨d, hd, rfl, hj1, k1⟩
  dsimp only at *
  have hm1 := k1.at_ _ _ (by simp [h3, h4]) hm
  have hy : ys[d]? = some ys[d] := List.getElem?_eq_getElem hd
  rw [fIx_l hm1 rfl hy]
  exact hP _ _ ⟨List.getElem_mem hd, hj1, k1⟩
/-! rows -/
def Rows (inp : Nat) (ys : List PV) : Prop := ∀ y ∈ ys, ∃ r, Row inp r ∧ y = rowP r
def cLo : Con := conG (G := Nat × Nat × List PV) (fun g xs S => xs = [.ref g.2.1] ∧ S[g.2.1]? = some (.lst g.2.2) ∧ Rows g.1 g.2.2 ∧ 0 < g.2.2.length ∧ g.2.2.length ≤ 4 ^ g.1 ∧ g.1 < 3)
  (fun g xs S x S' => Kp [] S S' ∧ ∃ m ys, x = .ref m ∧ S.length ≤ m ∧ S'[m]? = some (.lst ys) ∧ Rows (g.1 + 1) ys ∧ 0 < ys.length ∧ ys.length ≤ 4 ^ (g.1 + 1))
theorem ext_ok {n m : Nat} {xs ys : List PV} {S : Store} (h1 : S[n]? = some (.lst xs)) (h2 : S[m]? = some (.lst ys)) (h : xs.length + ys.length ≤ 16777216) : mExtend (.ref n) [.ref m] S = some (.non, S.set n (.lst (xs ++ ys))) := by
  unfold mExtend
  simp only [h1, h2]
  exact if_pos (sl_le h)
theorem pl_law_longer (xs : List PV) (S0 : Store) (P : PQ) (h : cLo xs S0 P) : b_law_longer (xs.map some ++ List.replicate (N_law_longer.length - xs.length) none) S0 ⟨fun _ S' => P .non S', P, fun _ _ => False, fun _ _ => False⟩ := by
  obtain ⟨⟨k, m, ys⟩, ⟨rfl, hm, hr, h1, h2, h3⟩, hP⟩ := h
  dsimp only at *
  have p4 : 4 ^ k ≤ 16 := by
    rcases (by omega : k = 0 ∨ k = 1 ∨ k = 2) with rfl | rfl | rfl <;> decide
  unfold b_law_longer
  walk_at "go"
  refine ⟨sl_le (by decide), ?_⟩
  refine seqI_go (at_old hm) rfl ?_
  refine loop_inv (n := ys.length) (fun i env S => ∃ e2 zs, env = [some (.ref m), some (.ref S0.length), e2, none] ∧ Kp [] S0 S ∧ S0.length < S.length ∧ S[S0.length]? = some (.lst zs) ∧ Rows (k + 1) zs ∧ zs.length = 4 * i) ?_ ?_ ⟨none, [], rfl, .push, by simp, at_new _ _, fun y hy => (List.not_mem_nil hy).elim, rfl⟩
  · rintro i env S hi ⟨e2, zs, rfl, q1, q2, q3, q4, q5⟩
    have hy : ys[i]? = some ys[i] := List.getElem?_eq_getElem hi
    obtain ⟨r, hr1, er⟩ := hr _ (List.getElem_mem hi)
    have hm1 := q1.at_ _ _ (by simp) hm
    refine ⟨ys[i], _, (eGL hm1 rfl).trans (congrArg some hy), rfl, fun D' hnx _ _ _ => ?_⟩
    rw [er]
    walk_at "go"
    refine ⟨ty_l' q3, sl_le (by decide), ?_⟩
    refine lc_inv (n := 4) (fun t S' => Kp [] S S' ∧ S.length < S'.length ∧ ∃ ws, S'[S.length]? = some (.lst ws) ∧ Rows (k + 1) ws ∧ ws.length = t) ?_ ?_ ⟨.push, by simp, [], at_new _ _, fun y hy => (List.not_mem_nil hy).elim, rfl⟩
    · rintro t S' ht ⟨p1, p2, ws, p3, p5, p6⟩
      have hv : ([PV.int 0, .int 1, .int 2, .int 3] : List PV)[t]? = some (iN t) := by
        rcases (by omega : t = 0 ∨ t = 1 ∨ t = 2 ∨ t = 3) with rfl | rfl | rfl | rfl <;> rfl
      refine ⟨iN t, _, congrArg some hv, rfl, fun Qt Qe hq _ ht' => ?_⟩
      walk_at "go"
      refine ht' _ ?_
      walk_at "go"
      refine ⟨sl_le (by decide), ?_⟩
      rw [fAdd_tt (by simp [hr1.len]; omega)]
      walk_at "go"
      refine hq _ _ _ p3 (sl_lt (by omega)) ⟨p1.set_new (Nat.le_refl _), by simpa using p2, ws ++ [rowP (r ++ [t])], by rw [at_set p3]; simp, fun y hy => ?_, by simp [p6]⟩
      rcases List.mem_append.mp hy with hy | hy
      · exact p5 y hy
      · rw [List.mem_singleton] at hy
        refine ⟨r ++ [t], ⟨by simp [hr1.len], fun v hv => ?_⟩, hy⟩
        rcases List.mem_append.mp hv with hv | hv
        · exact hr1.le v hv
        · rw [List.mem_singleton] at hv; omega
    rintro S' ⟨p1, p2, ws, p3, p5, p6⟩
    refine ⟨rfl, ?_⟩
    have q6 := p1.at_ _ _ (by simp) q3
    rw [ext_ok q6 p3 (by omega)]
    walk_at "go"
    refine hnx _ _ ⟨_, zs ++ ws, rfl, (q1.trans p1).set_new (Nat.le_refl _), by simpa using Nat.lt_of_lt_of_le q2 p1.le, at_set q6, fun y hy => ?_, by simp [q5, p6]; omega⟩
    rcases List.mem_append.mp hy with hy | hy
    · exact q4 y hy
    · exact p5 y hy
  · rintro env S ⟨e2, zs, rfl, q1, q2, q3, q4, q5⟩
    refine ⟨(eGL (q1.at_ _ _ (by simp) hm) rfl).trans (congrArg some (by simp)), ?_⟩
    walk_at "go"
    exact hP _ _ ⟨q1, _, zs, rfl, Nat.le_refl _, q3, q4, by omega, by rw [q5, Nat.pow_succ]; omega⟩
def cRo : Con := conG (G := Nat) (fun g xs S => xs = [iN g] ∧ g ≤ 3)
  (fun g xs S x S' => Kp [] S S' ∧ ∃ m ys, x = .ref m ∧ S.length ≤ m ∧ S'[m]? = some (.lst ys) ∧ Rows g ys ∧ 0 < ys.length ∧ ys.length ≤ 64)
theorem pl_law_rows (xs : List PV) (S0 : Store) (P : PQ) (h : cRo xs S0 P) : b_law_rows cLo (xs.map some ++ List.replicate (N_law_rows.length - xs.length) none) S0 ⟨fun _ S' => P .non S', P, fun _ _ => False, fun _ _ => False⟩ := by
  obtain ⟨inp, ⟨rfl, h3⟩, hP⟩ := h
  dsimp only at *
  unfold b_law_rows
  walk_at "go"
  refine ⟨sl_le (by decide), sl_le (by decide), ⟨by omega, by omega⟩, ?_⟩
  rw [Int.toNat_natCast]
  refine loop_inv (n := inp) (fun i env S => ∃ e2 m ys, env = [some (iN inp), some (.ref m), e2] ∧ S0.length ≤ m ∧ Kp [] S0 S ∧ S[m]? = some (.lst ys) ∧ Rows i ys ∧ 0 < ys.length ∧ ys.length ≤ 4 ^ i) ?_ ?_ ⟨none, S0.length, [rowP []], rfl, Nat.le_refl _, .push, at_new _ _, fun y hy => ⟨[], ⟨rfl, fun v hv => (List.not_mem_nil hv).elim⟩, by simpa using hy⟩, by decide, by decide⟩
  · rintro i env S hi ⟨e2, m, ys, rfl, q0, q1, q2, q3, q4, q5⟩
    refine ⟨_, _, eR2 hi rfl, rfl, fun D' hnx _ _ _ => ?_⟩
    walk_at "go"
    refine con_g (i, m, ys) ⟨rfl, q2, q3, q4, q5, by show i < 3; omega⟩ ?_
    rintro x S1 ⟨k1, m1, zs, rfl, z0, z1, z2, z3, z4⟩
    exact hnx _ _ ⟨_, m1, zs, rfl, Nat.le_trans q1.le z0, q1.trans k1, z1, z2, z3, z4⟩
  · rintro env S ⟨e2, m, ys, rfl, q0, q1, q2, q3, q4, q5⟩
    refine ⟨eR0, ?_⟩
    walk_at "go"
    have p4 : 4 ^ inp ≤ 64 := by
      rcases (by omega : inp = 0 ∨ inp = 1 ∨ inp = 2 ∨ inp = 3) with rfl | rfl | rfl | rfl <;> decide
    exact hP _ _ ⟨q1, m, ys, rfl, q0, q2, q3, q4, by omega⟩
end Lw
set_option Elab.async false
set_option linter.all false
set_option maxRecDepth 100000
set_option maxHeartbeats 1000000
namespace Lw
open PySem PySem.Spec PyProof.Rows L2 Lt
local macro_rules | `(tactic| walk_at "go") => `(tactic| try simp only [wSq, wSet, wRet, wDrop, wAsg, wPar, wNx, wIfS, wVar, wC, wOp, wCons, wNil, wB, wNot, wTup, wLst, wCall, wM, wOrT, wAndT, wIf, wNeg, wSl, wNoP, wP, wTru, wSeqI, wR1, wR2, wFor, wWhile, wYes, wDPut, wF, keyOf_str, wDict, wPairs, wLc, wipeP, decide_true, decide_false, Bool.not_true, Bool.not_false, List.isEmpty_nil, List.isEmpty_cons,
  gN, gT, gsC, gsN, Option.bind_some, Option.map_some, List.getElem?_cons_zero, List.getElem?_cons_succ, List.set_cons_zero, List.set_cons_succ, List.map_cons, List.map_nil, List.length_cons, List.length_nil, List.replicate_succ, List.replicate_zero, List.append_nil, List.nil_append, List.cons_append,
  fAdd_ii, fI_ii, Lt.gSub, Lt.gB, opt_go, bMin_ii, bInt_i, bLen_t, fEq_ii, fNe_ii, tru_b, bIsi_tt, bIsi_it])

/-! mixed -/
theorem optAll_map' {α : Type} {f : PV → Option PyData} {h : α → PV} {g : α → PyData} : ∀ (xs : List α), (∀ x ∈ xs, f (h x) = some (g x)) → optAll f (xs.map h) = some (xs.map g)
  | [], _ => rfl
  | x :: xs, q => by
    simp only [List.map_cons]
    unfold optAll
    rw [q x (by simp), optAll_map' xs fun y hy => q y (List.mem_cons_of_mem _ hy)]
theorem rows_data (S : Store) {inp : Nat} (hi : inp ≤ 3) : ∀ {xs : List PV}, Rows inp xs → ∃ ds, optAll (toD 65 S) xs = some ds ∧ ds.length = xs.length ∧ ∀ d ∈ ds, Okd 1 30 d
  | [], _ => ⟨[], rfl, rfl, fun d h => (List.not_mem_nil h).elim⟩
  | y :: xs, h => by
    obtain ⟨ds, h1, h2, h3⟩ := rows_data S hi (xs := xs) fun z hz => h z (List.mem_cons_of_mem _ hz)
    obtain ⟨r, hr, rfl⟩ := h y (by simp)
    have e : toD 65 S (rowP r) = some (.tuple (r.map fun v : Nat => PyData.int v)) := by
      show (optAll (toD 64 S) (r.map iN)).map _ = _
      rw [optAll_map' (g := fun v : Nat => PyData.int v) r fun v _ => rfl]
      rfl
    refine ⟨_ :: ds, by unfold optAll; rw [e, h1], by simp [h2], fun d hd => ?_⟩
    rcases List.mem_cons.mp hd with rfl | hd
    · refine (Okd.tup (k := 0) (L := 5) fun d hd => ?_).mono (by decide) (by rw [List.length_map, hr.len]; omega)
      obtain ⟨v, hv, rfl⟩ := List.mem_map.mp hd
      have := hr.le v hv
      exact (Okd.int (by omega)).mono (by decide) (by omega)
    · exact h3 d hd
theorem fNe_rows {S : Store} {inp l e : Nat} {xs : List PV} (hi : inp ≤ 3) (hr : Rows inp xs) (h1 : S[l]? = some (.lst xs)) (h2 : S[e]? = some (.lst [])) : fNe (.ref l) (.ref e) S = some (.bl (!xs.isEmpty), S) := by
  obtain ⟨ds, d1, d2, d3⟩ := rows_data S hi hr
  have t : toD 66 S (.ref l) = some (.list ds) := by
    unfold toD
    simp only [h1]
    rw [d1]; rfl
  rw [fNe_nil t d3 (by decide) h2]
  cases ds <;> cases xs <;> simp_all
abbrev mx_t : WT := (wB (wOp fNe (wVar 2) (wLst wNil)))
abbrev mx_b : WS := (wDrop (wM "list" (onL gAppend) (wVar 3) (wCons (wM "list" (onL gPop) (wVar 2) (wCons (wF cDr (wCons (wVar 0) (wCons (wCall bLen (wCons (wVar 2) wNil)) wNil))) wNil)) wNil)))
theorem mx_loop {D : PEnds} {j f cs l r inp : Nat} {s1 : Option PV} {all : List PV} (hi : inp ≤ 3) (hra : Rows inp all) (hlr : l ≠ r) (h1 : l ≠ j ∧ l ≠ f ∧ l ≠ cs) (h2 : r ≠ j ∧ r ≠ f ∧ r ≠ cs) : ∀ (n : Nat) (left found : List PV) (B : Nat) (S : Store), left.length = n → (∀ y ∈ left, y ∈ all) → (∀ y ∈ found, y ∈ all) → n + found.length ≤ 64 → Jar j f cs B S → B + n < 2 ^ 60 →
    S[l]? = some (.lst left) → S[r]? = some (.lst found) → (∀ S' ys, Kp [j, f, l, r] S S' → S'[r]? = some (.lst ys) → (∀ y ∈ ys, y ∈ all) → ys.length ≤ 64 → Jar j f cs (B + n) S' → D.nx [some (.ref j), s1, some (.ref l), some (.ref r)] S') →
    wWhL mx_t mx_b D (n + 1) [some (.ref j), s1, some (.ref l), some (.ref r)] S := by
  intro n
  induction n with
  | zero =>
    intro left found B S hn ha hf hl hj hB hL hR hD
    cases List.length_eq_zero_iff.mp hn
    unfold wWhL
    walk_at "go"
    refine ⟨sl_le (by decide), ?_⟩
    rw [fNe_rows (inp := inp) hi (fun y hy => (List.not_mem_nil hy).elim) (at_old hL) (at_new _ _)]
    walk_at "go"
    exact hD _ found .push (at_old hR) hf (by omega) hj.push
  | succ n ih =>
    intro left found B S hn ha hf hl hj hB hL hR hD
    unfold wWhL
    walk_at "go"
    refine ⟨sl_le (by decide), ?_⟩
    rw [fNe_rows (inp := inp) hi (fun y hy => hra y (ha y hy)) (at_old hL) (at_new _ _)]
    have hne : left.isEmpty = false := by cases left with
      | nil => cases hn
      | cons _ _ => rfl
    rw [hne]
    walk_at "go"
    refine ⟨ty_l' (at_old hR), ty_l' (at_old hL), ?_⟩
    rw [bLen_l (at_old hL) rfl]
    walk_at "go"
    refine con_g (j, f, cs, B, left.length) ⟨rfl, hj.push, by show B < 2 ^ 60; omega, by show 0 < left.length; omega, by show left.length < 1000000; omega⟩ ?_
    rintro x S1 ⟨d, hd, rfl, hj1, k1⟩
    dsimp only at *
    have hL1 := k1.at_ _ _ (by simp [h1]) (at_old hL)
    have hR1 := k1.at_ _ _ (by simp [h2]) (at_old hR)
    have hy : left[d]? = some left[d] := List.getElem?_eq_getElem hd
    rw [onL_ok hL1 (pop_at hy (by omega))]
    walk_at "go"
    rw [app_ok (at_set_ne hlr hR1) (by omega)]
    walk_at "go"
    have he : (left.eraseIdx d).length = n := by rw [List.length_eraseIdx_of_lt hd]; omega
    refine ih (left.eraseIdx d) (found ++ [left[d]]) (B + 1) _ he (fun y hy => ha y ((List.eraseIdx_sublist _ _).subset hy)) (fun y hy => ?_) (by simp; omega) ((hj1.set h1.1 h1.2.1 h1.2.2).set h2.1 h2.2.1 h2.2.2) (by omega) (at_set_ne hlr.symm (at_set hL1)) (at_set (at_set_ne hlr hR1)) fun S' ys k q1 q2 q3 q4 => ?_
    · rcases List.mem_append.mp hy with hy | hy
      · exact hf y hy
      · rw [List.mem_singleton] at hy
        subst hy
        exact ha _ (List.getElem_mem hd)
    · refine hD S' ys ((((Kp.push.trans (k1.sub (by simp))).trans (.set (by simp))).trans (.set (by simp))).trans k) q1 q2 q3 ?_
      rw [show B + (n + 1) = B + 1 + n by omega]
      exact q4
def cMx : Con := conG (G := Nat × Nat × Nat × Nat × Nat × List PV × Nat) (fun g xs S => xs = [.ref g.1, .ref g.2.2.2.2.1] ∧ Jar g.1 g.2.1 g.2.2.1 g.2.2.2.1 S ∧ g.2.2.2.1 < 2 ^ 50 ∧ S[g.2.2.2.2.1]? = some (.lst g.2.2.2.2.2.1) ∧ Rows g.2.2.2.2.2.2 g.2.2.2.2.2.1 ∧ g.2.2.2.2.2.2 ≤ 3 ∧ g.2.2.2.2.2.1.length ≤ 64)
  (fun g xs S x S' => ∃ k ys, x = .ref k ∧ S.length ≤ k ∧ S'[k]? = some (.lst ys) ∧ Rows g.2.2.2.2.2.2 ys ∧ ys.length ≤ 64 ∧ Jar g.1 g.2.1 g.2.2.1 (g.2.2.2.1 + 64) S' ∧ Kp [g.1, g.2.1] S S')
theorem pl_law_mixed (xs : List PV) (S0 : Store) (P : PQ) (h : cMx xs S0 P) : b_law_mixed cDr (xs.map some ++ List.replicate (N_law_mixed.length - xs.length) none) S0 ⟨fun _ S' => P .non S', P, fun _ _ => False, fun _ _ => False⟩ := by
  obtain ⟨⟨j, f, cs, B, m, ys, inp⟩, ⟨rfl, hj, hB, hm, hr, hi, hl⟩, hP⟩ := h
  dsimp only at *
  unfold b_law_mixed
  walk_at "go"
  rw [bList_l hm rfl]
  walk_at "go"
  refine ⟨sl_le (by decide), ys.length + 1, ?_⟩
  obtain ⟨j1, j2, j3⟩ := hj.lt
  have e1 : (S0 ++ [Cell.lst ys]).length = S0.length + 1 := by simp
  rw [e1]
  refine mx_loop (j := j) (f := f) (cs := cs) (l := S0.length) (r := S0.length + 1) hi hr (by omega) ⟨by omega, by omega, by omega⟩ ⟨by omega, by omega, by omega⟩ ys.length ys [] B _ rfl (fun y hy => hy) (fun y hy => (List.not_mem_nil hy).elim) (by simpa using hl) hj.push.push (by omega) (at_old (at_new _ _)) (by rw [← e1]; exact at_new _ _) fun S' zs k q1 q2 q3 q4 => ?_
  walk_at "go"
  refine hP _ _ ⟨_, zs, rfl, by omega, q1, fun y hy => hr y (q2 y hy), q3, q4.kept .refl (by omega), ?_⟩
  refine ⟨by have := k.le; simp at this; omega, fun n c hn e => k.at_ n c ?_ (at_old (at_old e))⟩
  have := lt_of_at e
  simp only [List.mem_cons, List.not_mem_nil, or_false, not_or] at hn ⊢
  exact ⟨hn.1, hn.2, by omega, by omega⟩
/-! formula -/
def Wt : Nat → Nat
  | 0 => 4
  | n + 1 => 5 * Wt n
theorem wt4 : ∀ n, 4 ≤ Wt n
  | 0 => Nat.le_refl _
  | n + 1 => by have := wt4 n; show 4 ≤ 5 * Wt n; omega
theorem Fw.mono {c : Nat} : ∀ {n m : Nat} {p : PV}, Fw n c p → n ≤ m → Fw m c p
  | 0, m, p, h, _ => by obtain ⟨v, hv, rfl⟩ := h; exact Fw.int hv
  | n + 1, 0, p, _, hm => by omega
  | n + 1, m + 1, p, h, hm => by
    rcases h with ⟨v, hv, rfl⟩ | ⟨a, bs, h1, h2, h3, h4, rfl⟩
    · exact Fw.int hv
    · exact .inr ⟨a, bs, h1, h2, h3, fun b hb => (h4 b hb).mono (by omega), rfl⟩
def cFm (d : Nat) : Con := conG (G := Nat × Nat × Nat × Nat × Nat × Nat) (fun g xs S => xs = [.ref g.1, iN g.2.2.2.2.1, iN g.2.2.2.2.2] ∧ g.2.2.2.2.2 < d ∧ Jar g.1 g.2.1 g.2.2.1 g.2.2.2.1 S ∧ g.2.2.2.1 + Wt g.2.2.2.2.2 < 2 ^ 50 ∧ g.2.2.2.2.1 < 1000)
  (fun g xs S x S' => Fw g.2.2.2.2.2 g.2.2.2.2.1 x ∧ Jar g.1 g.2.1 g.2.2.1 (g.2.2.2.1 + Wt g.2.2.2.2.2) S' ∧ Kp [g.1, g.2.1] S S')
theorem pl_law_formula (d : Nat) (xs : List PV) (S0 : Store) (P : PQ) (h : cFm (d + 1) xs S0 P) : b_law_formula cDr (cFm d) (xs.map some ++ List.replicate (N_law_formula.length - xs.length) none) S0 ⟨fun _ S' => P .non S', P, fun _ _ => False, fun _ _ => False⟩ := by
  obtain ⟨⟨j, f, cs, B, c, deep⟩, ⟨rfl, hd, hj, hB, hc⟩, hP⟩ := h
  dsimp only at *
  have w4 := wt4 deep
  have leaf : ∀ (B1 : Nat) (S1 : Store), B1 < B + Wt deep → Jar j f cs B1 S1 → Kp [j, f] S0 S1 → cDr [.ref j, .int 4] S1 P := fun B1 S1 hb hj1 k1 => by
    refine con_g (j, f, cs, B1, 4) ⟨rfl, hj1, by show B1 < 2 ^ 60; omega, by show 0 < 4; decide, by show 4 < 1000000; decide⟩ ?_
    rintro x S' ⟨v, hv, rfl, hj2, k2⟩
    exact hP _ _ ⟨Fw.int (Nat.le_of_lt_succ hv), hj2.kept .refl (by show B1 + 1 ≤ _; omega), k1.trans k2⟩
  unfold b_law_formula
  walk_at "go"
  by_cases hc0 : c = 0
  · rw [decide_eq_true (by omega)]
    walk_at "go"
    exact leaf B S0 (by omega) hj .refl
  rw [decide_eq_false (by omega)]
  walk_at "go"
  cases deep with
  | zero =>
    rw [show decide (((0 : Nat) : Int) = 0) = true from rfl]
    walk_at "go"
    exact leaf B S0 (by omega) hj .refl
  | succ n =>
    rw [decide_eq_false (by omega)]
    walk_at "go"
    refine con_g (j, f, cs, B, 4) ⟨rfl, hj, by show B < 2 ^ 60; omega, by show 0 < 4; decide, by show 4 < 1000000; decide⟩ ?_
    rintro x S1 ⟨v, hv, rfl, hj1, k1⟩
    dsimp only at *
    walk_at "go"
    by_cases hv0 : v = 0
    · rw [decide_eq_true (by omega)]
      walk_at "go"
      exact leaf (B + 1) S1 (by omega) hj1 k1
    rw [decide_eq_false (by omega)]
    walk_at "go"
    have w5 := wt4 n
    have w6 : Wt (n + 1) = 5 * Wt n := rfl
    refine con_g (j, f, cs, B + 1, c) ⟨rfl, hj1, by show B + 1 < 2 ^ 60; omega, by show 0 < c; omega, by show c < 1000000; omega⟩ ?_
    rintro x S2 ⟨a, ha, rfl, hj2, k2⟩
    dsimp only at *
    walk_at "go"
    refine con_g (j, f, cs, B + 1 + 1, 4) ⟨rfl, hj2, by show B + 1 + 1 < 2 ^ 60; omega, by show 0 < 4; decide, by show 4 < 1000000; decide⟩ ?_
    rintro x S3 ⟨t, ht, rfl, hj3, k3⟩
    dsimp only at *
    walk_at "go"
    refine ⟨by omega, ?_⟩
    rw [show ((1 : Int) + (t : Int)).toNat = 1 + t by omega]
    obtain ⟨l1, l2, l3⟩ := hj3.lt
    refine lc_inv (n := 1 + t) (fun i S => ∃ ps, S[S3.length]? = some (.lst ps) ∧ ps.length = i ∧ (∀ p ∈ ps, Fw n c p) ∧ Jar j f cs (B + 3 + i * Wt n) S ∧ Kp [j, f] S3 S) ?_ ?_ ⟨[], at_new _ _, rfl, fun p hp => (List.not_mem_nil hp).elim, hj3.push.kept .refl (by omega), .push⟩
    · rintro i S hi ⟨ps, p1, p2, p3, p4, p5⟩
      refine ⟨_, _, eR2 hi rfl, rfl, fun Qt Qe hq _ ht' => ?_⟩
      walk_at "go"
      refine ht' _ ?_
      walk_at "go"
      have iw : i * Wt n ≤ 3 * Wt n := Nat.mul_le_mul_right _ (by omega)
      refine con_g (j, f, cs, B + 3 + i * Wt n, c, n) ⟨by show _ = [PV.ref j, iN c, PV.int (n : Int)]; rw [show ((n + 1 : Nat) : Int) - 1 = (n : Int) by omega], by show n < d; omega, p4, by show B + 3 + i * Wt n + Wt n < 2 ^ 50; omega, hc⟩ ?_
      rintro x S' ⟨q1, q2, q3⟩
      dsimp only at *
      have p1' := q3.at_ _ _ (by simp; omega) p1
      refine hq _ _ _ p1' (sl_lt (by omega)) ⟨ps ++ [x], at_set p1', by simp [p2], fun p hp => ?_, (q2.set (by omega) (by omega) (by omega)).kept .refl (by rw [Nat.succ_mul]; omega), (p5.trans q3).set_new (Nat.le_refl _)⟩
      rcases List.mem_append.mp hp with hp | hp
      · exact p3 p hp
      · rw [List.mem_singleton] at hp; subst hp; exact q1
    rintro S ⟨ps, p1, p2, p3, p4, p5⟩
    refine ⟨by rw [eR0], ?_⟩
    walk_at "go"
    rw [bTup_l p1 rfl]
    walk_at "go"
    have tw : (1 + t) * Wt n ≤ 4 * Wt n := Nat.mul_le_mul_right _ (by omega)
    refine ⟨sl_le (by decide), hP _ _ ⟨.inr ⟨a, ps, ha, fun z => by subst z; simp at p2; omega, by omega, p3, rfl⟩, p4.kept .refl (by omega), ((k1.trans k2).trans k3).trans p5⟩⟩
/-! sheet -/
def cSh : Con := conG (G := Nat × Nat × Nat × Nat × Nat × Nat × Nat) (fun g xs S => xs = [.ref g.1, iN g.2.2.2.2.1, iN g.2.2.2.2.2.1, iN g.2.2.2.2.2.2] ∧ Jar g.1 g.2.1 g.2.2.1 g.2.2.2.1 S ∧ g.2.2.2.1 < 2 ^ 40 ∧ g.2.2.2.2.1 ≤ 3 ∧ g.2.2.2.2.2.1 ≤ 8 ∧ g.2.2.2.2.2.2 ≤ 3)
  (fun g xs S x S' => ∃ fs, x = shP g.2.2.2.2.1 fs ∧ Sh g.2.2.2.2.1 fs ∧ Jar g.1 g.2.1 g.2.2.1 (g.2.2.2.1 + 4096) S' ∧ Kp [g.1, g.2.1] S S')
theorem wt3 : ∀ n, n ≤ 3 → Wt n ≤ 512
  | 0, _ => by decide
  | 1, _ => by decide
  | 2, _ => by decide
  | 3, _ => by decide
  | n + 4, h => by omega
theorem pl_law_sheet (xs : List PV) (S0 : Store) (P : PQ) (h : cSh xs S0 P) : b_law_sheet (cFm 4) (xs.map some ++ List.replicate (N_law_sheet.length - xs.length) none) S0 ⟨fun _ S' => P .non S', P, fun _ _ => False, fun _ _ => False⟩ := by
  obtain ⟨⟨j, f, cs, B, inp, many, deep⟩, ⟨rfl, hj, hB, hi, hm, hd⟩, hP⟩ := h
  dsimp only at *
  have wd := wt3 deep hd
  unfold b_law_sheet
  walk_at "go"
  refine ⟨by omega, ?_⟩
  rw [Int.toNat_natCast]
  obtain ⟨l1, l2, l3⟩ := hj.lt
  refine lc_inv (n := many) (fun i S => ∃ ps, S[S0.length]? = some (.lst ps) ∧ ps.length = i ∧ (∀ k p, ps[k]? = some p → Fw 3 (inp + k) p) ∧ Jar j f cs (B + i * 512) S ∧ Kp [j, f] S0 S) ?_ ?_ ⟨[], at_new _ _, rfl, fun k p hp => by simp at hp, hj.push.kept .refl (by omega), .push⟩
  · rintro i S hi' ⟨ps, p1, p2, p3, p4, p5⟩
    refine ⟨_, _, eR2 hi' rfl, rfl, fun Qt Qe hq _ ht' => ?_⟩
    walk_at "go"
    refine ht' _ ?_
    walk_at "go"
    refine con_g (j, f, cs, B + i * 512, inp + i, deep) ⟨by show _ = [PV.ref j, PV.int ((inp + i : Nat) : Int), iN deep]; rw [show ((inp + i : Nat) : Int) = (inp : Int) + ((0 : Int) + (i : Int)) by omega], by show deep < 4; omega, p4, by show B + i * 512 + Wt deep < 2 ^ 50; omega, by show inp + i < 1000; omega⟩ ?_
    rintro x S' ⟨q1, q2, q3⟩
    dsimp only at *
    have p1' := q3.at_ _ _ (by simp; omega) p1
    refine hq _ _ _ p1' (sl_lt (by omega)) ⟨ps ++ [x], at_set p1', by simp [p2], fun k p hp => ?_, (q2.set (by omega) (by omega) (by omega)).kept .refl (by omega), (p5.trans q3).set_new (Nat.le_refl _)⟩
    by_cases hk : k < ps.length
    · rw [List.getElem?_append_left hk] at hp
      exact p3 k p hp
    · rw [List.getElem?_append_right (by omega)] at hp
      cases e : k - ps.length with
      | zero =>
        rw [e] at hp
        cases hp
        rw [show k = i by omega]
        exact q1.mono hd
      | succ z => rw [e] at hp; simp at hp
  rintro S ⟨ps, p1, p2, p3, p4, p5⟩
  refine ⟨eR0, ?_⟩
  walk_at "go"
  rw [bTup_l p1 rfl]
  walk_at "go"
  exact ⟨sl_le (by decide), hP _ _ ⟨ps, rfl, ⟨hi, by omega, p3⟩, p4.kept .refl (by omega), p5⟩⟩
end Lw
set_option Elab.async false
set_option linter.all false
set_option maxRecDepth 100000
set_option maxHeartbeats 1000000
namespace Lw
open PySem PySem.Spec PyProof.Rows L2 Lt
local macro_rules | `(tactic| walk_at "go") => `(tactic| try simp only [wSq, wSet, wRet, wDrop, wAsg, wPar, wNx, wIfS, wVar, wC, wOp, wCons, wNil, wB, wNot, wTup, wLst, wCall, wM, wOrT, wAndT, wIf, wNeg, wSl, wNoP, wP, wTru, wSeqI, wR1, wR2, wFor, wWhile, wYes, wDPut, wF, keyOf_str, wDict, wPairs, wLc, wipeP, decide_true, decide_false, Bool.not_true, Bool.not_false, List.isEmpty_nil, List.isEmpty_cons,
  gN, gT, gsC, gsN, Option.bind_some, Option.map_some, List.getElem?_cons_zero, List.getElem?_cons_succ, List.set_cons_zero, List.set_cons_succ, List.map_cons, List.map_nil, List.length_cons, List.length_nil, List.replicate_succ, List.replicate_zero, List.append_nil, List.nil_append, List.cons_append,
  fAdd_ii, fI_ii, Lt.gSub, Lt.gB, opt_go, bMin_ii, bInt_i, bLen_t, fEq_ii, fNe_ii, tru_b, bIsi_tt, bIsi_it])

/-! the sheet as data -/
def Ls : Nat → Nat
  | 0 => 6
  | n + 1 => 6 * Ls n + 40
theorem datas {k L m : Nat} : ∀ {bs : List PV}, (∀ b ∈ bs, ∃ d, (∀ (i : Nat) (S : Store), m ≤ i → toD i S b = some d) ∧ Okd k L d) → ∃ ds, (∀ (i : Nat) (S : Store), m ≤ i → optAll (toD i S) bs = some ds) ∧ ds.length = bs.length ∧ ∀ d ∈ ds, Okd k L d
  | [], _ => ⟨[], fun _ _ _ => rfl, rfl, fun d h => (List.not_mem_nil h).elim⟩
  | b :: bs, h => by
    obtain ⟨ds, h1, h2, h3⟩ := datas (bs := bs) fun z hz => h z (List.mem_cons_of_mem _ hz)
    obtain ⟨d, h4, h5⟩ := h b (by simp)
    refine ⟨d :: ds, fun i S hi => by unfold optAll; rw [h4 i S hi, h1 i S hi], by simp [h2], fun e he => ?_⟩
    rcases List.mem_cons.mp he with rfl | he
    · exact h5
    · exact h3 e he
theorem pair_data {a k L n : Nat} {bs : List PV} {ds : List PyData} (ha : a < 100) (h : ∀ (i : Nat) (S : Store), n ≤ i → optAll (toD i S) bs = some ds) (ho : ∀ d ∈ ds, Okd k L d) (hl : ds.length ≤ 8) :
    (∀ (i : Nat) (S : Store), n + 2 ≤ i → toD i S (.tup [iN a, .tup bs]) = some (.tuple [.int a, .tuple ds])) ∧ Okd (k + 2) (2 * (8 * (L + 2) + 110) + 3) (.tuple [.int a, .tuple ds]) := by
  refine ⟨fun i S hi => ?_, ?_⟩
  · obtain ⟨i, rfl⟩ : ∃ z, i = z + 2 := ⟨i - 2, by omega⟩
    show (optAll (toD (i + 1) S) [iN a, .tup bs]).map _ = _
    have e : toD (i + 1) S (.tup bs) = some (.tuple ds) := by
      show (optAll (toD i S) bs).map _ = _
      rw [h i S (by omega)]; rfl
    unfold optAll
    unfold optAll
    rw [e]
    rfl
  · refine (Okd.tup (k := k + 1) (L := 8 * (L + 2) + 108) fun d hd => ?_).mono (Nat.le_refl _) (Nat.le_refl _)
    rcases List.mem_cons.mp hd with rfl | hd
    · exact (Okd.int (by omega)).mono (by omega) (by omega)
    · rcases List.mem_cons.mp hd with rfl | hd
      · refine (Okd.tup ho).mono (Nat.le_refl _) ?_
        have := Nat.mul_le_mul_right (L + 2) hl
        omega
      · cases hd
def Lq : Nat → Nat
  | 0 => 6
  | n + 1 => 2 * (8 * (Lq n + 2) + 110) + 3
theorem fw_data {c : Nat} (hc : c ≤ 12) : ∀ (n : Nat) (p : PV), Fw n c p → ∃ d, (∀ (i : Nat) (S : Store), 2 * n + 1 ≤ i → toD i S p = some d) ∧ Okd (2 * n) (Lq n) d
  | 0, p, h => by
    obtain ⟨v, hv, rfl⟩ := h
    exact ⟨.int v, fun i S hi => by obtain ⟨i, rfl⟩ : ∃ z, i = z + 1 := ⟨i - 1, by omega⟩; rfl, (Okd.int (by omega)).mono (by omega) (by show v + 2 ≤ 6; omega)⟩
  | n + 1, p, h => by
    rcases h with ⟨v, hv, rfl⟩ | ⟨a, bs, h1, h2, h3, h4, rfl⟩
    · exact ⟨.int v, fun i S hi => by obtain ⟨i, rfl⟩ : ∃ z, i = z + 1 := ⟨i - 1, by omega⟩; rfl, (Okd.int (by omega)).mono (by omega) (by show v + 2 ≤ 2 * (8 * (Lq n + 2) + 110) + 3; omega)⟩
    · obtain ⟨ds, d1, d2, d3⟩ := datas (m := 2 * n + 1) (bs := bs) fun b hb => fw_data hc n b (h4 b hb)
      obtain ⟨q1, q2⟩ := pair_data (a := a) (by omega) d1 d3 (by omega)
      exact ⟨_, fun i S hi => q1 i S (by omega), q2.mono (by omega) (Nat.le_refl _)⟩
theorem sh_data {inp : Nat} {fs : List PV} (hs : Sh inp fs) : ∃ d, (∀ S : Store, toD 66 S (shP inp fs) = some d) ∧ isDisplay d = true ∧ Okd 8 2000000 d := by
  have i3 := hs.i3
  have l5 := hs.l5
  obtain ⟨ds, d1, d2, d3⟩ := datas (m := 7) (bs := fs) fun b hb => by
    obtain ⟨k, hk⟩ := List.mem_iff_getElem?.mp hb
    have hk' := (List.getElem?_eq_some_iff.mp hk).1
    exact fw_data (c := inp + k) (by omega) 3 b (hs.w k b hk)
  obtain ⟨q1, q2⟩ := pair_data (a := inp) (by omega) d1 d3 (by omega)
  exact ⟨_, fun S => q1 66 S (by decide), rfl, q2.mono (by decide) (by decide)⟩
end Lw
set_option Elab.async false
set_option linter.all false
set_option maxRecDepth 100000
set_option maxHeartbeats 1000000
namespace Lw
open PySem PySem.Spec PyProof.Rows L2 Lt
local macro_rules | `(tactic| walk_at "go") => `(tactic| try simp only [wSq, wSet, wRet, wDrop, wAsg, wPar, wNx, wIfS, wVar, wC, wOp, wCons, wNil, wB, wNot, wTup, wLst, wCall, wM, wOrT, wAndT, wIf, wNeg, wSl, wNoP, wP, wTru, wSeqI, wR1, wR2, wFor, wWhile, wYes, wDPut, wF, wFK, wEnum, perm, List.getD_cons_zero, List.getD_cons_succ, keyOf_str, wDict, wPairs, wLc, wipeP, decide_true, decide_false, Bool.not_true, Bool.not_false, List.isEmpty_nil, List.isEmpty_cons,
  gN, gT, gsC, gsN, Option.bind_some, Option.map_some, List.getElem?_cons_zero, List.getElem?_cons_succ, List.set_cons_zero, List.set_cons_succ, List.map_cons, List.map_nil, List.length_cons, List.length_nil, List.replicate_succ, List.replicate_zero, List.append_nil, List.nil_append, List.cons_append,
  fAdd_ii, fI_ii, Lt.gSub, Lt.gB, opt_go, bMin_ii, bInt_i, bLen_t, fEq_ii, fNe_ii, tru_b, bIsi_tt, bIsi_it])

/-! are_told -/
abbrev prP (v : Nat) (rs : List (Nat × Nat)) : List PV := [iN v, .tup (rs.map rdP)]
theorem toD_pr {S : Store} {m v : Nat} {rs : List (Nat × Nat)} (h : S[m]? = some (.lst (prP v rs))) : toD 66 S (.ref m) = some (.list [.int v, .tuple (rs.map rdD)]) := by
  unfold toD
  simp only [h]
  have e := toD_rds 62 S rs
  unfold optAll
  unfold optAll
  rw [e]
  rfl
theorem okd_pr {rs : List (Nat × Nat)} {v : Nat} (hv : v ≤ 3) (hl : rs.length ≤ 3) (h : ∀ r ∈ rs, r.1 < 12 ∧ r.2 ≤ 3) : Okd 3 500 (.list [.int v, .tuple (rs.map rdD)]) := by
  refine (Okd.lst (k := 2) (L := 200) fun d hd => ?_).mono (by decide) (Nat.le_of_ble_eq_true rfl)
  rcases List.mem_cons.mp hd with rfl | hd
  · exact (Okd.int (by omega)).mono (by decide) (by omega)
  · rcases List.mem_cons.mp hd with rfl | hd
    · exact okd_rds hl h
    · cases hd
/-- any cell's own row of the table -/
theorem any_at {inp : Nat} {fs : List PV} {r : List Nat} (hs : Sh inp fs) (hr : Row inp r) {i : Nat} (hi : i < inp + fs.length) : ∃ v rs, (tbl fs r (row0 r))[i]? = some (.tup (prP v rs)) ∧ (tv fs r)[i]? = some v ∧ RdOf inp fs (tv fs r) i rs ∧ v ≤ 3 ∧ rs.length ≤ 3 ∧ ∀ q ∈ rs, q.1 < 12 ∧ q.2 ≤ 3 := by
  have i3 := hs.i3
  have l5 := hs.l5
  have hl := hr.len
  by_cases h : i < inp
  · obtain ⟨s, e⟩ := tv_pre fs r
    obtain ⟨s2, e2⟩ := tbl_pre fs r (row0 r)
    have hv : r[i]? = some r[i] := List.getElem?_eq_getElem (by omega)
    refine ⟨r[i], [], ?_, ?_, .inl ⟨h, rfl⟩, hr.le _ (List.getElem_mem _), by decide, fun q hq => (List.not_mem_nil hq).elim⟩
    · rw [e2, List.getElem?_append_left (by simp; omega), List.getElem?_map, hv]
      rfl
    · rw [e, List.getElem?_append_left (by omega)]
      exact hv
  · have hp : fs[i - inp]? = some fs[i - inp] := List.getElem?_eq_getElem (by omega)
    obtain ⟨c1, c2⟩ := cell_at hs hl hp
    have tl : (tv fs r).length = inp + fs.length := by rw [tv_len, hl]
    obtain ⟨a1, a2, a3⟩ := go_at (vals := tv fs r) (c := inp + (i - inp)) (by omega) 3 _ (hs.w _ _ hp)
    have e : inp + (i - inp) = i := by omega
    rw [e] at c1 c2
    refine ⟨_, _, c2, c1, .inr ⟨i - inp, _, e.symm, hp, rfl⟩, a3, a2, fun q hq => ⟨?_, tv_le hs hl hr.le _ _ (a1 q hq).2⟩⟩
    have := (a1 q hq).1
    omega
theorem eGE {n i : Nat} {c : Cell} {xs : List PV} {S : Store} (h : S[n]? = some c) (hx : c.items = some xs) : gE n i S = some (xs[i]?.map fun x => .tup [.int (i : Nat), x]) := by
  unfold gE
  rw [eGL h hx]; rfl
def cAT : Con := conG (G := Nat × List PV × List Nat × Bool) (fun g xs S => xs = [shP g.1 g.2.1, rowP g.2.2.1, .bl g.2.2.2] ∧ Sh g.1 g.2.1 ∧ Row g.1 g.2.2.1)
  (fun g xs S x S' => Kp [] S S' ∧ x = .bl true)
theorem pl_law_are_told (xs : List PV) (S0 : Store) (P : PQ) (h : cAT xs S0 P) : b_law_are_told cTab cTR cTVal (xs.map some ++ List.replicate (N_law_are_told.length - xs.length) none) S0 ⟨fun _ S' => P .non S', P, fun _ _ => False, fun _ _ => False⟩ := by
  obtain ⟨⟨inp, fs, r, nm⟩, ⟨rfl, hs, hr⟩, hP⟩ := h
  dsimp only at *
  unfold b_law_are_told
  walk_at "go"
  refine con_g (inp, fs, r) ⟨rfl, hs, hr.len⟩ ?_
  rintro x S1 ⟨k1, T, rfl, kT⟩
  dsimp only at kT
  walk_at "go"
  refine seqI_go kT rfl ?_
  have i3 := hs.i3
  have l5 := hs.l5
  have tl : (tbl fs r (row0 r)).length = inp + fs.length := by rw [(TV.tbl fs r _ (TV.row r)).len, tv_len, hr.len]
  refine loop_inv (n := inp + fs.length) (fun i env S => ∃ e3 e4 e5 e6, env = [some (shP inp fs), some (rowP r), some (.bl nm), e3, e4, e5, e6] ∧ Kp [] S0 S ∧ S[T]? = some (.lst (tbl fs r (row0 r)))) ?_ ?_ ⟨none, none, none, none, rfl, k1, kT⟩
  · rintro i env S hi ⟨e3, e4, e5, e6, rfl, k2, kT⟩
    obtain ⟨v, rs, t1, t2, t3, t4, t5, t6⟩ := any_at hs hr hi
    refine ⟨.tup [.int (i : Nat), .tup (prP v rs)], _, (eGE kT rfl).trans (by rw [t1]; rfl), rfl, fun D' hnx _ _ _ => ?_⟩
    have ev : (tv fs r).getD i 0 = v := by rw [List.getD_eq_getElem?_getD, t2]; rfl
    walk_at "go"
    refine con_g (inp, fs, r, i) ⟨rfl, hs, hr.len, hi⟩ ?_
    rintro x S2 ⟨k3, rfl⟩
    dsimp only
    rw [ev]
    walk_at "go"
    refine con_g (inp, fs, r, i, rs) ⟨rfl, hs, hr.len, t3⟩ ?_
    rintro x S3 ⟨k4, rfl⟩
    dsimp only
    refine ⟨sl_le (by decide), ?_⟩
    have kk := (k2.trans k3).trans k4
    have kT3 := k4.at_ _ _ (by simp) (k3.at_ _ _ (by simp) kT)
    have fin : ∀ (m : Nat) (S5 : Store), Kp [] S0 S5 → S5[T]? = some (.lst (tbl fs r (row0 r))) → S5[m]? = some (.lst (prP v rs)) → (wIfS (wB (wOp fNe (wCall bRepr (wCons (wVar 6) wNil)) (wCall bRepr (wCons (wLst (wCons (wVar 4) (wCons (wVar 5) wNil))) wNil)))) (wRet (wC (.bl false))) wNx) [some (shP inp fs), some (rowP r), some (.bl nm), some (.int (i : Nat)), some (iN v), some (.tup (rs.map rdP)), some (.ref m)] S5 D' := fun m S5 q1 q2 q3 => by
      walk_at "go"
      rw [bRepr_ok (toD_pr q3) rfl (okd_pr t4 t5 t6) (by decide) (by decide)]
      walk_at "go"
      refine ⟨sl_le (by decide), ?_⟩
      rw [bRepr_ok (toD_pr (at_new _ _)) rfl (okd_pr t4 t5 t6) (by decide) (by decide)]
      walk_at "go"
      rw [fNe_str]
      walk_at "go"
      exact hnx _ _ ⟨_, _, _, _, rfl, q1.trans .push, at_old q2⟩
    have n3 := at_new S3 (.lst (prP v rs))
    have o3 := at_old (c := .lst (prP v rs)) kT3
    have kk4 : Kp [] S0 (S3 ++ [.lst (prP v rs)]) := kk.trans .push
    generalize S3 ++ [Cell.lst (prP v rs)] = S4 at *
    cases nm with
    | false =>
      walk_at "go"
      have := fin _ S4 kk4 o3 n3
      walk_at "go"
      exact this
    | true =>
      walk_at "go"
      refine ⟨trivial, con_g (inp, fs, r, i) ⟨rfl, hs, hr.len, hi⟩ ?_⟩
      rintro x S5 ⟨k5, rfl⟩
      dsimp only
      rw [ev]
      refine ⟨trivial, con_g (inp, fs, r, i, rs) ⟨rfl, hs, hr.len, t3⟩ ?_⟩
      rintro x S6 ⟨k6, rfl⟩
      dsimp only
      refine ⟨sl_le (by decide), ?_⟩
      have := fin _ (S6 ++ [.lst (prP v rs)]) (((kk4.trans k5).trans k6).trans .push) (at_old (k6.at_ _ _ (by simp) (k5.at_ _ _ (by simp) o3))) (at_new _ _)
      walk_at "go"
      exact this
  · rintro env S ⟨e3, e4, e5, e6, rfl, k2, kT⟩
    refine ⟨(eGE kT rfl).trans (by rw [List.getElem?_eq_none (by omega)]; rfl), ?_⟩
    walk_at "go"
    exact hP _ _ ⟨k2, rfl⟩
/-! some_sheet -/
def cSS : Con := conG (G := Nat × Nat × Nat × Nat) (fun g xs S => xs = [.ref g.1] ∧ Jar g.1 g.2.1 g.2.2.1 g.2.2.2 S ∧ g.2.2.2 < 2 ^ 30)
  (fun g xs S x S' => ∃ inp fs, x = shP inp fs ∧ Sh inp fs ∧ Jar g.1 g.2.1 g.2.2.1 (g.2.2.2 + 5000) S' ∧ Kp [g.1, g.2.1] S S')
theorem pl_law_some_sheet (xs : List PV) (S0 : Store) (P : PQ) (h : cSS xs S0 P) : b_law_some_sheet cPk cSh cDr (xs.map some ++ List.replicate (N_law_some_sheet.length - xs.length) none) S0 ⟨fun _ S' => P .non S', P, fun _ _ => False, fun _ _ => False⟩ := by
  obtain ⟨⟨j, f, cs, B⟩, ⟨rfl, hj, hB⟩, hP⟩ := h
  dsimp only at *
  unfold b_law_some_sheet
  walk_at "go"
  refine ⟨sl_le (by decide), ?_⟩
  obtain ⟨l1, l2, l3⟩ := hj.lt
  refine con_g (j, f, cs, B, S0.length, [.int 0, .int 1, .int 1, .int 2, .int 2, .int 2, .int 3]) ⟨rfl, hj.push, by show B < 2 ^ 60; omega, at_new _ _, Nat.le_of_ble_eq_true rfl, Nat.le_of_ble_eq_true rfl, by show S0.length ≠ j; omega, by show S0.length ≠ f; omega⟩ ?_
  rintro x S2 ⟨hx, hj2, k2⟩
  dsimp only at *
  obtain ⟨inp, rfl, hi3⟩ : ∃ inp : Nat, x = iN inp ∧ inp ≤ 3 := by
    simp only [List.mem_cons, List.not_mem_nil, or_false] at hx
    rcases hx with rfl | rfl | rfl | rfl | rfl | rfl | rfl
    · exact ⟨0, rfl, by decide⟩
    · exact ⟨1, rfl, by decide⟩
    · exact ⟨1, rfl, by decide⟩
    · exact ⟨2, rfl, by decide⟩
    · exact ⟨2, rfl, by decide⟩
    · exact ⟨2, rfl, by decide⟩
    · exact ⟨3, rfl, by decide⟩
  refine con_g (j, f, cs, B + 1, 5) ⟨rfl, hj2, by show B + 1 < 2 ^ 60; omega, by show 0 < 5; decide, by show 5 < 1000000; decide⟩ ?_
  rintro x S3 ⟨a, ha, rfl, hj3, k3⟩
  dsimp only at *
  walk_at "go"
  refine con_g (j, f, cs, B + 1 + 1, 3) ⟨rfl, hj3, by show B + 1 + 1 < 2 ^ 60; omega, by show 0 < 3; decide, by show 3 < 1000000; decide⟩ ?_
  rintro x S4 ⟨b, hb, rfl, hj4, k4⟩
  dsimp only at *
  walk_at "go"
  refine con_g (j, f, cs, B + 1 + 1 + 1, inp, 1 + a, 1 + b) ⟨by show _ = [PV.ref j, iN inp, PV.int ((1 + a : Nat) : Int), PV.int ((1 + b : Nat) : Int)]; rw [show ((1 + a : Nat) : Int) = 1 + (a : Int) by omega, show ((1 + b : Nat) : Int) = 1 + (b : Int) by omega], hj4, by show B + 1 + 1 + 1 < 2 ^ 40; omega, hi3, by show 1 + a ≤ 8; omega, by show 1 + b ≤ 3; omega⟩ ?_
  rintro x S5 ⟨fs, rfl, hs, hj5, k5⟩
  dsimp only at *
  exact hP _ _ ⟨inp, fs, rfl, hs, hj5.kept .refl (by omega), (((Kp.push.trans k2).trans k3).trans k4).trans k5⟩
/-! the law -/
theorem cutP_mem {xs : List PV} {lo hi : Option Int} {y : PV} (h : y ∈ cutP xs lo hi) : y ∈ xs := List.mem_of_mem_drop (List.mem_of_mem_take h)
theorem cutP_len (xs : List PV) (lo hi : Option Int) : (cutP xs lo hi).length ≤ xs.length := by unfold cutP; simp; omega
theorem fIx_last {n : Nat} {xs : List PV} {S : Store} (h : S[n]? = some (.lst xs)) (hl : 0 < xs.length) : ∃ y, y ∈ xs ∧ fIx (.ref n) (.int (-1)) S = some (y, S) := by
  have e : ixN xs.length (-1) = some (xs.length - 1) := by
    unfold ixN
    rw [if_neg (by omega), if_pos (by omega)]
    congr 1
    omega
  refine ⟨xs[xs.length - 1], List.getElem_mem (by omega), ?_⟩
  unfold fIx
  simp only [h, Cell.items]
  unfold atI
  rw [e]
  show (xs[xs.length - 1]?).map _ = _
  rw [List.getElem?_eq_getElem (by omega)]
  rfl
theorem eqv_trues : PyData.eqv (.list [.bool true, .bool true, .bool true, .bool true]) (.list [.bool true, .bool true, .bool true, .bool true]) = true := by simp [PyData.eqv, PyData.eqvAll]
theorem fEq_trues {n m : Nat} {S : Store} (h1 : S[n]? = some (.lst [.bl true, .bl true, .bl true, .bl true])) (h2 : S[m]? = some (.lst [.bl true, .bl true, .bl true, .bl true])) : fEq (.ref n) (.ref m) S = some (.bl true, S) := by
  have d1 : toD 66 S (.ref n) = some (.list [.bool true, .bool true, .bool true, .bool true]) := by
    unfold toD
    simp only [h1]
    rfl
  have d2 : toD 66 S (.ref m) = some (.list [.bool true, .bool true, .bool true, .bool true]) := by
    unfold toD
    simp only [h2]
    rfl
  have e : eqP (.ref n) (.ref m) S = some true := by
    unfold eqP
    simp only [d1, d2]
    rw [if_pos ⟨by rfl, by rfl⟩, eqv_trues]
  show (eqP (.ref n) (.ref m) S).map _ = _
  rw [e]; rfl
theorem rep_ok {n : Nat} {xs : List PV} {k : Nat} {S : Store} (h : S[n]? = some (.lst xs)) (hk : k < 1000) (hl : xs.length < 1000) : fRep (.ref n) (.int k) S = some (.ref S.length, S ++ [.lst (List.replicate k xs).flatten]) := by
  unfold fRep
  simp only [h]
  have : xs.length * k ≤ 1000 * 1000 := Nat.mul_le_mul (by omega) (by omega)
  exact if_pos ⟨⟨by omega, by omega⟩, sl_le (by rw [Int.toNat_natCast]; omega)⟩
theorem fw_leaf (n c v : Nat) (h : v ≤ 3) : Fw n c (.int v) := Fw.int h
abbrev fstP : PV := .tup [.int 0, .tup [.int 0, .tup [.int 0, .tup [.int 2, .int 3]], .tup [.int 0, .tup [.int 1, .tup [.int 0, .tup [.int 2, .int 0]]]]]]
abbrev sndP : PV := .tup [.int 1, .tup [.int 2, .tup [.int 0, .tup [.int 1]], .tup [.int 1, .tup [.int 3, .int 2, .int 1]]]]
theorem fw_node {n c a : Nat} {bs : List PV} (ha : a < c) (h1 : bs ≠ []) (h2 : bs.length ≤ 4) (h3 : ∀ b ∈ bs, Fw n c b) : Fw (n + 1) c (.tup [iN a, .tup bs]) := .inr ⟨a, bs, ha, h1, h2, h3, rfl⟩
theorem fw_all1 {n c : Nat} {b : PV} {bs : List PV} (h : Fw n c b) (r : ∀ x ∈ bs, Fw n c x) : ∀ x ∈ b :: bs, Fw n c x := fun x hx => by
  rcases List.mem_cons.mp hx with rfl | hx
  · exact h
  · exact r x hx
theorem fw_all0 {n c : Nat} : ∀ x ∈ ([] : List PV), Fw n c x := fun x hx => (List.not_mem_nil hx).elim
theorem fw_fst : Fw 3 1 fstP :=
  fw_node (a := 0) (by decide) (by simp) (by decide) (fw_all1 (fw_leaf 2 1 0 (by decide)) (fw_all1 (fw_node (a := 0) (by decide) (by simp) (by decide) (fw_all1 (fw_leaf 1 1 2 (by decide)) (fw_all1 (fw_leaf 1 1 3 (by decide)) fw_all0)))
    (fw_all1 (fw_node (a := 0) (by decide) (by simp) (by decide) (fw_all1 (fw_leaf 1 1 1 (by decide)) (fw_all1 (fw_node (a := 0) (by decide) (by simp) (by decide) (fw_all1 (fw_leaf 0 1 2 (by decide)) (fw_all1 (fw_leaf 0 1 0 (by decide)) fw_all0))) fw_all0))) fw_all0)))
theorem fw_snd : Fw 3 2 sndP :=
  fw_node (a := 1) (by decide) (by simp) (by decide) (fw_all1 (fw_leaf 2 2 2 (by decide)) (fw_all1 (fw_node (a := 0) (by decide) (by simp) (by decide) (fw_all1 (fw_leaf 1 2 1 (by decide)) fw_all0))
    (fw_all1 (fw_node (a := 1) (by decide) (by simp) (by decide) (fw_all1 (fw_leaf 1 2 3 (by decide)) (fw_all1 (fw_leaf 1 2 2 (by decide)) (fw_all1 (fw_leaf 1 2 1 (by decide)) fw_all0)))) fw_all0)))
theorem sh_twice : Sh 1 [fstP, sndP] := ⟨by decide, by decide, fun i p h => by
  cases i with
  | zero => cases h; exact fw_fst
  | succ i =>
    cases i with
    | zero => cases h; exact fw_snd
    | succ i => simp at h⟩
end Lw
set_option Elab.async false
set_option linter.all false
set_option maxRecDepth 100000
set_option maxHeartbeats 1000000
namespace Lw
open PySem PySem.Spec PyProof.Rows L2 Lt
theorem bInt_b (b : Bool) (S : Store) : bInt [.bl b] S = some (.int (if b then 1 else 0), S) := rfl
local macro_rules | `(tactic| walk_at "go") => `(tactic| try simp only [wSq, wSet, wRet, wDrop, wAsg, wPar, wNx, wIfS, wVar, wC, wOp, wCons, wNil, wB, wNot, wTup, wLst, wCall, wM, wOrT, wAndT, wIf, wNeg, wSl, wNoP, wP, wTru, wSeqI, wR1, wR2, wFor, wWhile, wYes, wDPut, wF, wFK, wEnum, perm, List.getD_cons_zero, List.getD_cons_succ, bInt_b, keyOf_str, wDict, wPairs, wLc, wipeP, decide_true, decide_false, Bool.not_true, Bool.not_false, List.isEmpty_nil, List.isEmpty_cons,
  gN, gT, gsC, gsN, Option.bind_some, Option.map_some, List.getElem?_cons_zero, List.getElem?_cons_succ, List.set_cons_zero, List.set_cons_succ, List.map_cons, List.map_nil, List.length_cons, List.length_nil, List.replicate_succ, List.replicate_zero, List.append_nil, List.nil_append, List.cons_append,
  fAdd_ii, fI_ii, Lt.gSub, Lt.gB, opt_go, bMin_ii, bInt_i, bLen_t, fEq_ii, fNe_ii, tru_b, bIsi_tt, bIsi_it])

local macro_rules | `(tactic| walk_at "num") => `(tactic| (walk_at "go"; try simp (disch := first | omega | decide) only [gMul_l, gMul_r, gDiv_ok, gMod_ok, gPow_1018, Option.map_some, opt_go, fI_ii, fAdd_ii, bInt_i]); walk_at "go")
def conLaw : Con := conG (G := List Int) (fun ns xs S => xs = [.ref 0] ∧ ns.length ≤ 63 ∧ S = [.ro (ns.map .int)]) (fun _ _ _ x _ => x = .bl true)
theorem pl_law (xs : List PV) (S0 : Store) (P : PQ) (h : conLaw xs S0 P) : b_law cJar cSS cSh cDr cRo cMx cAT (xs.map some ++ List.replicate (N_law.length - xs.length) none) S0 ⟨fun _ S' => P .non S', P, fun _ _ => False, fun _ _ => False⟩ := by
  obtain ⟨ns, ⟨rfl, hl, rfl⟩, hP⟩ := h
  dsimp only at *
  unfold b_law
  walk_at "go"
  refine con_g ns ⟨rfl, rfl, hl⟩ ?_
  rintro x S1 ⟨j, f, cs, rfl, hj⟩
  walk_at "go"
  refine ⟨by omega, ?_⟩
  rw [show (4 : Int).toNat = 4 from rfl]
  refine loop_inv (n := 4) (fun i env S => ∃ e2 e6 e7 e8 e9 e10, env = [some (.ref 0), some (.ref j), e2, none, none, none, e6, e7, e8, e9, e10, none] ∧ Jar j f cs (i * 6000) S) ?_ ?_ ⟨none, none, none, none, none, none, rfl, hj.kept .refl (by omega)⟩
  · rintro i env S hi ⟨e2, e6, e7, e8, e9, e10, rfl, hj⟩
    refine ⟨_, _, eR2 hi rfl, rfl, fun D' hnx _ hrt _ => ?_⟩
    -- the turn, once the sheet stands
    have rest : ∀ (inp : Nat) (fs : List PV) (S1 : Store), Sh inp fs → Jar j f cs (i * 6000 + 5001) S1 → (wSq (wPar 7 8 (wCons (wCall bRepr (wCons (wVar 6) wNil)) (wCons (wF cRo (wCons (wOp fIx (wVar 6) (wC (.int 0))) wNil)) wNil)))
    (wSq (wFor (wEnum (wCons (wSl (wF cMx (wCons (wVar 1) (wCons (wVar 8) wNil))) wNoP (wP (wC (.int 12)))) wNil)) (gT (gsC (gN 9) (gsC (gN 10) gsN))) (wIfS (wOrT (wNot (wTru (wF cAT (wCons (wVar 6) (wCons (wVar 10) (wCons (wOp fEq (wVar 9) (wVar 2)) wNil)))))) (wB (wOp fNe (wCall bRepr (wCons (wVar 6) wNil)) (wVar 7)))) (wRet (wC (.bl false))) wNx))
    (wIfS (wOrT (wNot (wTru (wF cAT (wCons (wVar 6) (wCons (wOp fIx (wVar 8) (wC (.int 0))) (wCons (wC (.bl false)) wNil)))))) (wNot (wTru (wF cAT (wCons (wVar 6) (wCons (wOp fIx (wVar 8) (wNeg (wC (.int 1)))) (wCons (wC (.bl true)) wNil))))))) (wRet (wC (.bl false))) wNx))) [some (.ref 0), some (.ref j), some (.int (0 + i)), none, none, none, some (shP inp fs), e7, e8, e9, e10, none] S1 D' := fun inp fs S1 hs hj1 => by
      obtain ⟨d, d1, d2, d3⟩ := sh_data hs
      walk_at "go"
      rw [bRepr_ok (d1 _) d2 d3 (by decide) (by decide)]
      walk_at "go"
      rw [ix0]
      walk_at "go"
      refine con_g inp ⟨rfl, hs.i3⟩ ?_
      rintro x S6 ⟨k6, m, ys, rfl, m1, m2, m3, m4, m5⟩
      walk_at "go"
      obtain ⟨l1, l2, l3⟩ := hj1.lt
      refine con_g (j, f, cs, i * 6000 + 5001, m, ys, inp) ⟨rfl, hj1.kept k6 (Nat.le_refl _), by show i * 6000 + 5001 < 2 ^ 50; omega, m2, m3, hs.i3, m5⟩ ?_
      rintro x S8 ⟨k, zs, rfl, z0, z1, z2, z3, hj8, k8⟩
      dsimp only at *
      have m2' := k8.at_ _ _ (by simp; omega) m2
      rw [fSl_l z1 rfl]
      walk_at "go"
      refine seqI_go (at_new _ _) rfl ?_
      have hj9 := hj8.push (c := .lst (cutP zs none (some 12)))
      have s9 := at_new S8 (.lst (cutP zs none (some 12)))
      have m9 := at_old (c := .lst (cutP zs none (some 12))) m2'
      have r9 : Rows inp (cutP zs none (some 12)) := fun y hy => z2 y (cutP_mem hy)
      generalize (cutP zs none (some 12)) = os at *
      generalize (S8 ++ [Cell.lst os]) = S9 at *
      generalize S8.length = q at *
      refine loop_inv (n := os.length) (fun _ env S => ∃ e9 e10, env = [some (.ref 0), some (.ref j), some (.int (0 + i)), none, none, none, some (shP inp fs), some (.str d.shown), some (.ref m), e9, e10, none] ∧ Kp [] S9 S) ?_ ?_ ⟨e9, e10, rfl, .refl⟩
      · rintro t env S ht ⟨e9, e10, rfl, kk⟩
        obtain ⟨r, hr, er⟩ := r9 _ (List.getElem_mem ht)
        refine ⟨.tup [.int (t : Nat), rowP r], _, (eGE (kk.at_ _ _ (by simp) s9) rfl).trans (by rw [List.getElem?_eq_getElem ht, er]; rfl), rfl, fun D'' hnx' _ _ _ => ?_⟩
        walk_at "go"
        refine con_g (inp, fs, r, _) ⟨rfl, hs, hr⟩ ?_
        rintro x S10 ⟨k10, rfl⟩
        walk_at "go"
        rw [bRepr_ok (d1 _) d2 d3 (by decide) (by decide)]
        walk_at "go"
        rw [fNe_str]
        walk_at "go"
        exact hnx' _ _ ⟨_, _, rfl, kk.trans k10⟩
      · rintro env S ⟨e9, e10, rfl, kk⟩
        refine ⟨(eGE (kk.at_ _ _ (by simp) s9) rfl).trans (by rw [List.getElem?_eq_none (Nat.le_refl _)]; rfl), ?_⟩
        have m10 := kk.at_ _ _ (by simp) m9
        have y0 : ys[0]? = some ys[0] := List.getElem?_eq_getElem m4
        obtain ⟨r0, hr0, er0⟩ := m3 _ (List.getElem_mem m4)
        walk_at "go"
        rw [show (0 : Int) = ((0 : Nat) : Int) from rfl, fIx_l m10 rfl y0, er0]
        walk_at "go"
        refine con_g (inp, fs, r0, false) ⟨rfl, hs, hr0⟩ ?_
        rintro x S11 ⟨k11, rfl⟩
        walk_at "go"
        have m11 := k11.at_ _ _ (by simp) m10
        obtain ⟨y, hy, ey⟩ := fIx_last m11 m4
        rw [ey]
        obtain ⟨r1, hr1, rfl⟩ := m3 _ hy
        walk_at "go"
        refine con_g (inp, fs, r1, true) ⟨rfl, hs, hr1⟩ ?_
        rintro x S12 ⟨k12, rfl⟩
        walk_at "go"
        exact hnx _ _ ⟨_, _, _, _, _, _, rfl, hj9.kept ((kk.trans k11).trans k12) (by omega)⟩
    walk_at "go"
    by_cases h3 : i < 3
    · rw [decide_eq_true (by omega)]
      walk_at "go"
      refine con_g (j, f, cs, i * 6000) ⟨rfl, hj, by show i * 6000 < 2 ^ 30; omega⟩ ?_
      rintro x S2 ⟨inp, fs, rfl, hs, hj2, k2⟩
      have := rest inp fs S2 hs (hj2.kept .refl (by show i * 6000 + 5000 ≤ _; omega))
      walk_at "go"
      exact this
    · rw [decide_eq_false (by omega)]
      walk_at "go"
      refine con_g (j, f, cs, i * 6000, 3) ⟨rfl, hj, by show i * 6000 < 2 ^ 60; omega, by show 0 < 3; decide, by show 3 < 1000000; decide⟩ ?_
      rintro x S2 ⟨a, ha, rfl, hj2, k2⟩
      have key : ∀ many : Nat, many ≤ 8 → cSh [.ref j, .int 3, .int (many : Nat), .int 2] S2 fun x S1 => (wSq (wPar 7 8 (wCons (wCall bRepr (wCons (wVar 6) wNil)) (wCons (wF cRo (wCons (wOp fIx (wVar 6) (wC (.int 0))) wNil)) wNil)))
    (wSq (wFor (wEnum (wCons (wSl (wF cMx (wCons (wVar 1) (wCons (wVar 8) wNil))) wNoP (wP (wC (.int 12)))) wNil)) (gT (gsC (gN 9) (gsC (gN 10) gsN))) (wIfS (wOrT (wNot (wTru (wF cAT (wCons (wVar 6) (wCons (wVar 10) (wCons (wOp fEq (wVar 9) (wVar 2)) wNil)))))) (wB (wOp fNe (wCall bRepr (wCons (wVar 6) wNil)) (wVar 7)))) (wRet (wC (.bl false))) wNx))
    (wIfS (wOrT (wNot (wTru (wF cAT (wCons (wVar 6) (wCons (wOp fIx (wVar 8) (wC (.int 0))) (wCons (wC (.bl false)) wNil)))))) (wNot (wTru (wF cAT (wCons (wVar 6) (wCons (wOp fIx (wVar 8) (wNeg (wC (.int 1)))) (wCons (wC (.bl true)) wNil))))))) (wRet (wC (.bl false))) wNx))) [some (.ref 0), some (.ref j), some (.int (0 + i)), none, none, none, some x, e7, e8, e9, e10, none] S1 D' := fun many hm => by
        refine con_g (j, f, cs, i * 6000 + 1, 3, many, 2) ⟨rfl, hj2, by show i * 6000 + 1 < 2 ^ 40; omega, by show 3 ≤ 3; decide, hm, by show 2 ≤ 3; decide⟩ ?_
        rintro x S5 ⟨fs, rfl, hs, hj5, k5⟩
        exact rest 3 fs S5 hs (hj5.kept .refl (by show i * 6000 + 1 + 4096 ≤ _; omega))
      walk_at "go"
      by_cases ha0 : a = 0
      · have k8 := key 8 (by decide)
        rw [decide_eq_true (by omega)]
        walk_at "num"
        exact k8
      · have k6 := key 6 (by decide)
        rw [decide_eq_false (by omega)]
        walk_at "num"
        exact k6
  · rintro env S ⟨e2, e6, e7, e8, e9, e10, rfl, hj⟩
    refine ⟨eR0, ?_⟩
    walk_at "go"
    refine ⟨sl_le (by decide), sl_le (by decide), sl_le (by decide), sl_le (by decide), sl_le (by decide), sl_le (by decide), sl_le (by decide), sl_le (by decide), sl_le (by decide), sl_le (by decide), sl_le (by decide), sl_le (by decide), sl_le (by decide), sl_le (by decide), sl_le (by decide), sl_le (by decide), sl_le (by decide), sl_le (by decide), ?_⟩
    refine lc_inv (n := 4) (fun t S' => S'[S.length]? = some (.lst (List.replicate t (.bl true)))) ?_ ?_ (at_new _ _)
    · rintro t S' ht p1
      have hv : ([PV.int 0, .int 1, .int 2, .int 3] : List PV)[t]? = some (iN t) := by
        rcases (by omega : t = 0 ∨ t = 1 ∨ t = 2 ∨ t = 3) with rfl | rfl | rfl | rfl <;> rfl
      refine ⟨iN t, _, congrArg some hv, rfl, fun Qt Qe hq _ ht' => ?_⟩
      walk_at "go"
      refine ht' _ ?_
      walk_at "go"
      refine ⟨sl_le (by decide), ?_⟩
      refine con_g (1, [fstP, sndP], [t], _) ⟨rfl, sh_twice, ⟨rfl, fun v hv => ?_⟩⟩ ?_
      · rw [List.mem_singleton] at hv; omega
      rintro x S5 ⟨k5, rfl⟩
      have p2 := k5.at_ _ _ (by simp) p1
      refine hq _ _ _ p2 (sl_lt (by simp; omega)) ?_
      rw [at_set p2, List.replicate_succ']
    · rintro S' p1
      refine ⟨rfl, ?_⟩
      walk_at "go"
      refine ⟨sl_le (by decide), ?_⟩
      rw [show (4 : Int) = ((4 : Nat) : Int) from rfl, rep_ok (at_new _ _) (by decide) (by decide)]
      walk_at "go"
      rw [show ([[PV.bl true], [PV.bl true], [PV.bl true], [PV.bl true]] : List (List PV)).flatten = [.bl true, .bl true, .bl true, .bl true] from rfl]
      rw [fEq_trues (at_old (at_old p1)) (at_new _ _)]
      exact hP _ _ rfl
end Lw
set_option Elab.async false
set_option linter.all false
set_option maxRecDepth 100000
set_option maxHeartbeats 1000000
namespace Lw
open PySem PySem.Spec PyProof.Rows L2 Lt
theorem callee_none {P : Program} {w : World} {K : PySem.W.Frag} {mg : Str → Option Value} {base : Heap} {x : Str} {ps : List Str} {k : Nat} {c : Con} {st : Stmt} (D : Def K mg x ps st) (hc : ∀ xs S0 Q, ¬ c xs S0 Q) : Callee P w K mg base x ps st k c := by
  obtain ⟨f, fd, F, hm, hb, hi⟩ := D.ex
  refine ⟨f, fd, ⟨fun vs H Q E ⟨_, _, _, _, _, _, h, _⟩ => (hc _ _ _ h).elim, fun A outer s H args us vs Q E _ _ _ _ _ ⟨_, _, _, _, _, _, h, _⟩ => (hc _ _ _ h).elim⟩, hm, F.kp, fun s us _ hl => ?_, hi⟩
  rw [List.append_nil] at hl ⊢
  exact hb s us hl
abbrev lvl : Nat := 14
theorem law_true (ns : List Int) (h : ns.length ≤ 63) : conLaw [.ref 0] [.ro (ns.map .int)] fun y _ => y = .bl true := con_g ns ⟨rfl, h, rfl⟩ fun _ _ h => h
theorem law_ready {P : Program} {w : World} {K : PySem.W.Frag} {mg : Str → Option Value} {fa : Addr} (D : Defs K mg) (hfa : mg "law" = some (.ref fa)) :
    ∃ fd : FuncData, (∀ (s : Shared) (u : Value), BindsTo s fd ⟨[u], []⟩ [("script", u)]) ∧ ∀ base : Heap, K.In base → base.Ns mainGlobals mg → FnG P w K mg base CX0 lvl fa fd ["script"] (spC K conLaw) := by
  refine law_of (k := 13) (wb := b_law cJar cSS cSh cDr cRo cMx cAT) D.d_law rfl hfa sc_law (by rintro _ _ _ ⟨g, ⟨rfl, _⟩, _⟩; rfl) (fun base _ _ => ?_) pl_law
  have C_tb : Callee P w K mg base "taken_branch" P_taken_branch s_taken_branch 1 cTB := callee_of D.d_taken_branch sc_taken_branch (by rintro _ _ _ ⟨g, ⟨rfl, _⟩, _⟩; rfl) (jb_taken_branch D.T (k := 0)) pl_taken_branch
  have C_fo : Callee P w K mg base "followed" P_followed s_followed 2 cFo := callee_of D.d_followed sc_followed (by rintro _ _ _ ⟨g, ⟨rfl, _⟩, _⟩; rfl) (jb_followed D.T (k := 1) C_tb (by decide)) pl_followed
  have C_tv : Callee P w K mg base "true_values" P_true_values s_true_values 3 cTV := callee_of D.d_true_values sc_true_values (by rintro _ _ _ ⟨g, ⟨rfl, _⟩, _⟩; rfl) (jb_true_values D.T (k := 2) C_fo (by decide)) pl_true_values
  have C_rb : Callee P w K mg base "reads_by_values" P_reads_by_values s_reads_by_values 3 cRB := callee_of D.d_reads_by_values sc_reads_by_values (by rintro _ _ _ ⟨g, ⟨rfl, _⟩, _⟩; rfl) (jb_reads_by_values D.T (k := 2) C_fo (by decide)) pl_reads_by_values
  have C_val : Callee P w K mg base "true_value" P_true_value s_true_value 4 cTVal := callee_of D.d_true_value sc_true_value (by rintro _ _ _ ⟨g, ⟨rfl, _⟩, _⟩; rfl) (jb_true_value D.T (k := 3) C_tv (by decide)) pl_true_value
  have C_tr : Callee P w K mg base "true_reads" P_true_reads s_true_reads 4 cTR := callee_of D.d_true_reads sc_true_reads (by rintro _ _ _ ⟨g, ⟨rfl, _⟩, _⟩; rfl) (jb_true_reads D.T (k := 3) C_rb (by decide) C_tv (by decide)) pl_true_reads
  have C_jar : Callee P w K mg base "_law_jar" P_law_jar s_law_jar 1 cJar := callee_of D.d_law_jar sc_law_jar (by rintro _ _ _ ⟨g, ⟨rfl, _⟩, _⟩; rfl) (jb_law_jar D.T (k := 0)) pl_law_jar
  have C_dr : Callee P w K mg base "_law_draw" P_law_draw s_law_draw 1 cDr := callee_of D.d_law_draw sc_law_draw (by rintro _ _ _ ⟨g, ⟨rfl, _⟩, _⟩; rfl) (jb_law_draw D.T (k := 0)) pl_law_draw
  have C_pk : Callee P w K mg base "_law_pick" P_law_pick s_law_pick 2 cPk := callee_of D.d_law_pick sc_law_pick (by rintro _ _ _ ⟨g, ⟨rfl, _⟩, _⟩; rfl) (jb_law_pick D.T (k := 1) C_dr (by decide)) pl_law_pick
  have C_mx : Callee P w K mg base "_law_mixed" P_law_mixed s_law_mixed 2 cMx := callee_of D.d_law_mixed sc_law_mixed (by rintro _ _ _ ⟨g, ⟨rfl, _⟩, _⟩; rfl) (jb_law_mixed D.T (k := 1) C_dr (by decide)) pl_law_mixed
  have C_fm : ∀ d : Nat, Callee P w K mg base "_law_formula" P_law_formula s_law_formula (d + 2) (cFm d) := fun d => by
    induction d with
    | zero => exact callee_none D.d_law_formula fun xs S0 Q ⟨g, ⟨_, h, _⟩, _⟩ => Nat.not_lt_zero _ h
    | succ d ih => exact callee_of D.d_law_formula sc_law_formula (by rintro _ _ _ ⟨g, ⟨rfl, _⟩, _⟩; rfl) (jb_law_formula D.T (k := d + 2) C_dr (by omega) ih (Nat.le_refl _)) (pl_law_formula d)
  have C_sh : Callee P w K mg base "_law_sheet" P_law_sheet s_law_sheet 7 cSh := callee_of D.d_law_sheet sc_law_sheet (by rintro _ _ _ ⟨g, ⟨rfl, _⟩, _⟩; rfl) (jb_law_sheet D.T (k := 6) (C_fm 4) (by decide)) pl_law_sheet
  have C_lo : Callee P w K mg base "_law_longer" P_law_longer s_law_longer 1 cLo := callee_of D.d_law_longer sc_law_longer (by rintro _ _ _ ⟨g, ⟨rfl, _⟩, _⟩; rfl) (jb_law_longer D.T (k := 0)) pl_law_longer
  have C_ro : Callee P w K mg base "_law_rows" P_law_rows s_law_rows 2 cRo := callee_of D.d_law_rows sc_law_rows (by rintro _ _ _ ⟨g, ⟨rfl, _⟩, _⟩; rfl) (jb_law_rows D.T (k := 1) C_lo (by decide)) pl_law_rows
  have C_tab : Callee P w K mg base "_law_table" P_law_table s_law_table 1 cTab := callee_of D.d_law_table sc_law_table (by rintro _ _ _ ⟨g, ⟨rfl, _⟩, _⟩; rfl) (jb_law_table D.T (k := 0)) pl_law_table
  have C_ss : Callee P w K mg base "_law_some_sheet" P_law_some_sheet s_law_some_sheet 8 cSS := callee_of D.d_law_some_sheet sc_law_some_sheet (by rintro _ _ _ ⟨g, ⟨rfl, _⟩, _⟩; rfl) (jb_law_some_sheet D.T (k := 7) C_pk (by decide) C_sh (by decide) C_dr (by decide)) pl_law_some_sheet
  have C_at : Callee P w K mg base "_law_are_told" P_law_are_told s_law_are_told 5 cAT := callee_of D.d_law_are_told sc_law_are_told (by rintro _ _ _ ⟨g, ⟨rfl, _⟩, _⟩; rfl) (jb_law_are_told D.T (k := 4) C_tab (by decide) C_tr (by decide) C_val (by decide)) pl_law_are_told
  exact jb_law D.T (k := 13) C_jar (by decide) C_ss (by decide) C_sh (by decide) C_dr (by decide) C_ro (by decide) C_mx (by decide) C_at (by decide)
end Lw
open PySem PySem.W PyProof.Rows
set_option maxRecDepth 100000 in
set_option maxHeartbeats 0 in
theorem PySem.Challenge.cw_keptmarks_k02_whole_true_values_and_read_holds : PySem.Challenge.rw_keptmarks_k02_whole_true_values_and_read.Holds := by
  w_on; o_law; k_head; (case hw => w_witness2)
  k_fill
  refine Lt.walk_ltG (l := PySem.Challenge.rw_keptmarks_k02_whole_true_values_and_read) (c := Lw.conLaw) (k := Lw.lvl) (x := "script") rfl (by decide) rfl ⟨rfl, by decide, by decide⟩ (fun w h Y => PySem.W.kIn_of Y) ?F Lw.law_true
  case F =>
    intro w mg fa h KX G hmg
    refine Lw.law_ready ?D hmg
    case D =>
    refine' Lw.defs_mk KX G ?a_true_value ?l_true_value ?e_true_value ?k_true_value ?a_true_reads ?l_true_reads ?e_true_reads ?k_true_reads ?a_true_values ?l_true_values ?e_true_values ?k_true_values ?a_reads_by_values ?l_reads_by_values ?e_reads_by_values ?k_reads_by_values ?a_followed ?l_followed ?e_followed ?k_followed ?a_taken_branch ?l_taken_branch ?e_taken_branch ?k_taken_branch ?a_law_jar ?l_law_jar ?e_law_jar ?k_law_jar ?a_law_draw ?l_law_draw ?e_law_draw ?k_law_draw ?a_law_pick ?l_law_pick ?e_law_pick ?k_law_pick ?a_law_mixed ?l_law_mixed ?e_law_mixed ?k_law_mixed ?a_law_formula ?l_law_formula ?e_law_formula ?k_law_formula ?a_law_sheet ?l_law_sheet ?e_law_sheet ?k_law_sheet ?a_law_some_sheet ?l_law_some_sheet ?e_law_some_sheet ?k_law_some_sheet ?a_law_rows ?l_law_rows ?e_law_rows ?k_law_rows ?a_law_longer ?l_law_longer ?e_law_longer ?k_law_longer ?a_law_table ?l_law_table ?e_law_table ?k_law_table ?a_law_are_told ?l_law_are_told ?e_law_are_told ?k_law_are_told ?a_law ?l_law ?e_law ?k_law ?z_enumerate ?z_int ?z_isinstance ?z_len ?z_list ?z_min ?z_range ?z_repr ?z_tuple
    (case a_true_value => k_is); (case l_true_value => k_is); (case e_true_value => k_is); (case k_true_value => k_is)
    (case a_true_reads => k_is); (case l_true_reads => k_is); (case e_true_reads => k_is); (case k_true_reads => k_is)
    (case a_true_values => k_is); (case l_true_values => k_is); (case e_true_values => k_is); (case k_true_values => k_is)
    (case a_reads_by_values => k_is); (case l_reads_by_values => k_is); (case e_reads_by_values => k_is); (case k_reads_by_values => k_is)
    (case a_followed => k_is); (case l_followed => k_is); (case e_followed => k_is); (case k_followed => k_is)
    (case a_taken_branch => k_is); (case l_taken_branch => k_is); (case e_taken_branch => k_is); (case k_taken_branch => k_is)
    (case a_law_jar => k_is); (case l_law_jar => k_is); (case e_law_jar => k_is); (case k_law_jar => k_is)
    (case a_law_draw => k_is); (case l_law_draw => k_is); (case e_law_draw => k_is); (case k_law_draw => k_is)
    (case a_law_pick => k_is); (case l_law_pick => k_is); (case e_law_pick => k_is); (case k_law_pick => k_is)
    (case a_law_mixed => k_is); (case l_law_mixed => k_is); (case e_law_mixed => k_is); (case k_law_mixed => k_is)
    (case a_law_formula => k_is); (case l_law_formula => k_is); (case e_law_formula => k_is); (case k_law_formula => k_is)
    (case a_law_sheet => k_is); (case l_law_sheet => k_is); (case e_law_sheet => k_is); (case k_law_sheet => k_is)
    (case a_law_some_sheet => k_is); (case l_law_some_sheet => k_is); (case e_law_some_sheet => k_is); (case k_law_some_sheet => k_is)
    (case a_law_rows => k_is); (case l_law_rows => k_is); (case e_law_rows => k_is); (case k_law_rows => k_is)
    (case a_law_longer => k_is); (case l_law_longer => k_is); (case e_law_longer => k_is); (case k_law_longer => k_is)
    (case a_law_table => k_is); (case l_law_table => k_is); (case e_law_table => k_is); (case k_law_table => k_is)
    (case a_law_are_told => k_is); (case l_law_are_told => k_is); (case e_law_are_told => k_is); (case k_law_are_told => k_is)
    (case a_law => k_is); (case l_law => k_is); (case e_law => k_is); (case k_law => k_is)
    (case z_enumerate => k_is)
    (case z_int => k_is)
    (case z_isinstance => k_is)
    (case z_len => k_is)
    (case z_list => k_is)
    (case z_min => k_is)
    (case z_range => k_is)
    (case z_repr => k_is)
    (case z_tuple => k_is)
