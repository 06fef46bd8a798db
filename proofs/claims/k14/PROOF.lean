import PyProof.Rows.All
import HandS.ForMost
import HandS.Deep
import HandS.TupMul
import HandS.TupAny
import HandS.IsInst
import HandS.Style
import HandS.Wide
import HandS.More
import HandS.Ends
import HandS.Words
import KE.GoesEnum
import HandS.Zip
import HandS.FStr
import HandS.StrMore
import HandS.RaiseMore
import PySem.Challenge.RW_keptmarks_k14_whole_texts_of_books
set_option Elab.async false
set_option linter.all false
set_option maxRecDepth 100000
/-! Lt1: plain values and stores, how they lie in the abstract heap; readings over them. -/
namespace Lt
open PySem PySem.Spec PyProof.Rows L2

/-- a plain value: tuples by value, lists and dicts by their number in the store -/
inductive PV where
  | non | bl (b : Bool) | int (i : Int) | str (x : Str) | tup (xs : List PV) | ref (n : Nat) | ty (n : String)
/-- what the store holds -/
inductive Cell where
  | lst (xs : List PV)
  | ro (xs : List PV)
  | dic (kvs : List (Key × PV))
abbrev Store := List Cell
abbrev PEnv := List (Option PV)
abbrev LSt := L2.St

section
variable (K : PySem.W.Frag) (ι : List Addr) (H : Hp)
mutual
inductive RV : PV → V → Prop
  | non : RV .non .non
  | bl (b : Bool) : RV (.bl b) (.bl b)
  | int (i : Int) : RV (.int i) (.int i)
  | str (x : Str) : RV (.str x) (.str x)
  | ty (n : String) : RV (.ty n) (.ty n)
  | tup {xs : List PV} {a : Addr} {us : List V} : SqT K H a us → RVs xs us → RV (.tup xs) (.ref a)
  | ref {n : Nat} {a : Addr} : ι[n]? = some a → RV (.ref n) (.ref a)
inductive RVs : List PV → List V → Prop
  | nil : RVs [] []
  | cons {x : PV} {v : V} {xs : List PV} {vs : List V} : RV x v → RVs xs vs → RVs (x :: xs) (v :: vs)
end
/-- a list that may only be read: locked, or of the module -/
def RoL (a : Addr) (us : List V) : Prop :=
  (∃ o, H a = some (.frz o (.lst us))) ∨
    ∃ (o : Obj) (its : Array Value) (n : Nat), K.lookup a = some o ∧ o.cls = .type "list" ∧ o.dict = none ∧ o.data = .seq its n ∧ its.size ≤ sizeLine ∧ Vals us its.toList
inductive RKs : List (Key × PV) → List (Key × V) → Prop
  | nil : RKs [] []
  | cons {k : Key} {x : PV} {v : V} {xs : List (Key × PV)} {vs : List (Key × V)} : RV K ι H x v → RKs xs vs → RKs ((k, x) :: xs) ((k, v) :: vs)
def CellOk (a : Addr) : Cell → Prop
  | .lst xs => ∃ us, H a = some (.lst us) ∧ RVs K ι H xs us
  | .ro xs => ∃ us, RoL K H a us ∧ RVs K ι H xs us
  | .dic kvs => ∃ us, H a = some (.dK us) ∧ RKs K ι H kvs us
def Cell.mut : Cell → Bool
  | .ro _ => false
  | _ => true
/-- the store as it lies in the heap -/
structure RS (S : Store) : Prop where
  len : ι.length = S.length
  at_ : ∀ (n : Nat) (c : Cell), S[n]? = some c → ∃ a, ι[n]? = some a ∧ CellOk K ι H a c
  inj : ∀ (n m : Nat) (c d : Cell) (a : Addr), S[n]? = some c → S[m]? = some d → c.mut = true → d.mut = true → ι[n]? = some a → ι[m]? = some a → n = m
/-- the frame's values -/
structure REnv (env : PEnv) (σ : LSt) : Prop where
  len : env.length = σ.length
  at_ : ∀ (i : Nat) (x : PV), env[i]? = some (some x) → ∃ v, σ[i]? = some (some v) ∧ RV K ι H x v
end

/-- what may have come since -/
structure Ext (ι ι' : List Addr) (H H' : Hp) : Prop where
  pre : ∀ (n : Nat) (a : Addr), ι[n]? = some a → ι'[n]? = some a
  tup : ∀ a us, Rd H a (.tup us) → Rd H' a (.tup us)
theorem Ext.refl {ι : List Addr} {H : Hp} : Ext ι ι H H := ⟨fun _ _ h => h, fun _ _ h => h⟩
theorem Ext.trans {ι1 ι2 ι3 : List Addr} {H1 H2 H3 : Hp} (a : Ext ι1 ι2 H1 H2) (b : Ext ι2 ι3 H2 H3) : Ext ι1 ι3 H1 H3 :=
  ⟨fun n x h => b.pre n x (a.pre n x h), fun x us h => b.tup x us (a.tup x us h)⟩

section
variable {K : PySem.W.Frag} {ι ι' : List Addr} {H H' : Hp}
theorem Ext.sqT (e : Ext ι ι' H H') {a : Addr} {us : List V} (h : SqT K H a us) : SqT K H' a us := by
  rcases h with h | h
  · exact .inl (e.tup a us h)
  · exact .inr h
mutual
theorem RV.mono (e : Ext ι ι' H H') : ∀ {x : PV} {v : V}, RV K ι H x v → RV K ι' H' x v
  | _, _, .non => .non
  | _, _, .bl b => .bl b
  | _, _, .int i => .int i
  | _, _, .str x => .str x
  | _, _, .ty n => .ty n
  | _, _, .tup s r => .tup (e.sqT s) (RVs.mono e r)
  | _, _, .ref h => .ref (e.pre _ _ h)
theorem RVs.mono (e : Ext ι ι' H H') : ∀ {xs : List PV} {vs : List V}, RVs K ι H xs vs → RVs K ι' H' xs vs
  | _, _, .nil => .nil
  | _, _, .cons r t => .cons (RV.mono e r) (RVs.mono e t)
end
theorem RKs.mono (e : Ext ι ι' H H') : ∀ {xs : List (Key × PV)} {vs : List (Key × V)}, RKs K ι H xs vs → RKs K ι' H' xs vs
  | _, _, .nil => .nil
  | _, _, .cons r t => .cons (r.mono e) (RKs.mono e t)
theorem REnv.mono (e : Ext ι ι' H H') {env : PEnv} {σ : LSt} (h : REnv K ι H env σ) : REnv K ι' H' env σ :=
  ⟨h.len, fun i x hx => let ⟨v, h1, h2⟩ := h.at_ i x hx; ⟨v, h1, h2.mono e⟩⟩

theorem RVs.length : ∀ {xs : List PV} {vs : List V}, RVs K ι H xs vs → xs.length = vs.length
  | _, _, .nil => rfl
  | _, _, .cons _ t => congrArg (· + 1) (RVs.length t)
theorem RVs.get : ∀ {xs : List PV} {vs : List V} {i : Nat} {x : PV}, RVs K ι H xs vs → xs[i]? = some x → ∃ v, vs[i]? = some v ∧ RV K ι H x v
  | _, _, _, _, .nil, e => by simp at e
  | _, _, 0, _, .cons r _, e => by simp at e; subst e; exact ⟨_, rfl, r⟩
  | _, _, i + 1, x, .cons _ t, e => by
    obtain ⟨v, h1, h2⟩ := RVs.get (i := i) (x := x) t (by simpa using e)
    exact ⟨v, by simpa using h1, h2⟩
theorem RVs.get' : ∀ {xs : List PV} {vs : List V} {i : Nat} {v : V}, RVs K ι H xs vs → vs[i]? = some v → ∃ x, xs[i]? = some x ∧ RV K ι H x v
  | _, _, _, _, .nil, e => by simp at e
  | _, _, 0, _, .cons r _, e => by simp at e; subst e; exact ⟨_, rfl, r⟩
  | _, _, i + 1, v, .cons _ t, e => by
    obtain ⟨x, h1, h2⟩ := RVs.get' (i := i) (v := v) t (by simpa using e)
    exact ⟨x, by simpa using h1, h2⟩
theorem RVs.append : ∀ {xs ys : List PV} {vs us : List V}, RVs K ι H xs vs → RVs K ι H ys us → RVs K ι H (xs ++ ys) (vs ++ us)
  | _, _, _, _, .nil, s => s
  | _, _, _, _, .cons r t, s => .cons r (RVs.append t s)
theorem RVs.take : ∀ {xs : List PV} {vs : List V} (n : Nat), RVs K ι H xs vs → RVs K ι H (xs.take n) (vs.take n)
  | _, _, 0, _ => .nil
  | _, _, _ + 1, .nil => .nil
  | _, _, n + 1, .cons r t => .cons r (RVs.take n t)
theorem RVs.drop : ∀ {xs : List PV} {vs : List V} (n : Nat), RVs K ι H xs vs → RVs K ι H (xs.drop n) (vs.drop n)
  | _, _, 0, r => r
  | _, _, _ + 1, .nil => .nil
  | _, _, n + 1, .cons _ t => RVs.drop n t
theorem RVs.set {x : PV} {v : V} (r : RV K ι H x v) : ∀ {xs : List PV} {vs : List V} (i : Nat), RVs K ι H xs vs → RVs K ι H (xs.set i x) (vs.set i v)
  | _, _, _, .nil => .nil
  | _, _, 0, .cons _ t => .cons r t
  | _, _, i + 1, .cons q t => .cons q (RVs.set r i t)
theorem RVs.eraseIdx : ∀ {xs : List PV} {vs : List V} (i : Nat), RVs K ι H xs vs → RVs K ι H (xs.eraseIdx i) (vs.eraseIdx i)
  | _, _, _, .nil => .nil
  | _, _, 0, .cons _ t => t
  | _, _, i + 1, .cons q t => .cons q (RVs.eraseIdx i t)
theorem RVs.snoc {xs : List PV} {vs : List V} {x : PV} {v : V} (h : RVs K ι H xs vs) (r : RV K ι H x v) : RVs K ι H (xs ++ [x]) (vs ++ [v]) := h.append (.cons r .nil)
theorem RVs.dropLast {xs : List PV} {vs : List V} (h : RVs K ι H xs vs) : RVs K ι H xs.dropLast vs.dropLast := by
  rw [List.dropLast_eq_take, List.dropLast_eq_take, h.length]
  exact h.take _
theorem RVs.rep {xs : List PV} {vs : List V} (h : RVs K ι H xs vs) : ∀ k : Nat, RVs K ι H (List.replicate k xs).flatten (List.replicate k vs).flatten
  | 0 => .nil
  | k + 1 => by
    rw [List.replicate_succ, List.replicate_succ, List.flatten_cons, List.flatten_cons]
    exact h.append (RVs.rep h k)

/-! ### a new object, a written object -/
theorem rd_new {p : Addr} {o : HO} (hp : H p = none) {a : Addr} {u : HO} (h : Rd H a u) : Rd (upd H p o) a u := by
  rcases h with h | ⟨ob, h⟩
  · exact .inl (by rw [upd_ne (ne_of_none h hp)]; exact h)
  · exact .inr ⟨ob, by rw [upd_ne (ne_of_none h hp)]; exact h⟩
theorem ext_new {p : Addr} {o : HO} {l : List Addr} (hp : H p = none) : Ext ι (ι ++ l) H (upd H p o) :=
  ⟨fun n a h => by rw [List.getElem?_append_left (List.getElem?_eq_some_iff.mp h).1]; exact h, fun a us h => rd_new hp h⟩
theorem RoL.new {p : Addr} {o : HO} (hp : H p = none) {a : Addr} {us : List V} (h : RoL K H a us) : RoL K (upd H p o) a us := by
  rcases h with ⟨ob, h⟩ | h
  · exact .inl ⟨ob, by rw [upd_ne (ne_of_none h hp)]; exact h⟩
  · exact .inr h
theorem CellOk.new {p : Addr} {o : HO} {l : List Addr} (hp : H p = none) {a : Addr} {c : Cell} (h : CellOk K ι H a c) : CellOk K (ι ++ l) (upd H p o) a c := by
  cases c with
  | lst xs => obtain ⟨us, h1, h2⟩ := h; exact ⟨us, by rw [upd_ne (ne_of_none h1 hp)]; exact h1, h2.mono (ext_new hp)⟩
  | ro xs => obtain ⟨us, h1, h2⟩ := h; exact ⟨us, h1.new hp, h2.mono (ext_new hp)⟩
  | dic xs => obtain ⟨us, h1, h2⟩ := h; exact ⟨us, by rw [upd_ne (ne_of_none h1 hp)]; exact h1, h2.mono (ext_new hp)⟩
theorem CellOk.tracked {a : Addr} {c : Cell} (h : CellOk K ι H a c) (m : c.mut = true) : ∃ o, H a = some o ∧ (∀ us, o ≠ .tup us) ∧ ∀ ob u, o ≠ .frz ob u := by
  cases c with
  | lst xs => obtain ⟨us, h1, _⟩ := h; exact ⟨_, h1, (fun _ z => by cases z), (fun _ _ z => by cases z)⟩
  | ro xs => cases m
  | dic xs => obtain ⟨us, h1, _⟩ := h; exact ⟨_, h1, (fun _ z => by cases z), (fun _ _ z => by cases z)⟩
/-- a tuple is laid: the store stays -/
theorem RS.tup {S : Store} {p : Addr} {o : HO} (h : RS K ι H S) (hp : H p = none) : RS K ι (upd H p o) S := by
  refine ⟨h.len, fun n c hc => ?_, h.inj⟩
  obtain ⟨a, h1, h2⟩ := h.at_ n c hc
  have := h2.new (o := o) (l := []) hp
  rw [List.append_nil] at this
  exact ⟨a, h1, this⟩
/-- a cell is laid -/
theorem RS.cell {S : Store} {p : Addr} {o : HO} {c : Cell} (h : RS K ι H S) (hp : H p = none) (hc : CellOk K (ι ++ [p]) (upd H p o) p c) : RS K (ι ++ [p]) (upd H p o) (S ++ [c]) := by
  refine ⟨by rw [List.length_append, List.length_append, h.len]; rfl, fun n d hd => ?_, fun n m c1 d1 a hn hm m1 m2 an am => ?_⟩
  · by_cases hl : n < S.length
    · rw [List.getElem?_append_left hl] at hd
      obtain ⟨a, h1, h2⟩ := h.at_ n d hd
      exact ⟨a, by rw [List.getElem?_append_left (by rw [h.len]; exact hl)]; exact h1, h2.new hp⟩
    · have e : n = S.length := by
        have := (List.getElem?_eq_some_iff.mp hd).1
        rw [List.length_append] at this
        simp at this
        omega
      subst e
      rw [List.getElem?_append_right (Nat.le_refl _), Nat.sub_self] at hd
      have : c = d := by simpa using hd
      subst this
      exact ⟨p, by rw [← h.len, List.getElem?_append_right (Nat.le_refl _), Nat.sub_self]; rfl, hc⟩
  · have key : ∀ (i : Nat) (e : Cell), (S ++ [c])[i]? = some e → e.mut = true → (ι ++ [p])[i]? = some a → (i < S.length ∧ S[i]? = some e ∧ ι[i]? = some a) ∨ (i = S.length ∧ a = p) := by
      intro i e he hm' ha
      by_cases hl : i < S.length
      · rw [List.getElem?_append_left hl] at he
        rw [List.getElem?_append_left (by rw [h.len]; exact hl)] at ha
        exact .inl ⟨hl, he, ha⟩
      · have e' : i = S.length := by
          have := (List.getElem?_eq_some_iff.mp he).1
          rw [List.length_append] at this
          simp at this
          omega
        subst e'
        rw [← h.len, List.getElem?_append_right (Nat.le_refl _), Nat.sub_self] at ha
        exact .inr ⟨rfl, by simpa using ha.symm⟩
    have clash : ∀ (i : Nat) (e : Cell), S[i]? = some e → e.mut = true → ι[i]? = some a → a ≠ p := by
      intro i e he hm' ha
      obtain ⟨a', h1, h2⟩ := h.at_ i e he
      rw [ha] at h1; cases h1
      obtain ⟨o', ho, _⟩ := h2.tracked hm'
      exact ne_of_none ho hp
    rcases key n c1 hn m1 an with ⟨_, q1, q2⟩ | ⟨q1, q2⟩
    · rcases key m d1 hm m2 am with ⟨_, r1, r2⟩ | ⟨r1, r2⟩
      · exact h.inj n m c1 d1 a q1 r1 m1 m2 q2 r2
      · exact absurd r2 (clash n c1 q1 m1 q2)
    · rcases key m d1 hm m2 am with ⟨_, r1, r2⟩ | ⟨r1, r2⟩
      · exact absurd q2 (clash m d1 r1 m2 r2)
      · rw [q1, r1]
/-- a written object is no tuple: values stay -/
theorem ext_upd {a : Addr} {o o' : HO} (ha : H a = some o) (h1 : ∀ us, o ≠ .tup us) (h2 : ∀ ob u, o ≠ .frz ob u) : Ext ι ι H (upd H a o') := by
  refine ⟨fun _ _ h => h, fun b us h => ?_⟩
  rcases h with h | ⟨ob, h⟩
  · exact .inl (by rw [upd_ne (fun z => by subst z; rw [ha] at h; exact h1 us (Option.some.inj h))]; exact h)
  · exact .inr ⟨ob, by rw [upd_ne (fun z => by subst z; rw [ha] at h; exact h2 _ _ (Option.some.inj h))]; exact h⟩
/-- the cell n is written -/
theorem RS.write {S : Store} {n : Nat} {a : Addr} {c c' : Cell} {o' : HO} (h : RS K ι H S) (hn : S[n]? = some c) (ha : ι[n]? = some a) (hm : c.mut = true) (hm' : c'.mut = true)
    (hc : Ext ι ι H (upd H a o') → CellOk K ι (upd H a o') a c') : RS K ι (upd H a o') (S.set n c') ∧ Ext ι ι H (upd H a o') := by
  obtain ⟨a', h1, h2⟩ := h.at_ n c hn
  rw [ha] at h1; cases h1
  obtain ⟨o, ho, ht, hf⟩ := h2.tracked hm
  have E : Ext ι ι H (upd H a o') := ext_upd ho ht hf
  have hnl : n < S.length := (List.getElem?_eq_some_iff.mp hn).1
  refine ⟨⟨by rw [List.length_set]; exact h.len, fun m d hd => ?_, fun m1 m2 d1 d2 b e1 e2 q1 q2 b1 b2 => ?_⟩, E⟩
  · by_cases hmn : m = n
    · subst hmn
      rw [List.getElem?_set_self hnl] at hd
      cases hd
      exact ⟨a, ha, hc E⟩
    · rw [List.getElem?_set_ne (Ne.symm hmn)] at hd
      obtain ⟨b, b1, b2⟩ := h.at_ m d hd
      refine ⟨b, b1, ?_⟩
      have neb : d.mut = true → b ≠ a := fun dm z => by
        subst z
        exact hmn (h.inj m n d c b hd hn dm hm b1 ha)
      cases d with
      | lst xs => obtain ⟨us, u1, u2⟩ := b2; exact ⟨us, by rw [upd_ne (neb rfl)]; exact u1, u2.mono E⟩
      | dic xs => obtain ⟨us, u1, u2⟩ := b2; exact ⟨us, by rw [upd_ne (neb rfl)]; exact u1, u2.mono E⟩
      | ro xs =>
        obtain ⟨us, u1, u2⟩ := b2
        refine ⟨us, ?_, u2.mono E⟩
        rcases u1 with ⟨ob, u1⟩ | u1
        · exact .inl ⟨ob, by rw [upd_ne (fun z => by subst z; rw [ho] at u1; exact hf _ _ (Option.some.inj u1))]; exact u1⟩
        · exact .inr u1
  · have kind : ∀ (m : Nat) (d : Cell), (S.set n c')[m]? = some d → d.mut = true → ∃ d', S[m]? = some d' ∧ d'.mut = true := fun m d e q => by
      by_cases hmn : m = n
      · subst hmn; exact ⟨c, hn, hm⟩
      · rw [List.getElem?_set_ne (Ne.symm hmn)] at e
        exact ⟨d, e, q⟩
    obtain ⟨d1', f1, g1⟩ := kind m1 d1 e1 q1
    obtain ⟨d2', f2, g2⟩ := kind m2 d2 e2 q2
    exact h.inj m1 m2 d1' d2' b f1 f2 g1 g2 b1 b2
/-- a list of the store, to be read -/
def Cell.items : Cell → Option (List PV)
  | .lst xs => some xs
  | .ro xs => some xs
  | .dic _ => none
theorem RS.seq {S : Store} {n : Nat} {c : Cell} {xs : List PV} (h : RS K ι H S) (hn : S[n]? = some c) (hx : c.items = some xs) : ∃ a us, ι[n]? = some a ∧ SqL K H a us ∧ RVs K ι H xs us := by
  obtain ⟨a, h1, h2⟩ := h.at_ n c hn
  cases c with
  | lst ys => cases hx; obtain ⟨us, u1, u2⟩ := h2; exact ⟨a, us, h1, SqL.of u1, u2⟩
  | ro ys =>
    cases hx
    obtain ⟨us, u1, u2⟩ := h2
    refine ⟨a, us, h1, ?_, u2⟩
    rcases u1 with ⟨ob, u1⟩ | u1
    · exact .inl (.inr ⟨ob, u1⟩)
    · exact .inr u1
  | dic ys => cases hx
theorem RS.lst {S : Store} {n : Nat} {xs : List PV} (h : RS K ι H S) (hn : S[n]? = some (.lst xs)) : ∃ a us, ι[n]? = some a ∧ H a = some (.lst us) ∧ RVs K ι H xs us := by
  obtain ⟨a, h1, us, u1, u2⟩ := h.at_ n _ hn
  exact ⟨a, us, h1, u1, u2⟩
theorem RS.dic {S : Store} {n : Nat} {xs : List (Key × PV)} (h : RS K ι H S) (hn : S[n]? = some (.dic xs)) : ∃ a us, ι[n]? = some a ∧ H a = some (.dK us) ∧ RKs K ι H xs us := by
  obtain ⟨a, h1, us, u1, u2⟩ := h.at_ n _ hn
  exact ⟨a, us, h1, u1, u2⟩
end

/-! ### readings -/
abbrev PQ := PV → Store → Prop
abbrev W := PEnv → Store → PQ → Prop
/-- what is wanted of a plain end -/
def Fin (K : PySem.W.Frag) (ι : List Addr) (H : Hp) (Q : VK) (x : PV) (S' : Store) : Prop := ∀ ι' H' v, Ext ι ι' H H' → RS K ι' H' S' → RV K ι' H' x v → Q v H'
theorem Fin.ext {K : PySem.W.Frag} {ι ι1 : List Addr} {H H1 : Hp} {Q : VK} {x : PV} {S' : Store} (e : Ext ι ι1 H H1) (h : Fin K ι H Q x S') : Fin K ι1 H1 Q x S' := fun ι' H' v e' => h ι' H' v (e.trans e')
/-- the reading of a plain one -/
def tW (K : PySem.W.Frag) (w : W) : TE := fun σ H Q => ∃ ι env S, ∃ P : PQ, REnv K ι H env σ ∧ RS K ι H S ∧ w env S P ∧ ∀ x S', P x S' → Fin K ι H Q x S'
structure RE (X : Cx) (e : Expr) (w : W) : Prop where
  pe : PE X e (tW X.K w)
theorem PE.weak {X : Cx} {e : Expr} {t t' : TE} (h : PE X e t) (i : ∀ σ H Q, t' σ H Q → t σ H Q) : PE X e t' := ⟨fun pins s σ H Q I q => h.run pins s σ H Q I (i σ H Q q)⟩
/-- a plain thing goes on with a value -/
def tK (K : PySem.W.Frag) (k : PV → W) (v : V) : LSt → Hp → VK → Prop := fun σ H Q => ∃ ι env S x, ∃ P : PQ, REnv K ι H env σ ∧ RS K ι H S ∧ RV K ι H x v ∧ k x env S P ∧ ∀ x S', P x S' → Fin K ι H Q x S'
def tK2 (K : PySem.W.Frag) (k : PV → PV → W) (v u : V) : LSt → Hp → VK → Prop := fun σ H Q => ∃ ι env S x y, ∃ P : PQ, REnv K ι H env σ ∧ RS K ι H S ∧ RV K ι H x v ∧ RV K ι H y u ∧ k x y env S P ∧ ∀ x S', P x S' → Fin K ι H Q x S'
section
variable {K : PySem.W.Frag} {σ : LSt} {H : Hp} {Q : VK}
theorem tW_bind {wa : W} {k : PV → W} (h : tW K (fun env S P => wa env S fun x S1 => k x env S1 P) σ H Q) : tW K wa σ H fun v H1 => tK K k v σ H1 Q := by
  obtain ⟨ι, env, S, P, re, rs, hw, hP⟩ := h
  exact ⟨ι, env, S, _, re, rs, hw, fun x S1 hk ι1 H1 v e1 rs1 rx => ⟨ι1, env, S1, x, P, re.mono e1, rs1, rx, hk, fun y S' hy => (hP y S' hy).ext e1⟩⟩
theorem tK_bind {wb : W} {v : V} {k : PV → PV → W} (h : tK K (fun x env S P => wb env S fun y S1 => k x y env S1 P) v σ H Q) : tW K wb σ H fun u H1 => tK2 K k v u σ H1 Q := by
  obtain ⟨ι, env, S, x, P, re, rs, rx, hw, hP⟩ := h
  exact ⟨ι, env, S, _, re, rs, hw, fun y S1 hk ι1 H1 u e1 rs1 ry => ⟨ι1, env, S1, x, y, P, re.mono e1, rs1, rx.mono e1, ry, hk, fun z S' hz => (hP z S' hz).ext e1⟩⟩
end
/-- a reckoned end -/
def opt (r : Option (PV × Store)) (Q : PQ) : Prop := match r with
  | some (x, S) => Q x S
  | none => False
end Lt
set_option Elab.async false
set_option linter.all false
set_option maxRecDepth 100000
/-! Lt2: expressions. -/
namespace Lt
open PySem PySem.Spec PyProof.Rows L2

section
variable {K : PySem.W.Frag} {σ : LSt} {H : Hp} {Q : VK}
theorem tW_imp {w : W} {Q' : VK} (h : tW K w σ H Q) (i : ∀ v H1, Q v H1 → Q' v H1) : tW K w σ H Q' := by
  obtain ⟨ι, env, S, P, re, rs, hw, hP⟩ := h
  exact ⟨ι, env, S, P, re, rs, hw, fun x S' hx ι' H' v e r q => i v H' (hP x S' hx ι' H' v e r q)⟩
end

/-! ### argument lists -/
abbrev WA := PEnv → Store → (List PV → Store → Prop) → Prop
def FinA (K : PySem.W.Frag) (ι : List Addr) (H : Hp) (Q : List V → Hp → Prop) (xs : List PV) (S' : Store) : Prop := ∀ ι' H' vs, Ext ι ι' H H' → RS K ι' H' S' → RVs K ι' H' xs vs → Q vs H'
theorem FinA.ext {K : PySem.W.Frag} {ι ι1 : List Addr} {H H1 : Hp} {Q : List V → Hp → Prop} {xs : List PV} {S' : Store} (e : Ext ι ι1 H H1) (h : FinA K ι H Q xs S') : FinA K ι1 H1 Q xs S' := fun ι' H' vs e' => h ι' H' vs (e.trans e')
def tWA (K : PySem.W.Frag) (w : WA) : TA := fun σ H Q => ∃ ι env S, ∃ P : List PV → Store → Prop, REnv K ι H env σ ∧ RS K ι H S ∧ w env S P ∧ ∀ xs S', P xs S' → FinA K ι H Q xs S'
structure RA (X : Cx) (es : List Expr) (w : WA) : Prop where
  pa : PA X es (tWA X.K w)
theorem PA.weak {X : Cx} {es : List Expr} {t t' : TA} (h : PA X es t) (i : ∀ σ H Q, t' σ H Q → t σ H Q) : PA X es t' := ⟨fun pos pins s σ H Q I q => h.run pos pins s σ H Q I (i σ H Q q)⟩
def wNil : WA := fun _ S P => P [] S
def wCons (w : W) (r : WA) : WA := fun env S P => w env S fun x S1 => r env S1 fun xs S2 => P (x :: xs) S2
theorem ra_nil {X : Cx} : RA X [] wNil := ⟨PA.weak pa_nil fun σ H Q ⟨ι, env, S, P, re, rs, hw, hP⟩ => hP [] S hw ι H [] .refl rs .nil⟩
theorem ra_cons {X : Cx} {e : Expr} {es : List Expr} {w : W} {r : WA} (h : RE X e w) (hr : RA X es r) (hs : starEach (e :: es) X.env = (false, eval e X.env) :: starEach es X.env := by rfl) : RA X (e :: es) (wCons w r) := by
  refine ⟨PA.weak (pa_cons h.pe hr.pa hs) fun σ H Q ⟨ι, env, S, P, re, rs, hw, hP⟩ => ?_⟩
  refine ⟨ι, env, S, _, re, rs, hw, fun x S1 hk ι1 H1 v e1 rs1 rx => ⟨ι1, env, S1, _, re.mono e1, rs1, hk, fun xs S2 hx ι2 H2 vs e2 rs2 rxs => ?_⟩⟩
  exact hP _ _ hx ι2 H2 _ (e1.trans e2) rs2 (.cons (rx.mono e2) rxs)

/-! ### names, constants -/
def wVar (i : Nat) : W := fun env S P => match env[i]? with
  | some (some x) => P x S
  | _ => False
theorem re_var {X : Cx} (i : Nat) {x : Str} {pos : Pos} (hN : X.N[i]? = some x := by rfl) (hv : Vis X.env.scope x := by first | exact Or.inl rfl | exact Or.inr (Or.inl rfl) | exact Or.inr (Or.inr rfl))
    (hd : (x == ("__debug__" : Str)) = false := by decide) (hcd : (x == ("__classdict__" : Str)) = false := by decide) : RE X (.Name x pos) (wVar i) := by
  refine ⟨PE.weak (pe_var hN hv hd hcd) fun σ H Q ⟨ι, env, S, P, re, rs, hw, hP⟩ => ?_⟩
  unfold wVar at hw
  split at hw
  · rename_i x hx
    obtain ⟨v, h1, h2⟩ := re.at_ i x hx
    exact ⟨v, h1, hP _ _ hw ι H v .refl rs h2⟩
  · exact hw.elim
def wC (x : PV) : W := fun _ S P => P x S
theorem re_c {X : Cx} {e : Expr} {x : PV} {v : V} (h : PE X e (tC v)) (r : ∀ ι H, RV X.K ι H x v) : RE X e (wC x) :=
  ⟨PE.weak h fun σ H Q ⟨ι, env, S, P, re, rs, hw, hP⟩ => hP _ _ hw ι H v .refl rs (r ι H)⟩
theorem re_int {X : Cx} {i j pos} : RE X (.Constant (.int i) j pos) (wC (.int i)) := re_c pe_int fun _ _ => .int i
theorem re_bl {X : Cx} {b j pos} : RE X (.Constant (.bool b) j pos) (wC (.bl b)) := re_c pe_bl fun _ _ => .bl b
theorem re_non {X : Cx} {j pos} : RE X (.Constant .none j pos) (wC .non) := re_c pe_non fun _ _ => .non
theorem re_str {X : Cx} {x j pos} : RE X (.Constant (.str x) j pos) (wC (.str x)) := re_c pe_str fun _ _ => .str x
/-- a module's value that never changes -/
structure GC (X : Cx) (x : Str) (c : PV) : Prop where
  ex : ∃ u v, X.mg x = some u ∧ RelV v u ∧ ∀ ι H, RV X.K ι H c v
theorem re_glob {X : Cx} {x : Str} {pos : Pos} {c : PV} (g : GC X x c) (hg : Gl X x) (hd : (x == ("__debug__" : Str)) = false := by decide) : RE X (.Name x pos) (wC c) := by
  obtain ⟨u, v, h1, h2, h3⟩ := g.ex
  exact re_c (pe_glob hg h1 h2 hd) h3

/-! ### operations by values -/
abbrev F2 := PV → PV → Store → Option (PV × Store)
def rOp (K : PySem.W.Frag) (f : F2) : R2 := fun u v H Q => ∃ ι S x y, ∃ P : PQ, RS K ι H S ∧ RV K ι H x u ∧ RV K ι H y v ∧ opt (f x y S) P ∧ ∀ z S', P z S' → Fin K ι H Q z S'
def wOp (f : F2) (wa wb : W) : W := fun env S P => wa env S fun x S1 => wb env S1 fun y S2 => opt (f x y S2) P
theorem tOp_of {K : PySem.W.Frag} {f : F2} {wa wb : W} {σ : LSt} {H : Hp} {Q : VK} (h : tW K (wOp f wa wb) σ H Q) : tOp (rOp K f) (tW K wa) (tW K wb) σ H Q := by
  refine tW_imp (tW_bind (k := fun x env S P => wb env S fun y S2 => opt (f x y S2) P) h) fun v H1 h1 => ?_
  refine tW_imp (tK_bind (k := fun x y env S P => opt (f x y S) P) h1) fun u H2 h2 => ?_
  obtain ⟨ι, env, S, x, y, P, re, rs, rx, ry, hw, hP⟩ := h2
  exact ⟨ι, S, x, y, P, rs, rx, ry, hw, hP⟩
section
variable {X : Cx} {a b c e : Expr} {wa wb wc : W} {pos : Pos}
theorem re_bin {op : Operator} {f : F2} (ho : OpR X (binaryOp op) (rOp X.K f)) (ha : RE X a wa) (hb : RE X b wb) : RE X (.BinOp a op b pos) (wOp f wa wb) :=
  ⟨PE.weak (pe_op ho ha.pe hb.pe) fun _ _ _ h => tOp_of h⟩
theorem re_cmp {op : CmpOp} {f : F2} (ho : OpR X (compareOp op) (rOp X.K f)) (ha : RE X a wa) (hb : RE X b wb) (hm : behindInMarks op b = false) : RE X (.Compare a [op] [b] pos) (wOp f wa wb) :=
  ⟨PE.weak (pe_cmpR ho ha.pe hb.pe hm) fun _ _ _ h => tOp_of h⟩
end

def cut (n : Nat) (r : PV × Store) : Option (PV × Store) := if n ≤ sizeLine then some r else none
def fAdd : F2
  | .int i, .int j, S => some (.int (i + j), S)
  | .str x, .str y, S => cut (x.length + y.length) (.str (x ++ y), S)
  | .tup xs, .tup ys, S => cut (xs.length + ys.length) (.tup (xs ++ ys), S)
  | .ref n, .ref m, S => match S[n]?, S[m]? with
    | some (.lst xs), some (.lst ys) => cut (xs.length + ys.length) (.ref S.length, S ++ [.lst (xs ++ ys)])
    | _, _ => none
  | _, _, _ => none
theorem opt_cut {n : Nat} {r : PV × Store} {P : PQ} (h : opt (cut n r) P) : n ≤ sizeLine ∧ P r.1 r.2 := by
  unfold cut at h
  split at h
  · rename_i hn; exact ⟨hn, h⟩
  · exact h.elim
theorem ref_of {K : PySem.W.Frag} {ι : List Addr} {H : Hp} {n : Nat} {v : V} (r : RV K ι H (.ref n) v) : ∃ a, v = .ref a ∧ ι[n]? = some a := by
  cases r with
  | ref h => exact ⟨_, rfl, h⟩
theorem tup_of {K : PySem.W.Frag} {ι : List Addr} {H : Hp} {xs : List PV} {v : V} (r : RV K ι H (.tup xs) v) : ∃ a us, v = .ref a ∧ SqT K H a us ∧ RVs K ι H xs us := by
  cases r with
  | tup s q => exact ⟨_, _, rfl, s, q⟩
theorem int_of {K : PySem.W.Frag} {ι : List Addr} {H : Hp} {i : Int} {v : V} (r : RV K ι H (.int i) v) : v = .int i := by cases r; rfl
theorem str_of {K : PySem.W.Frag} {ι : List Addr} {H : Hp} {i : Str} {v : V} (r : RV K ι H (.str i) v) : v = .str i := by cases r; rfl
theorem bl_of {K : PySem.W.Frag} {ι : List Addr} {H : Hp} {i : Bool} {v : V} (r : RV K ι H (.bl i) v) : v = .bl i := by cases r; rfl
theorem non_of {K : PySem.W.Frag} {ι : List Addr} {H : Hp} {v : V} (r : RV K ι H .non v) : v = .non := by cases r; rfl
theorem ty_of {K : PySem.W.Frag} {ι : List Addr} {H : Hp} {t : String} {v : V} (r : RV K ι H (.ty t) v) : v = .ty t := by cases r; rfl
theorem at_lst {K : PySem.W.Frag} {ι : List Addr} {H : Hp} {S : Store} {n : Nat} {a : Addr} {xs : List PV} (rs : RS K ι H S) (hn : S[n]? = some (.lst xs)) (ha : ι[n]? = some a) : ∃ us, H a = some (.lst us) ∧ RVs K ι H xs us := by
  obtain ⟨a', us, h1, h2, h3⟩ := rs.lst hn
  rw [ha] at h1; cases h1
  exact ⟨us, h2, h3⟩
theorem at_dic {K : PySem.W.Frag} {ι : List Addr} {H : Hp} {S : Store} {n : Nat} {a : Addr} {xs : List (Key × PV)} (rs : RS K ι H S) (hn : S[n]? = some (.dic xs)) (ha : ι[n]? = some a) : ∃ us, H a = some (.dK us) ∧ RKs K ι H xs us := by
  obtain ⟨a', us, h1, h2, h3⟩ := rs.dic hn
  rw [ha] at h1; cases h1
  exact ⟨us, h2, h3⟩
theorem at_seq {K : PySem.W.Frag} {ι : List Addr} {H : Hp} {S : Store} {n : Nat} {a : Addr} {c : Cell} {xs : List PV} (rs : RS K ι H S) (hn : S[n]? = some c) (hx : c.items = some xs) (ha : ι[n]? = some a) : ∃ us, SqL K H a us ∧ RVs K ι H xs us := by
  obtain ⟨a', us, h1, h2, h3⟩ := rs.seq hn hx
  rw [ha] at h1; cases h1
  exact ⟨us, h2, h3⟩
/-- a new list's end -/
theorem new_lst {K : PySem.W.Frag} {ι : List Addr} {H : Hp} {S : Store} {Q : VK} {P : PQ} {xs : List PV} {us : List V} (rs : RS K ι H S) (r : RVs K ι H xs us) (hP : ∀ z S', P z S' → Fin K ι H Q z S')
    (h : P (.ref S.length) (S ++ [.lst xs])) (p : Addr) (hp : H p = none) : Q (.ref p) (upd H p (.lst us)) := by
  refine hP _ _ h (ι ++ [p]) _ _ (ext_new hp) (rs.cell hp ⟨us, upd_same, r.mono (ext_new hp)⟩) (.ref ?_)
  rw [← rs.len, List.getElem?_append_right (Nat.le_refl _), Nat.sub_self]; rfl
theorem new_tup {K : PySem.W.Frag} {ι : List Addr} {H : Hp} {S : Store} {Q : VK} {P : PQ} {xs : List PV} {us : List V} (rs : RS K ι H S) (r : RVs K ι H xs us) (hP : ∀ z S', P z S' → Fin K ι H Q z S')
    (h : P (.tup xs) S) (p : Addr) (hp : H p = none) : Q (.ref p) (upd H p (.tup us)) := by
  have E : Ext ι ι H (upd H p (.tup us)) := by have := ext_new (ι := ι) (o := .tup us) (l := []) hp; rwa [List.append_nil] at this
  exact hP _ _ h ι _ _ E (rs.tup hp) (.tup (SqT.of upd_same) (r.mono E))
theorem op_fAdd {X : Cx} : OpR X (binaryOp .Add) (rOp X.K fAdd) := by
  intro pins s σ H u v uu vv Q I ru rv ⟨ι, S, x, y, P, rs, rx, ry, hf, hP⟩
  unfold fAdd at hf
  split at hf
  · cases int_of rx; cases int_of ry
    exact L2.op_add pins s σ H _ _ _ _ Q I ru rv ⟨_, _, rfl, rfl, hP _ _ hf ι H _ .refl rs (.int _)⟩
  · cases str_of rx; cases str_of ry
    obtain ⟨hn, h⟩ := opt_cut hf
    exact op_add_str pins s σ H _ _ _ _ Q I ru rv ⟨_, _, rfl, rfl, hn, hP _ _ h ι H _ .refl rs (.str _)⟩
  · obtain ⟨a, us, rfl, sa, qa⟩ := tup_of rx
    obtain ⟨b, ws, rfl, sb, qb⟩ := tup_of ry
    obtain ⟨hn, h⟩ := opt_cut hf
    refine op_catA pins s σ H _ _ _ _ Q I ru rv ⟨a, b, us, ws, rfl, rfl, sa, sb, by rw [← qa.length, ← qb.length]; exact hn, fun z => ?_, fun z1 z2 => ?_, fun _ _ => new_tup rs (qa.append qb) hP h⟩
    · subst z
      cases qa
      exact hP _ _ h ι H _ .refl rs (.tup sb qb)
    · subst z2
      cases qb
      simp only [List.append_nil] at h
      exact hP _ _ h ι H _ .refl rs (.tup sa qa)
  · obtain ⟨a, rfl, ha⟩ := ref_of rx
    obtain ⟨b, rfl, hb⟩ := ref_of ry
    split at hf
    · rename_i h1 h2
      obtain ⟨us, hu, qu⟩ := at_lst rs h1 ha
      obtain ⟨ws, hw, qw⟩ := at_lst rs h2 hb
      obtain ⟨hn, h⟩ := opt_cut hf
      refine op_cat pins s σ H _ _ _ _ Q I ru rv ⟨a, b, us, ws, rfl, rfl, hu, hw, by rw [← qu.length, ← qw.length]; exact hn, new_lst rs (qu.append qw) hP h⟩
    · exact hf.elim
  · exact hf.elim

/-! ### numbers -/
def fI (g : Int → Int → Option PV) : F2
  | .int i, .int j, S => (g i j).map fun v => (v, S)
  | _, _, _ => none
theorem opt_map {o : Option PV} {S : Store} {P : PQ} (h : opt (o.map fun v => (v, S)) P) : ∃ v, o = some v ∧ P v S := by
  cases o with
  | none => exact h.elim
  | some v => exact ⟨v, rfl, h⟩
theorem fI_of {K : PySem.W.Frag} {g : Int → Int → Option PV} {u v : V} {H : Hp} {Q : VK} (h : rOp K (fI g) u v H Q) : ∃ i j z, u = .int i ∧ v = .int j ∧ g i j = some z ∧ ∀ w, (∀ ι, RV K ι H z w) → Q w H := by
  obtain ⟨ι, S, x, y, P, rs, rx, ry, hf, hP⟩ := h
  unfold fI at hf
  split at hf
  · obtain ⟨z, hz, hp⟩ := opt_map hf
    exact ⟨_, _, z, int_of rx, int_of ry, hz, fun w hw => hP _ _ hp ι H w .refl rs (hw ι)⟩
  · exact hf.elim
section
variable {X : Cx}
def gSub : Int → Int → Option PV := fun i j => some (.int (i - j))
def gMul : Int → Int → Option PV := fun i j => if (-(2 ^ 64) < i ∧ i < 2 ^ 64) ∨ (-(2 ^ 64) < j ∧ j < 2 ^ 64) then some (.int (i * j)) else none
def gDiv : Int → Int → Option PV := fun i j => if 0 < j ∧ j < 1073741824 then some (.int (i / j)) else none
def gMod : Int → Int → Option PV := fun i j => if 0 < j then some (.int (i % j)) else none
def gPow : Int → Int → Option PV := fun i j => if 0 ≤ j ∧ j ≤ 1000000 ∧ i.natAbs < 2 ^ 64 then some (.int (i ^ j.toNat)) else none
def gB (p : Int → Int → Bool) : Int → Int → Option PV := fun i j => some (.bl (p i j))
theorem ite_some' {α : Type} {c : Prop} [Decidable c] {x z : α} (h : (if c then some x else none) = some z) : c ∧ x = z := by
  split at h
  · rename_i hc; exact ⟨hc, Option.some.inj h⟩
  · cases h
theorem op_fSub : OpR X (binaryOp .Sub) (rOp X.K (fI gSub)) := by
  intro pins s σ H u v uu vv Q I ru rv h
  obtain ⟨i, j, z, rfl, rfl, e, q⟩ := fI_of h
  cases e
  exact L2.op_sub pins s σ H _ _ _ _ Q I ru rv ⟨_, _, rfl, rfl, q _ fun _ => .int _⟩
theorem op_fMul : OpR X (binaryOp .Mult) (rOp X.K (fI gMul)) := by
  intro pins s σ H u v uu vv Q I ru rv h
  obtain ⟨i, j, z, rfl, rfl, e, q⟩ := fI_of h
  obtain ⟨c, rfl⟩ := ite_some' e
  exact L2.op_mul pins s σ H _ _ _ _ Q I ru rv ⟨_, _, rfl, rfl, c, q _ fun _ => .int _⟩
theorem op_fDiv : OpR X (binaryOp .FloorDiv) (rOp X.K (fI gDiv)) := by
  intro pins s σ H u v uu vv Q I ru rv h
  obtain ⟨i, j, z, rfl, rfl, e, q⟩ := fI_of h
  obtain ⟨c, rfl⟩ := ite_some' e
  exact L2.op_fdiv pins s σ H _ _ _ _ Q I ru rv ⟨_, _, rfl, rfl, c, q _ fun _ => .int _⟩
theorem op_fMod : OpR X (binaryOp .Mod) (rOp X.K (fI gMod)) := by
  intro pins s σ H u v uu vv Q I ru rv h
  obtain ⟨i, j, z, rfl, rfl, e, q⟩ := fI_of h
  obtain ⟨c, rfl⟩ := ite_some' e
  exact L2.op_mod pins s σ H _ _ _ _ Q I ru rv ⟨_, _, rfl, rfl, c, q _ fun _ => .int _⟩
theorem op_fPow : OpR X (binaryOp .Pow) (rOp X.K (fI gPow)) := by
  intro pins s σ H u v uu vv Q I ru rv h
  obtain ⟨i, j, z, rfl, rfl, e, q⟩ := fI_of h
  obtain ⟨c, rfl⟩ := ite_some' e
  exact L2.op_pow pins s σ H _ _ _ _ Q I ru rv ⟨_, _, rfl, rfl, c, q _ fun _ => .int _⟩
theorem op_fB {op : CmpOp} {p : Int → Int → Bool} (ho : OpR X (compareOp op) (rI0 fun i j => .bl (p i j))) : OpR X (compareOp op) (rOp X.K (fI (gB p))) := by
  intro pins s σ H u v uu vv Q I ru rv h
  obtain ⟨i, j, z, rfl, rfl, e, q⟩ := fI_of h
  cases e
  exact ho pins s σ H _ _ _ _ Q I ru rv ⟨_, _, rfl, rfl, q _ fun _ => .bl _⟩
abbrev fLt : F2 := fI (gB fun i j => decide (i < j))
abbrev fLe : F2 := fI (gB fun i j => decide (i ≤ j))
abbrev fGt : F2 := fI (gB fun i j => decide (j < i))
abbrev fGe : F2 := fI (gB fun i j => decide (j ≤ i))
theorem op_fLt : OpR X (compareOp .Lt) (rOp X.K fLt) := op_fB L2.op_lt
theorem op_fLe : OpR X (compareOp .LtE) (rOp X.K fLe) := op_fB L2.op_le
theorem op_fGt : OpR X (compareOp .Gt) (rOp X.K fGt) := op_fB L2.op_gt
theorem op_fGe : OpR X (compareOp .GtE) (rOp X.K fGe) := op_fB L2.op_ge
end

/-! ### data -/
def optAll {α β : Type} (f : α → Option β) : List α → Option (List β)
  | [] => some []
  | x :: xs => match f x, optAll f xs with
    | some y, some ys => some (y :: ys)
    | _, _ => none
def keyD : Key → PyData
  | .inl i => .int i
  | .inr x => .str x
/-- the data that a value is, to a depth -/
def toD : Nat → Store → PV → Option PyData
  | 0, _, _ => none
  | n + 1, S, v => match v with
    | .non => some .none
    | .bl b => some (.bool b)
    | .int i => some (.int i)
    | .str x => some (.str x)
    | .tup xs => (optAll (toD n S) xs).map .tuple
    | .ref m => match S[m]? with
      | some (.lst xs) => (optAll (toD n S) xs).map .list
      | some (.ro xs) => (optAll (toD n S) xs).map .list
      | some (.dic kvs) => (optAll (fun kv => (toD n S kv.2).map fun d => (keyD kv.1, d)) kvs).map .dict
      | none => none
    | .ty _ => none
theorem optAll_cons {α β : Type} {f : α → Option β} {x : α} {xs : List α} {zs : List β} (h : optAll f (x :: xs) = some zs) : ∃ y ys, f x = some y ∧ optAll f xs = some ys ∧ zs = y :: ys := by
  unfold optAll at h
  split at h
  · rename_i y ys h1 h2
    exact ⟨y, ys, h1, h2, (Option.some.inj h).symm⟩
  · cases h
section
variable {K : PySem.W.Frag} {ι : List Addr} {H : Hp} {S : Store}
theorem dp_all {f : PV → Option PyData} (hf : ∀ x v d, f x = some d → RV K ι H x v → Dp K H v d) : ∀ {xs : List PV} {us : List V} {ds : List PyData}, optAll f xs = some ds → RVs K ι H xs us → DpAll K H us ds
  | [], _, ds, h, .nil => by cases h; exact .nil
  | x :: xs, _, ds, h, .cons r t => by
    obtain ⟨y, ys, h1, h2, rfl⟩ := optAll_cons h
    exact .cons (hf x _ y h1 r) (dp_all hf h2 t)
/-- data without dicts -/
theorem dp_of (rs : RS K ι H S) : ∀ (n : Nat) (x : PV) (v : V) (d : PyData), toD n S x = some d → d.hasDict = false → RV K ι H x v → Dp K H v d
  | 0, _, _, _, h, _, _ => by cases h
  | n + 1, x, v, d, h, hd, r => by
    have go : ∀ {xs : List PV} {us : List V} {ds : List PyData}, optAll (toD n S) xs = some ds → PyData.hasDictAll ds = false → RVs K ι H xs us → DpAll K H us ds := by
      intro xs
      induction xs with
      | nil => intro us ds h _ r; cases r; cases h; exact .nil
      | cons x xs ih =>
        intro us ds h hd r
        obtain ⟨y, ys, h1, h2, rfl⟩ := optAll_cons h
        simp only [PyData.hasDictAll, Bool.or_eq_false_iff] at hd
        cases r with
        | cons r t => exact .cons (dp_of rs n x _ y h1 hd.1 r) (ih h2 hd.2 t)
    unfold toD at h
    split at h
    · cases h; cases r; exact .non
    · cases h; cases r; exact .bl _
    · cases h; cases r; exact .int _
    · cases h; cases r; exact .str _
    · obtain ⟨a, us, rfl, s, q⟩ := tup_of r
      obtain ⟨ds, h1, rfl⟩ := Option.map_eq_some_iff.mp h
      exact .tup s (go h1 (by simpa only [PyData.hasDict] using hd) q)
    · obtain ⟨a, rfl, ha⟩ := ref_of r
      split at h
      · rename_i hm
        obtain ⟨us, hu, q⟩ := at_seq rs hm rfl ha
        obtain ⟨ds, h1, rfl⟩ := Option.map_eq_some_iff.mp h
        exact .lst hu (go h1 (by simpa only [PyData.hasDict] using hd) q)
      · rename_i hm
        obtain ⟨us, hu, q⟩ := at_seq rs hm rfl ha
        obtain ⟨ds, h1, rfl⟩ := Option.map_eq_some_iff.mp h
        exact .lst hu (go h1 (by simpa only [PyData.hasDict] using hd) q)
      · obtain ⟨ds, h1, rfl⟩ := Option.map_eq_some_iff.mp h
        simp [PyData.hasDict] at hd
      · cases h
    · cases h
end
/-- x == y: the same kind of scalar, else as data -/
def eqP (x y : PV) (S : Store) : Option Bool := match x, y with
  | .int i, .int j => some (decide (i = j))
  | .str i, .str j => some (decide (i = j))
  | .bl i, .bl j => some (decide (i = j))
  | .non, .non => some true
  | x, y => match toD 66 S x, toD 66 S y with
    | some d, some e => if SeqAt.shaped d = true ∧ SeqAt.shaped e = true then some (PyData.eqv d e) else none
    | _, _ => none
def fEq : F2 := fun x y S => (eqP x y S).map fun b => (.bl b, S)
def fNe : F2 := fun x y S => (eqP x y S).map fun b => (.bl (!b), S)
theorem opt_mapB {o : Option Bool} {S : Store} {P : PQ} {g : Bool → PV} (h : opt (o.map fun v => (g v, S)) P) : ∃ v, o = some v ∧ P (g v) S := by
  cases o with
  | none => exact h.elim
  | some v => exact ⟨v, rfl, h⟩
theorem shaped_noDict {d : PyData} (h : SeqAt.shaped d = true) : d.hasDict = false := by
  have h' : (d.canLay0 && decide (d.depth ≤ 64)) = true := h
  rw [Bool.and_eq_true] at h'
  exact PyData.hasDict_of_canLay d h'.1
theorem eqP_of {K : PySem.W.Frag} {ι : List Addr} {H : Hp} {S : Store} {x y : PV} {u v : V} {b : Bool} (rs : RS K ι H S) (rx : RV K ι H x u) (ry : RV K ι H y v) (h : eqP x y S = some b) :
    (L2.scal u v = true ∧ b = decide (u = v)) ∨ ∃ d e, Dp K H u d ∧ Dp K H v e ∧ SeqAt.shaped d = true ∧ SeqAt.shaped e = true ∧ b = PyData.eqv d e := by
  unfold eqP at h
  split at h
  · cases int_of rx; cases int_of ry; cases h
    exact .inl ⟨rfl, decide_eq_decide.mpr ⟨fun e => by rw [e], fun e => V.int.inj e⟩⟩
  · cases str_of rx; cases str_of ry; cases h
    exact .inl ⟨rfl, decide_eq_decide.mpr ⟨fun e => by rw [e], fun e => V.str.inj e⟩⟩
  · cases bl_of rx; cases bl_of ry; cases h
    exact .inl ⟨rfl, decide_eq_decide.mpr ⟨fun e => by rw [e], fun e => V.bl.inj e⟩⟩
  · cases non_of rx; cases non_of ry; cases h
    exact .inl ⟨rfl, rfl⟩
  · split at h
    · rename_i d e hd he
      obtain ⟨⟨c1, c2⟩, rfl⟩ := ite_some' h
      exact .inr ⟨d, e, dp_of rs _ _ _ _ hd (shaped_noDict c1) rx, dp_of rs _ _ _ _ he (shaped_noDict c2) ry, c1, c2, rfl⟩
    · cases h
theorem op_fEq {X : Cx} (hu : X.A.units + 64 < cLine) : OpR X (compareOp .Eq) (rOp X.K fEq) := by
  intro pins s σ H u v uu vv Q I ru rv ⟨ι, S, x, y, P, rs, rx, ry, hf, hP⟩
  obtain ⟨b, hb, hp⟩ := opt_mapB (g := .bl) hf
  have q := hP _ _ hp ι H (.bl b) .refl rs (.bl b)
  rcases eqP_of rs rx ry hb with ⟨c, rfl⟩ | ⟨d, e, h1, h2, h3, h4, rfl⟩
  · exact L2.op_eq pins s σ H _ _ _ _ Q I ru rv ⟨c, q⟩
  · exact op_eqD hu pins s σ H _ _ _ _ Q I ru rv ⟨d, e, h1, h2, h3, h4, q⟩
theorem op_fNe {X : Cx} (hu : X.A.units + 64 < cLine) : OpR X (compareOp .NotEq) (rOp X.K fNe) := by
  intro pins s σ H u v uu vv Q I ru rv ⟨ι, S, x, y, P, rs, rx, ry, hf, hP⟩
  obtain ⟨b, hb, hp⟩ := opt_mapB (g := fun b => .bl (!b)) hf
  have q := hP _ _ hp ι H (.bl (!b)) .refl rs (.bl (!b))
  rcases eqP_of rs rx ry hb with ⟨c, rfl⟩ | ⟨d, e, h1, h2, h3, h4, rfl⟩
  · exact L2.op_ne pins s σ H _ _ _ _ Q I ru rv ⟨c, q⟩
  · exact op_neD hu pins s σ H _ _ _ _ Q I ru rv ⟨d, e, h1, h2, h3, h4, q⟩
end Lt
set_option Elab.async false
set_option linter.all false
set_option maxRecDepth 100000
/-! Lt3: tests, displays, calls of built-ins, methods, items, slices. -/
namespace Lt
open PySem PySem.Spec PyProof.Rows L2

/-! ### tests -/
abbrev WT := PEnv → Store → (Bool → Store → Prop) → Prop
def FinT (ι : List Addr) (H : Hp) (K : PySem.W.Frag) (Q : Bool → Hp → Prop) (b : Bool) (S' : Store) : Prop := ∀ ι' H', Ext ι ι' H H' → RS K ι' H' S' → Q b H'
def tWT (K : PySem.W.Frag) (w : WT) : TT := fun σ H Q => ∃ ι env S, ∃ P : Bool → Store → Prop, REnv K ι H env σ ∧ RS K ι H S ∧ w env S P ∧ ∀ b S', P b S' → FinT ι H K Q b S'
structure RT (X : Cx) (e : Expr) (w : WT) : Prop where
  pt : PT X e (tWT X.K w)
structure RW (X : Cx) (e : Expr) (w : WT) : Prop where
  pw : PW X e (tWT X.K w)
theorem PT.weak {X : Cx} {e : Expr} {t t' : TT} (h : PT X e t) (i : ∀ σ H Q, t' σ H Q → t σ H Q) : PT X e t' := ⟨fun pins s σ H Q I q => h.run pins s σ H Q I (i σ H Q q)⟩
theorem PW.weak {X : Cx} {e : Expr} {t t' : TT} (h : PW X e t) (i : ∀ σ H Q, t' σ H Q → t σ H Q) : PW X e t' := ⟨fun wh pins s σ H Q I q => h.run wh pins s σ H Q I (i σ H Q q)⟩
theorem tWT_imp {K : PySem.W.Frag} {w : WT} {σ : LSt} {H : Hp} {Q Q' : Bool → Hp → Prop} (h : tWT K w σ H Q) (i : ∀ b H1, Q b H1 → Q' b H1) : tWT K w σ H Q' := by
  obtain ⟨ι, env, S, P, re, rs, hw, hP⟩ := h
  exact ⟨ι, env, S, P, re, rs, hw, fun b S' hb ι' H' e r => i _ _ (hP b S' hb ι' H' e r)⟩
/-- behind a test -/
theorem tWT_bind {K : PySem.W.Frag} {wt : WT} {k : Bool → PEnv → Store → (PV → Store → Prop) → Prop} {σ : LSt} {H : Hp} {Q : VK} (h : tW K (fun env S P => wt env S fun b S1 => k b env S1 P) σ H Q) :
    tWT K wt σ H fun b H1 => tW K (k b) σ H1 Q := by
  obtain ⟨ι, env, S, P, re, rs, hw, hP⟩ := h
  exact ⟨ι, env, S, _, re, rs, hw, fun b S1 hk ι1 H1 e1 rs1 => ⟨ι1, env, S1, P, re.mono e1, rs1, hk, fun y S' hy => (hP y S' hy).ext e1⟩⟩
theorem tWT_bindT {K : PySem.W.Frag} {wt : WT} {k : Bool → WT} {σ : LSt} {H : Hp} {Q : Bool → Hp → Prop} (h : tWT K (fun env S P => wt env S fun b S1 => k b env S1 P) σ H Q) :
    tWT K wt σ H fun b H1 => tWT K (k b) σ H1 Q := by
  obtain ⟨ι, env, S, P, re, rs, hw, hP⟩ := h
  exact ⟨ι, env, S, _, re, rs, hw, fun b S1 hk ι1 H1 e1 rs1 => ⟨ι1, env, S1, P, re.mono e1, rs1, hk, fun y S' hy ι2 H2 e2 => hP y S' hy ι2 H2 (e1.trans e2)⟩⟩
/-- a bool's test -/
def wB (w : W) : WT := fun env S P => w env S fun x S1 => match x with
  | .bl b => P b S1
  | _ => False
theorem tB_of {K : PySem.W.Frag} {w : W} {t : TE} (i : ∀ σ H Q, tW K w σ H Q → t σ H Q) {σ : LSt} {H : Hp} {Q : Bool → Hp → Prop} (h : tWT K (wB w) σ H Q) : tTest t σ H Q := by
  obtain ⟨ι, env, S, P, re, rs, hw, hP⟩ := h
  refine i _ _ _ ⟨ι, env, S, _, re, rs, hw, fun x S1 hx ι1 H1 v e1 rs1 rx => ?_⟩
  cases x with
  | bl b => cases bl_of rx; exact ⟨b, rfl, hP b S1 hx ι1 H1 e1 rs1⟩
  | _ => exact hx.elim
section
variable {X : Cx} {a b c e : Expr} {wa wb wc : W} {ta tb : WT} {pos : Pos} {rest : List Expr}
theorem rt_cmp {op : CmpOp} {f : F2} (ho : OpR X (compareOp op) (rOp X.K f)) (ha : RE X a wa) (hb : RE X b wb) (hm : behindInMarks op b = false) : RT X (.Compare a [op] [b] pos) (wB (wOp f wa wb)) :=
  ⟨PT.weak (pt_cmpR ho ha.pe hb.pe hm) fun _ _ _ h => tB_of (fun _ _ _ q => tOp_of q) h⟩
/-- a op b op' c -/
def wCh (f g : F2) (wa wb wc : W) : W := fun env S P => wa env S fun x S1 => wb env S1 fun y S2 => opt (f x y S2) fun z S3 => match z with
  | .bl true => wc env S3 fun u S4 => opt (g y u S4) P
  | .bl false => P (.bl false) S3
  | _ => False
theorem tChain_of {K : PySem.W.Frag} {f g : F2} {σ : LSt} {H : Hp} {Q : VK} (h : tW K (wCh f g wa wb wc) σ H Q) : tChain (rOp K f) (rOp K g) (tW K wa) (tW K wb) (tW K wc) σ H Q := by
  obtain ⟨ι, env, S, P, re, rs, hw, hP⟩ := h
  refine ⟨ι, env, S, _, re, rs, hw, fun x S1 hx ι1 H1 u e1 rs1 rx => ⟨ι1, env, S1, _, re.mono e1, rs1, hx, fun y S2 hy ι2 H2 v e2 rs2 ry => ?_⟩⟩
  refine ⟨ι2, S2, x, y, _, rs2, rx.mono e2, ry, hy, fun z S3 hz ι3 H3 w e3 rs3 rz => ?_⟩
  cases z with
  | bl k =>
    cases bl_of rz
    refine ⟨k, rfl, ?_⟩
    cases k with
    | false => exact hP _ _ hz ι3 H3 _ ((e1.trans e2).trans e3) rs3 (.bl false)
    | true =>
      refine ⟨ι3, env, S3, _, re.mono ((e1.trans e2).trans e3), rs3, hz, fun u' S4 hu ι4 H4 v4 e4 rs4 ru => ?_⟩
      exact ⟨ι4, S4, y, u', P, rs4, ry.mono (e3.trans e4), ru, hu, fun r S5 hr => (hP r S5 hr).ext (((e1.trans e2).trans e3).trans e4)⟩
  | _ => exact hz.elim
theorem re_chain {op op' : CmpOp} {f g : F2} (ho : OpR X (compareOp op) (rOp X.K f)) (ho' : OpR X (compareOp op') (rOp X.K g)) (ha : RE X a wa) (hb : RE X b wb) (hc : RE X c wc)
    (hm : lastMarks [op, op'] [b, c] = false := by with_unfolding_all rfl) : RE X (.Compare a [op, op'] [b, c] pos) (wCh f g wa wb wc) := ⟨PE.weak (pe_chain ho ho' ha.pe hb.pe hc.pe hm) fun _ _ _ h => tChain_of h⟩
theorem rt_chain {op op' : CmpOp} {f g : F2} (ho : OpR X (compareOp op) (rOp X.K f)) (ho' : OpR X (compareOp op') (rOp X.K g)) (ha : RE X a wa) (hb : RE X b wb) (hc : RE X c wc)
    (hm : lastMarks [op, op'] [b, c] = false := by with_unfolding_all rfl) : RT X (.Compare a [op, op'] [b, c] pos) (wB (wCh f g wa wb wc)) := ⟨PT.weak (pt_chain ho ho' ha.pe hb.pe hc.pe hm) fun _ _ _ h => tB_of (fun _ _ _ q => tChain_of q) h⟩
/-- a value's truth -/
def tru : PV → Store → Option Bool
  | .non, _ => some false
  | .bl b, _ => some b
  | .int i, _ => some (i != 0)
  | .str y, _ => if y.length ≤ sizeLine then some ((y.length : Int) != 0) else none
  | .tup xs, _ => some (!xs.isEmpty)
  | .ref n, S => match S[n]? with
    | some (.lst xs) => some (!xs.isEmpty)
    | some (.ro xs) => some (!xs.isEmpty)
    | some (.dic xs) => some (!xs.isEmpty)
    | none => none
  | .ty _, _ => none
theorem RVs.isEmpty {K : PySem.W.Frag} {ι : List Addr} {H : Hp} {xs : List PV} {us : List V} (r : RVs K ι H xs us) : xs.isEmpty = us.isEmpty := by cases r <;> rfl
theorem tru_of {K : PySem.W.Frag} {ι : List Addr} {H : Hp} {S : Store} {x : PV} {v : V} {b : Bool} (rs : RS K ι H S) (r : RV K ι H x v) (h : tru x S = some b) : TruV K v H b := by
  unfold tru at h
  split at h
  · cases non_of r; cases h; rfl
  · cases bl_of r; cases h; rfl
  · cases int_of r; cases h; rfl
  · cases str_of r; obtain ⟨c, rfl⟩ := ite_some' h; exact ⟨c, rfl⟩
  · obtain ⟨a, us, rfl, s, q⟩ := tup_of r
    cases h
    exact .inr (.inl ⟨us, s, by rw [q.isEmpty]⟩)
  · obtain ⟨a, rfl, ha⟩ := ref_of r
    split at h
    · rename_i hm
      obtain ⟨us, hu, q⟩ := at_seq rs hm rfl ha
      cases h
      exact .inl ⟨us, hu, by rw [q.isEmpty]⟩
    · rename_i hm
      obtain ⟨us, hu, q⟩ := at_seq rs hm rfl ha
      cases h
      exact .inl ⟨us, hu, by rw [q.isEmpty]⟩
    · rename_i hm
      obtain ⟨us, hu, q⟩ := at_dic rs hm ha
      cases h
      refine .inr (.inr ⟨us, hu, ?_⟩)
      cases q <;> rfl
    · cases h
  · cases h
def wTru (w : W) : WT := fun env S P => w env S fun x S1 => match tru x S1 with
  | some b => P b S1
  | none => False
theorem rt_tru (ha : RE X a wa) (he : ∀ whole, isTrue a X.env whole = (do let v ← whole; standAt a.pos; holding [v] (truthy v)) := by intro _; rfl) : RT X a (wTru wa) := by
  refine ⟨PT.weak (pt_truth ha.pe he) fun σ H Q ⟨ι, env, S, P, re, rs, hw, hP⟩ => ?_⟩
  refine ⟨ι, env, S, _, re, rs, hw, fun x S1 hx ι1 H1 v e1 rs1 rx => ?_⟩
  split at hx
  · rename_i b hb
    exact ⟨b, tru_of rs1 rx hb, hP b S1 hx ι1 H1 e1 rs1⟩
  · exact hx.elim
def wNot (t : WT) : WT := fun env S P => t env S fun b S1 => P (!b) S1
theorem rt_not (h : RT X a ta) : RT X (.UnaryOp .Not a pos) (wNot ta) :=
  ⟨PT.weak (pt_not h.pt) fun σ H Q ⟨ι, env, S, P, re, rs, hw, hP⟩ => ⟨ι, env, S, _, re, rs, hw, fun b S1 hb ι1 H1 e1 rs1 => hP _ _ hb ι1 H1 e1 rs1⟩⟩
def wAndT (t u : WT) : WT := fun env S P => t env S fun b S1 => match b with
  | true => u env S1 P
  | false => P false S1
def wOrT (t u : WT) : WT := fun env S P => t env S fun b S1 => match b with
  | true => P true S1
  | false => u env S1 P
theorem RW.rt (h : RW X e ta) : RT X e ta := ⟨h.pw.pt⟩
theorem rw_and1 (h : RT X a ta) : RW X (.BoolOp .And [a] pos) ta := ⟨pw_and1 h.pt⟩
theorem rw_or1 (h : RT X a ta) : RW X (.BoolOp .Or [a] pos) ta := ⟨pw_or1 h.pt⟩
theorem rw_and (h : RT X a ta) (hb : RW X (.BoolOp .And (b :: rest) pos) tb) : RW X (.BoolOp .And (a :: b :: rest) pos) (wAndT ta tb) := by
  refine ⟨PW.weak (pw_and h.pt hb.pw) fun σ H Q h => ?_⟩
  refine tWT_imp (tWT_bindT (k := fun b env S P => match b with | true => tb env S P | false => P false S) h) fun b H1 h1 => ?_
  cases b with
  | true => exact h1
  | false => obtain ⟨ι, env, S, P, re, rs, hw, hP⟩ := h1; exact hP _ _ hw ι H1 .refl rs
theorem rw_or (h : RT X a ta) (hb : RW X (.BoolOp .Or (b :: rest) pos) tb) : RW X (.BoolOp .Or (a :: b :: rest) pos) (wOrT ta tb) := by
  refine ⟨PW.weak (pw_or h.pt hb.pw) fun σ H Q h => ?_⟩
  refine tWT_imp (tWT_bindT (k := fun b env S P => match b with | true => P true S | false => tb env S P) h) fun b H1 h1 => ?_
  cases b with
  | false => exact h1
  | true => obtain ⟨ι, env, S, P, re, rs, hw, hP⟩ := h1; exact hP _ _ hw ι H1 .refl rs
/-! .. as values -/
def wAnd (wa wb : W) : W := fun env S P => wa env S fun x S1 => match x with
  | .bl true => wb env S1 P
  | .bl false => P (.bl false) S1
  | _ => False
def wOr (wa wb : W) : W := fun env S P => wa env S fun x S1 => match x with
  | .bl true => P (.bl true) S1
  | .bl false => wb env S1 P
  | _ => False
def wNotV (wa : W) : W := fun env S P => wa env S fun x S1 => match x with
  | .bl b => P (.bl (!b)) S1
  | _ => False
theorem re_one {op} (h : RE X a wa) : RE X (.BoolOp op [a] pos) wa := ⟨pe_one h.pe⟩
theorem re_and (ha : RE X a wa) (hb : RE X (.BoolOp .And (b :: rest) pos) wb) : RE X (.BoolOp .And (a :: b :: rest) pos) (wAnd wa wb) := by
  refine ⟨PE.weak (pe_and ha.pe hb.pe) fun σ H Q ⟨ι, env, S, P, re, rs, hw, hP⟩ => ⟨ι, env, S, _, re, rs, hw, fun x S1 hx ι1 H1 v e1 rs1 rx => ?_⟩⟩
  cases x with
  | bl k =>
    cases bl_of rx
    refine ⟨k, rfl, ?_⟩
    cases k with
    | true => exact ⟨ι1, env, S1, P, re.mono e1, rs1, hx, fun y S' hy => (hP y S' hy).ext e1⟩
    | false => exact hP _ _ hx ι1 H1 _ e1 rs1 (.bl false)
  | _ => exact hx.elim
theorem re_or (ha : RE X a wa) (hb : RE X (.BoolOp .Or (b :: rest) pos) wb) : RE X (.BoolOp .Or (a :: b :: rest) pos) (wOr wa wb) := by
  refine ⟨PE.weak (pe_or ha.pe hb.pe) fun σ H Q ⟨ι, env, S, P, re, rs, hw, hP⟩ => ⟨ι, env, S, _, re, rs, hw, fun x S1 hx ι1 H1 v e1 rs1 rx => ?_⟩⟩
  cases x with
  | bl k =>
    cases bl_of rx
    refine ⟨k, rfl, ?_⟩
    cases k with
    | false => exact ⟨ι1, env, S1, P, re.mono e1, rs1, hx, fun y S' hy => (hP y S' hy).ext e1⟩
    | true => exact hP _ _ hx ι1 H1 _ e1 rs1 (.bl true)
  | _ => exact hx.elim
theorem re_not (ha : RE X a wa) : RE X (.UnaryOp .Not a pos) (wNotV wa) := by
  refine ⟨PE.weak (pe_not ha.pe) fun σ H Q ⟨ι, env, S, P, re, rs, hw, hP⟩ => ⟨ι, env, S, _, re, rs, hw, fun x S1 hx ι1 H1 v e1 rs1 rx => ?_⟩⟩
  cases x with
  | bl k => cases bl_of rx; exact ⟨k, rfl, hP _ _ hx ι1 H1 _ e1 rs1 (.bl _)⟩
  | _ => exact hx.elim
def wNeg (wa : W) : W := fun env S P => wa env S fun x S1 => match x with
  | .int i => P (.int (-i)) S1
  | _ => False
theorem re_neg (ha : RE X a wa) : RE X (.UnaryOp .USub a pos) (wNeg wa) := by
  refine ⟨PE.weak (pe_un un_neg ha.pe) fun σ H Q ⟨ι, env, S, P, re, rs, hw, hP⟩ => ⟨ι, env, S, _, re, rs, hw, fun x S1 hx ι1 H1 v e1 rs1 rx => ?_⟩⟩
  cases x with
  | int i => cases int_of rx; exact ⟨i, rfl, hP _ _ hx ι1 H1 _ e1 rs1 (.int _)⟩
  | _ => exact hx.elim
def wIf (t : WT) (wa wb : W) : W := fun env S P => t env S fun b S1 => match b with
  | true => wa env S1 P
  | false => wb env S1 P
theorem re_if (hc : RT X c ta) (ha : RE X a wa) (hb : RE X b wb) : RE X (.IfExp c a b pos) (wIf ta wa wb) := by
  refine ⟨PE.weak (pe_ifExp hc.pt ha.pe hb.pe) fun σ H Q h => ?_⟩
  refine tWT_imp (tWT_bind (k := fun b env S P => match b with | true => wa env S P | false => wb env S P) h) fun b H1 h1 => ?_
  cases b with
  | true => exact h1
  | false => exact h1
end

/-! ### displays -/
section
variable {X : Cx} {es : List Expr} {w : WA} {pos : Pos}
def wTup (w : WA) : W := fun env S P => w env S fun xs S1 => xs.length ≤ sizeLine ∧ P (.tup xs) S1
def wLst (w : WA) : W := fun env S P => w env S fun xs S1 => xs.length ≤ sizeLine ∧ P (.ref S1.length) (S1 ++ [.lst xs])
theorem fin_ext {K : PySem.W.Frag} {ι ι1 : List Addr} {H H1 : Hp} {Q : VK} {P : PQ} (e : Ext ι ι1 H H1) (h : ∀ x S', P x S' → Fin K ι H Q x S') : ∀ x S', P x S' → Fin K ι1 H1 Q x S' := fun x S' hx => (h x S' hx).ext e
theorem re_tup {k : Nat} (h : RA X es w) : RE X (.Tuple es k pos) (wTup w) := by
  refine ⟨PE.weak (pe_tup h.pa) fun σ H Q ⟨ι, env, S, P, re, rs, hw, hP⟩ => ⟨ι, env, S, _, re, rs, hw, fun xs S1 hx ι1 H1 vs e1 rs1 rx => ?_⟩⟩
  exact ⟨by rw [← rx.length]; exact hx.1, new_tup rs1 rx (fin_ext e1 hP) hx.2⟩
theorem re_lst (h : RA X es w) : RE X (.List es pos) (wLst w) := by
  refine ⟨PE.weak (pe_lst h.pa) fun σ H Q ⟨ι, env, S, P, re, rs, hw, hP⟩ => ⟨ι, env, S, _, re, rs, hw, fun xs S1 hx ι1 H1 vs e1 rs1 rx => ?_⟩⟩
  exact ⟨by rw [← rx.length]; exact hx.1, new_lst rs1 rx (fin_ext e1 hP) hx.2⟩
end

/-! ### built-ins -/
abbrev FB := List PV → Store → Option (PV × Store)
def rB (K : PySem.W.Frag) (f : FB) : List V → Hp → VK → Prop := fun us H Q => ∃ ι S xs, ∃ P : PQ, RS K ι H S ∧ RVs K ι H xs us ∧ opt (f xs S) P ∧ ∀ z S', P z S' → Fin K ι H Q z S'
def wCall (f : FB) (w : WA) : W := fun env S P => w env S fun xs S1 => opt (f xs S1) P
theorem tCB_of {K : PySem.W.Frag} {f : FB} {w : WA} {σ : LSt} {H : Hp} {Q : VK} (h : tW K (wCall f w) σ H Q) : tCB (rB K f) (tWA K w) σ H Q := by
  obtain ⟨ι, env, S, P, re, rs, hw, hP⟩ := h
  exact ⟨ι, env, S, _, re, rs, hw, fun xs S1 hx ι1 H1 vs e1 rs1 rx => ⟨ι1, S1, xs, P, rs1, rx, hx, fin_ext e1 hP⟩⟩
section
variable {X : Cx} {x : Str} {e : Expr} {es : List Expr} {w : WA} {p pos : Pos} {id T : String} {f : FB}
theorem re_callB (hc : CallR X (.builtin id) (rB X.K f)) (hg : Gl X x) (hm : X.mg x = none) (hv : bootBuiltins x = some (.builtin id)) (ha : RA X (e :: es) w) (hn : x ≠ "__name__" := by decide) (hdb : (x == ("__debug__" : Str)) = false := by decide)
    (he : starEach (e :: es) X.env = (false, eval e X.env) :: starEach es X.env := by rfl) (hpl : (backTo pos (starEach es X.env)).any (·.1) = false := by rfl) : RE X (.Call (.Name x p) (e :: es) [] pos) (wCall f w) :=
  ⟨PE.weak (pe_callB hc hg hm hv ha.pa hn hdb he hpl) fun _ _ _ h => tCB_of h⟩
theorem re_callTy (hc : CallR X (.type T) (rB X.K f)) (hg : Gl X x) (hm : X.mg x = none) (hv : bootBuiltins x = some (.type T)) (ha : RA X (e :: es) w) (hn : x ≠ "__name__" := by decide) (hdb : (x == ("__debug__" : Str)) = false := by decide)
    (he : starEach (e :: es) X.env = (false, eval e X.env) :: starEach es X.env := by rfl) (hpl : (backTo pos (starEach es X.env)).any (·.1) = false := by rfl) : RE X (.Call (.Name x p) (e :: es) [] pos) (wCall f w) :=
  ⟨PE.weak (pe_callTy hc hg hm hv ha.pa hn hdb he hpl) fun _ _ _ h => tCB_of h⟩
/-- a type's name as a value -/
theorem re_type (hg : Gl X x) (hm : X.mg x = none) (hv : bootBuiltins x = some (.type T)) (hn : x ≠ "__name__" := by decide) (hdb : (x == ("__debug__" : Str)) = false := by decide) : RE X (.Name x p) (wC (.ty T)) :=
  re_c (pe_bltn (v := .ty T) hg hm hv rfl hn hdb) fun _ _ => .ty T
end
def seqOf : PV → Store → Option (List PV)
  | .tup xs, _ => some xs
  | .ref n, S => match S[n]? with
    | some c => c.items
    | none => none
  | _, _ => none
theorem seqOf_of {K : PySem.W.Frag} {ι : List Addr} {H : Hp} {S : Store} {x : PV} {v : V} {xs : List PV} (rs : RS K ι H S) (r : RV K ι H x v) (h : seqOf x S = some xs) : ∃ a us, v = .ref a ∧ (SqL K H a us ∨ SqT K H a us) ∧ RVs K ι H xs us := by
  unfold seqOf at h
  split at h
  · cases h
    obtain ⟨a, us, rfl, s, q⟩ := tup_of r
    exact ⟨a, us, rfl, .inr s, q⟩
  · obtain ⟨a, rfl, ha⟩ := ref_of r
    split at h
    · rename_i hc
      obtain ⟨us, hu, q⟩ := at_seq rs hc h ha
      exact ⟨a, us, rfl, .inl hu, q⟩
    · cases h
  · cases h
theorem rvs1 {K : PySem.W.Frag} {ι : List Addr} {H : Hp} {x : PV} {us : List V} (r : RVs K ι H [x] us) : ∃ u, us = [u] ∧ RV K ι H x u := by
  cases r with
  | cons r t => cases t; exact ⟨_, rfl, r⟩
theorem rvs2 {K : PySem.W.Frag} {ι : List Addr} {H : Hp} {x y : PV} {us : List V} (r : RVs K ι H [x, y] us) : ∃ u v, us = [u, v] ∧ RV K ι H x u ∧ RV K ι H y v := by
  cases r with
  | cons r t => obtain ⟨v, rfl, q⟩ := rvs1 t; exact ⟨_, v, rfl, r, q⟩
def bLen : FB
  | [.str x], S => if x.length ≤ sizeLine then some (.int x.length, S) else none
  | [x], S => (seqOf x S).map fun xs => (.int xs.length, S)
  | _, _ => none
theorem opt_map' {α : Type} {o : Option α} {g : α → PV × Store} {P : PQ} (h : opt (o.map g) P) : ∃ v, o = some v ∧ P (g v).1 (g v).2 := by
  cases o with
  | none => exact h.elim
  | some v => exact ⟨v, rfl, h⟩
theorem opt_ite {c : Prop} [Decidable c] {r : PV × Store} {P : PQ} (h : opt (if c then some r else none) P) : c ∧ P r.1 r.2 := by
  split at h
  · rename_i hc; exact ⟨hc, h⟩
  · exact h.elim
section
variable {X : Cx}
theorem call_bLen : CallR X (.builtin "len") (rB X.K bLen) := by
  intro pins s σ H vs us Q I r ⟨ι, S, xs, P, rs, rx, hf, hP⟩
  unfold bLen at hf
  split at hf
  · obtain ⟨u, rfl, q⟩ := rvs1 rx
    cases str_of q
    obtain ⟨c, h⟩ := opt_ite hf
    exact call_len_str pins s σ H _ _ Q I r ⟨_, rfl, c, hP _ _ h ι H _ .refl rs (.int _)⟩
  · obtain ⟨u, rfl, q⟩ := rvs1 rx
    obtain ⟨ys, hy, h⟩ := opt_map' hf
    obtain ⟨a, ws, rfl, sq, qs⟩ := seqOf_of rs q hy
    refine call_len_seq pins s σ H _ _ Q I r ⟨a, ws, rfl, sq, ?_⟩
    rw [← qs.length]
    exact hP _ _ h ι H _ .refl rs (.int _)
  · exact hf.elim
def bInt : FB
  | [.int i], S => some (.int i, S)
  | [.bl b], S => some (.int (if b then 1 else 0), S)
  | _, _ => none
theorem call_bInt : CallR X (.type "int") (rB X.K bInt) := by
  intro pins s σ H vs us Q I r ⟨ι, S, xs, P, rs, rx, hf, hP⟩
  unfold bInt at hf
  split at hf
  · obtain ⟨u, rfl, q⟩ := rvs1 rx
    cases int_of q
    exact call_int1 pins s σ H _ _ Q I r (.inl ⟨_, rfl, hP _ _ hf ι H _ .refl rs (.int _)⟩)
  · obtain ⟨u, rfl, q⟩ := rvs1 rx
    cases bl_of q
    exact call_int1 pins s σ H _ _ Q I r (.inr ⟨_, rfl, hP _ _ hf ι H _ .refl rs (.int _)⟩)
  · exact hf.elim
def bAbs : FB
  | [.int i], S => some (.int (if i < 0 then -i else i), S)
  | _, _ => none
theorem call_bAbs : CallR X (.builtin "abs") (rB X.K bAbs) := by
  intro pins s σ H vs us Q I r ⟨ι, S, xs, P, rs, rx, hf, hP⟩
  unfold bAbs at hf
  split at hf
  · obtain ⟨u, rfl, q⟩ := rvs1 rx
    cases int_of q
    exact call_abs pins s σ H _ _ Q I r ⟨_, rfl, hP _ _ hf ι H _ .refl rs (.int _)⟩
  · exact hf.elim
def bMin : FB
  | [.int i, .int j], S => some (.int (if j < i then j else i), S)
  | _, _ => none
theorem call_bMin (hc : X.calm = true) : CallR X (.builtin "min") (rB X.K bMin) := by
  intro pins s σ H vs us Q I r ⟨ι, S, xs, P, rs, rx, hf, hP⟩
  unfold bMin at hf
  split at hf
  · obtain ⟨u, v, rfl, q, q'⟩ := rvs2 rx
    cases int_of q; cases int_of q'
    exact call_min2 hc pins s σ H _ _ Q I r ⟨_, _, rfl, hP _ _ hf ι H _ .refl rs (.int _)⟩
  · exact hf.elim
def bMax : FB
  | [.int i, .int j], S => some (.int (if j > i then j else i), S)
  | _, _ => none
theorem call_bMax (hc : X.calm = true) : CallR X (.builtin "max") (rB X.K bMax) := by
  intro pins s σ H vs us Q I r ⟨ι, S, xs, P, rs, rx, hf, hP⟩
  unfold bMax at hf
  split at hf
  · obtain ⟨u, v, rfl, q, q'⟩ := rvs2 rx
    cases int_of q; cases int_of q'
    exact call_max2 hc pins s σ H _ _ Q I r ⟨_, _, rfl, hP _ _ hf ι H _ .refl rs (.int _)⟩
  · exact hf.elim
def bList : FB
  | [x], S => (seqOf x S).map fun xs => (.ref S.length, S ++ [.lst xs])
  | _, _ => none
theorem call_bList : CallR X (.type "list") (rB X.K bList) := by
  intro pins s σ H vs us Q I r ⟨ι, S, xs, P, rs, rx, hf, hP⟩
  unfold bList at hf
  split at hf
  · obtain ⟨u, rfl, q⟩ := rvs1 rx
    obtain ⟨ys, hy, h⟩ := opt_map' hf
    obtain ⟨a, ws, rfl, sq, qs⟩ := seqOf_of rs q hy
    exact call_list_of pins s σ H _ _ Q I r ⟨a, ws, rfl, sq, new_lst rs qs hP h⟩
  · exact hf.elim
def bTuple : FB
  | [x], S => (seqOf x S).map fun xs => (.tup xs, S)
  | _, _ => none
theorem call_bTuple : CallR X (.type "tuple") (rB X.K bTuple) := by
  intro pins s σ H vs us Q I r ⟨ι, S, xs, P, rs, rx, hf, hP⟩
  unfold bTuple at hf
  split at hf
  · obtain ⟨u, rfl, q⟩ := rvs1 rx
    obtain ⟨ys, hy, h⟩ := opt_map' hf
    obtain ⟨a, ws, rfl, sq, qs⟩ := seqOf_of rs q hy
    refine call_tuple_of pins s σ H _ _ Q I r ⟨a, ws, rfl, ?_⟩
    rcases sq with sq | sq
    · exact .inl ⟨sq, new_tup rs qs hP h⟩
    · exact .inr ⟨sq, hP _ _ h ι H _ .refl rs (.tup sq qs)⟩
  · exact hf.elim
/-- the name of a value's type -/
def tyN : PV → Store → Option String
  | .non, _ => some "NoneType"
  | .bl _, _ => some "bool"
  | .int _, _ => some "int"
  | .str _, _ => some "str"
  | .tup _, _ => some "tuple"
  | .ref n, S => match S[n]? with
    | some (.lst _) => some "list"
    | some (.ro _) => some "list"
    | some (.dic _) => some "dict"
    | none => none
  | .ty _, _ => none
theorem tyN_of {K : PySem.W.Frag} {ι : List Addr} {H : Hp} {S : Store} {x : PV} {v : V} {t : String} (rs : RS K ι H S) (r : RV K ι H x v) (h : tyN x S = some t) : TyX K H v (.type t) := by
  have lst : ∀ {a : Addr} {us : List V}, SqL K H a us → TyX K H (.ref a) (.type "list") := fun {a us} q => by
    rcases q with (q | ⟨o, q⟩) | ⟨o, its, n, q1, q2, _⟩
    · exact .base (.lst q)
    · exact .base (.frz q)
    · exact .kList q1 q2
  unfold tyN at h
  split at h
  · cases non_of r; cases h; exact .base .non
  · cases bl_of r; cases h; exact .base (.bl _)
  · cases int_of r; cases h; exact .base (.int _)
  · cases str_of r; cases h; exact .base (.str _)
  · obtain ⟨a, us, rfl, s, q⟩ := tup_of r
    cases h
    rcases s with (s | ⟨o, s⟩) | ⟨o, its, n, s1, s2, _⟩
    · exact .base (.tup s)
    · exact .fTuple s
    · exact .kTuple s1 s2
  · obtain ⟨a, rfl, ha⟩ := ref_of r
    split at h
    · rename_i hm
      obtain ⟨us, hu, q⟩ := at_seq rs hm rfl ha
      cases h; exact lst hu
    · rename_i hm
      obtain ⟨us, hu, q⟩ := at_seq rs hm rfl ha
      cases h; exact lst hu
    · rename_i hm
      obtain ⟨us, hu, q⟩ := at_dic rs hm ha
      cases h; exact .base (.dK hu)
    · cases h
  · cases h
def bIsi : FB
  | [x, .ty T], S => match tyN x S with
    | some t => (kitB t T).map fun b => (.bl b, S)
    | none => none
  | _, _ => none
theorem call_bIsi : CallR X (.builtin "isinstance") (rB X.K bIsi) := by
  intro pins s σ H vs us Q I r ⟨ι, S, xs, P, rs, rx, hf, hP⟩
  unfold bIsi at hf
  split at hf
  · obtain ⟨u, v, rfl, q, q'⟩ := rvs2 rx
    cases ty_of q'
    split at hf
    · rename_i t ht
      obtain ⟨b, hb, h⟩ := opt_map' hf
      exact call_isi pins s σ H _ _ Q I r ⟨u, _, _, _, b, rfl, .ty _, tyN_of rs q ht, kit_ty hb, hP _ _ h ι H _ .refl rs (.bl _)⟩
    · exact hf.elim
  · exact hf.elim
end
end Lt
set_option Elab.async false
set_option linter.all false
set_option maxRecDepth 100000
/-! Lt4: methods of lists, items, slices, dicts, repr. -/
namespace Lt
open PySem PySem.Spec PyProof.Rows L2

/-! ### methods -/
abbrev FM := PV → List PV → Store → Option (PV × Store)
def rM (K : PySem.W.Frag) (f : FM) : V → List V → Hp → VK → Prop := fun u us H Q => ∃ ι S x xs, ∃ P : PQ, RS K ι H S ∧ RV K ι H x u ∧ RVs K ι H xs us ∧ opt (f x xs S) P ∧ ∀ z S', P z S' → Fin K ι H Q z S'
/-- the receiver's type, as the method's rule asks it -/
def tyOk (T : String) : PV → Store → Prop
  | .str _, _ => T = "str"
  | .int _, _ => T = "int"
  | .ref n, S => (T = "list" ∧ ∃ c xs, S[n]? = some c ∧ c.items = some xs) ∨ (T = "dict" ∧ ∃ kvs, S[n]? = some (.dic kvs))
  | _, _ => False
theorem tyOk_of {K : PySem.W.Frag} {ι : List Addr} {H : Hp} {S : Store} {T : String} {x : PV} {v : V} (rs : RS K ι H S) (r : RV K ι H x v) (h : tyOk T x S) : tyV K T v H := by
  cases x with
  | str y => cases str_of r; exact h
  | int y => cases int_of r; exact h
  | ref n =>
    obtain ⟨a, rfl, ha⟩ := ref_of r
    rcases h with ⟨rfl, c, xs, hc, hx⟩ | ⟨rfl, kvs, hc⟩
    · obtain ⟨us, hu, _⟩ := at_seq rs hc hx ha
      exact .inl ⟨rfl, us, hu⟩
    · obtain ⟨us, hu, _⟩ := at_dic rs hc ha
      exact .inr (.inr (.inl ⟨rfl, .inl ⟨us, hu⟩⟩))
  | _ => exact h.elim
def wM0 (T : String) (f : FM) (wo : W) : W := fun env S P => wo env S fun x S1 => tyOk T x S1 ∧ opt (f x [] S1) P
def wM (T : String) (f : FM) (wo : W) (w : WA) : W := fun env S P => wo env S fun x S1 => tyOk T x S1 ∧ w env S1 fun xs S2 => opt (f x xs S2) P
section
variable {X : Cx} {o e : Expr} {es : List Expr} {wo : W} {w : WA} {name : Str} {apos cpos : Pos} {T id : String} {f : FM}
theorem re_m0 (pa : PlainAttrs T) (slot : Slot T name id) (hty : typeOf (.builtin id) = pure (.type "method_descriptor")) (hm : MtR X id (rM X.K f)) (ho : RE X o wo)
    (hbase : attributeBase o name X.env (eval o X.env) = eval o X.env := by rfl) (hline : (apos.endLine == cpos.line) = true := by rfl) : RE X (.Call (.Attribute o name apos) [] [] cpos) (wM0 T f wo) := by
  refine ⟨PE.weak (pe_bm0 pa slot hty hm ho.pe hbase hline) fun σ H Q ⟨ι, env, S, P, re, rs, hw, hP⟩ => ⟨ι, env, S, _, re, rs, hw, fun x S1 hx ι1 H1 v e1 rs1 rx => ?_⟩⟩
  exact ⟨tyOk_of rs1 rx hx.1, ι1, S1, x, [], P, rs1, rx, .nil, hx.2, fin_ext e1 hP⟩
theorem re_m (pa : PlainAttrs T) (slot : Slot T name id) (hty : typeOf (.builtin id) = pure (.type "method_descriptor")) (hm : MtR X id (rM X.K f)) (ho : RE X o wo) (ha : RA X (e :: es) w)
    (hbase : attributeBase o name X.env (eval o X.env) = eval o X.env := by rfl)
    (hfew : ((backTo cpos (starEach (e :: es) X.env)).all (fun x => !x.1) && (backToKw cpos (keywordEach [] X.env)).all (fun x => x.1.isSome)
      && decide ((e :: es).length + ([] : List Keyword).length + (if ([] : List Keyword).isEmpty then 0 else 1) < 30)) = true := by rfl)
    (hline : (apos.endLine == cpos.line) = true := by rfl) (hs : starEach (e :: es) X.env = (false, eval e X.env) :: starEach es X.env := by rfl) (hplain : (backTo cpos (starEach es X.env)).any (·.1) = false := by rfl) :
    RE X (.Call (.Attribute o name apos) (e :: es) [] cpos) (wM T f wo w) := by
  refine ⟨PE.weak (pe_bm pa slot hty hm ho.pe ha.pa hbase hfew hline hs hplain) fun σ H Q ⟨ι, env, S, P, re, rs, hw, hP⟩ => ⟨ι, env, S, _, re, rs, hw, fun x S1 hx ι1 H1 v e1 rs1 rx => ?_⟩⟩
  refine ⟨tyOk_of rs1 rx hx.1, ι1, env, S1, _, re.mono e1, rs1, hx.2, fun xs S2 h2 ι2 H2 us e2 rs2 r2 => ?_⟩
  exact ⟨ι2, S2, x, xs, P, rs2, rx.mono e2, r2, h2, fin_ext (e1.trans e2) hP⟩
end
/-- what becomes of a list's items -/
def onL (g : List PV → List PV → Option (List PV × PV)) : FM := fun x args S => match x with
  | .ref n => match S[n]? with
    | some (.lst xs) => (g xs args).map fun r => (r.2, S.set n (.lst r.1))
    | _ => none
  | _ => none
theorem onL_of {K : PySem.W.Frag} {g : List PV → List PV → Option (List PV × PV)} {u : V} {us : List V} {H : Hp} {Q : VK} (h : rM K (onL g) u us H Q) :
    ∃ a ws ι xs args ys z, u = .ref a ∧ H a = some (.lst ws) ∧ RVs K ι H xs ws ∧ RVs K ι H args us ∧ g xs args = some (ys, z) ∧ ∀ ws' v, RVs K ι H ys ws' → RV K ι H z v → Q v (upd H a (.lst ws')) := by
  obtain ⟨ι, S, x, args, P, rs, rx, ra, hf, hP⟩ := h
  unfold onL at hf
  split at hf
  · obtain ⟨a, rfl, ha⟩ := ref_of rx
    split at hf
    · rename_i hn
      obtain ⟨ws, hw, q⟩ := at_lst rs hn ha
      obtain ⟨⟨ys, z⟩, hg, hp⟩ := opt_map' hf
      refine ⟨a, ws, ι, _, args, ys, z, rfl, hw, q, ra, hg, fun ws' v r rz => ?_⟩
      obtain ⟨rs', E⟩ := rs.write (c' := .lst ys) (o' := .lst ws') hn ha rfl rfl fun E => ⟨ws', upd_same, r.mono E⟩
      exact hP _ _ hp ι _ v E rs' (rz.mono E)
    · exact hf.elim
  · exact hf.elim
def gAppend : List PV → List PV → Option (List PV × PV)
  | xs, [y] => if xs.length < sizeLine then some (xs ++ [y], .non) else none
  | _, _ => none
def gPop : List PV → List PV → Option (List PV × PV)
  | xs, [] => (xs[xs.length - 1]?).map fun y => (xs.dropLast, y)
  | xs, [.int i] => if -(2 ^ 63) ≤ i ∧ i < 2 ^ 63 then match seqIndex? i xs.length with
    | some k => (xs[k]?).map fun y => (xs.eraseIdx k, y)
    | none => none
    else none
  | _, _ => none
def gInsert : List PV → List PV → Option (List PV × PV)
  | xs, [.int i, y] => if xs.length < sizeLine ∧ 0 ≤ i ∧ i < 2 ^ 63 then some (xs.take i.toNat ++ [y] ++ xs.drop i.toNat, .non) else none
  | _, _ => none
section
variable {X : Cx}
theorem ite_some2 {α : Type} {c : Prop} [Decidable c] {z : α} {o : Option α} (h : (if c then o else none) = some z) : c ∧ o = some z := by
  split at h
  · rename_i hc; exact ⟨hc, h⟩
  · cases h
theorem mt_gAppend : MtR X "list.append" (rM X.K (onL gAppend)) := by
  intro pins s σ H u us v vs Q I ru rus h
  obtain ⟨a, ws, ι, xs, args, ys, z, rfl, hH, rx, ra, hg, q⟩ := onL_of h
  unfold gAppend at hg
  split at hg
  · obtain ⟨c, e⟩ := ite_some' hg
    cases e
    obtain ⟨w, rfl, rw'⟩ := rvs1 ra
    refine mt_append pins s σ H _ _ _ _ Q I ru rus ⟨a, ws, w, rfl, rfl, hH, by rw [← rx.length]; exact c, q _ _ (rx.snoc rw') .non⟩
  · cases hg
theorem mt_gPop : MtR X "list.pop" (rM X.K (onL gPop)) := by
  intro pins s σ H u us v vs Q I ru rus h
  obtain ⟨a, ws, ι, xs, args, ys, z, rfl, hH, rx, ra, hg, q⟩ := onL_of h
  unfold gPop at hg
  split at hg
  · cases ra
    obtain ⟨y, hy, e⟩ := Option.map_eq_some_iff.mp hg
    cases e
    obtain ⟨w, hw, rw'⟩ := rx.get hy
    refine mt_pop pins s σ H _ _ _ _ Q I ru rus ⟨a, ws, w, rfl, rfl, hH, by rw [← rx.length]; exact hw, q _ _ rx.dropLast rw'⟩
  · obtain ⟨w0, rfl, r0⟩ := rvs1 ra
    cases int_of r0
    obtain ⟨c, e⟩ := ite_some2 hg
    split at e
    · rename_i k hk
      obtain ⟨y, hy, e⟩ := Option.map_eq_some_iff.mp e
      cases e
      obtain ⟨w, hw, rw'⟩ := rx.get hy
      exact mt_popAt pins s σ H _ _ _ _ Q I ru rus ⟨a, ws, _, k, w, rfl, rfl, hH, c.1, c.2, by rw [← rx.length]; exact hk, hw, q _ _ (rx.eraseIdx k) rw'⟩
    · cases e
  · cases hg
theorem mt_gInsert : MtR X "list.insert" (rM X.K (onL gInsert)) := by
  intro pins s σ H u us v vs Q I ru rus h
  obtain ⟨a, ws, ι, xs, args, ys, z, rfl, hH, rx, ra, hg, q⟩ := onL_of h
  unfold gInsert at hg
  split at hg
  · obtain ⟨c, e⟩ := ite_some' hg
    cases e
    obtain ⟨w0, w1, rfl, r0, r1⟩ := rvs2 ra
    cases int_of r0
    refine mt_insert pins s σ H _ _ _ _ Q I ru rus ⟨a, ws, _, w1, rfl, rfl, hH, by rw [← rx.length]; exact c.1, c.2.1, c.2.2, q _ _ (((rx.take _).append (.cons r1 .nil)).append (rx.drop _)) .non⟩
  · cases hg
/-- l.extend(m), both lists that may be written -/
def mExtend : FM
  | .ref n, [.ref m], S => match S[n]?, S[m]? with
    | some (.lst xs), some (.lst ys) => if xs.length + ys.length ≤ sizeLine then some (.non, S.set n (.lst (xs ++ ys))) else none
    | _, _ => none
  | _, _, _ => none
theorem mt_mExtend : MtR X "list.extend" (rM X.K mExtend) := by
  intro pins s σ H u us v vs Q I ru rus ⟨ι, S, x, args, P, rs, rx, ra, hf, hP⟩
  unfold mExtend at hf
  split at hf
  · obtain ⟨a, rfl, ha⟩ := ref_of rx
    obtain ⟨w, rfl, rw'⟩ := rvs1 ra
    obtain ⟨b, rfl, hb⟩ := ref_of rw'
    split at hf
    · rename_i hn hm
      obtain ⟨c, h⟩ := opt_ite hf
      obtain ⟨ws, hw, q⟩ := at_lst rs hn ha
      obtain ⟨ws2, hw2, q2⟩ := at_lst rs hm hb
      obtain ⟨rs', E⟩ := rs.write (c' := .lst _) (o' := .lst (ws ++ ws2)) hn ha rfl rfl fun E => ⟨_, upd_same, (q.append q2).mono E⟩
      exact mt_extend pins s σ H _ _ _ _ Q I ru rus ⟨a, b, ws, ws2, rfl, rfl, hw, hw2, by rw [← q.length, ← q2.length]; exact c, hP _ _ h ι _ _ E rs' .non⟩
    · exact hf.elim
  · exact hf.elim

/-! ### items -/
def fIx : F2
  | .tup xs, .int i, S => (atI xs i).map fun v => (v, S)
  | .ref n, .int i, S => match S[n]? with
    | some c => match c.items with
      | some xs => (atI xs i).map fun v => (v, S)
      | none => none
    | none => none
  | .str z, .int i, S => if z.length ≤ sizeLine then (atI z.cps.toList i).map fun c => (.str ⟨#[c]⟩, S) else none
  | _, _, _ => none
theorem atI_rel {K : PySem.W.Frag} {ι : List Addr} {H : Hp} {xs : List PV} {us : List V} {i : Int} {x : PV} (r : RVs K ι H xs us) (h : atI xs i = some x) : ∃ v, atI us i = some v ∧ RV K ι H x v := by
  unfold atI at h ⊢
  rw [← r.length]
  cases e : ixN xs.length i with
  | none => rw [e] at h; cases h
  | some j =>
    rw [e] at h
    obtain ⟨v, h1, h2⟩ := r.get (show xs[j]? = some x from h)
    exact ⟨v, h1, h2⟩
theorem ix_fIx : IxR X (rOp X.K fIx) := by
  intro value slice pins s σ H u v uu vv Q I ru rv ⟨ι, S, x, y, P, rs, rx, ry, hf, hP⟩ hsub
  unfold fIx at hf
  split at hf
  · obtain ⟨a, us, rfl, sa, qa⟩ := tup_of rx
    cases int_of ry
    obtain ⟨z, hz, hp⟩ := opt_map hf
    obtain ⟨w, h1, h2⟩ := atI_rel qa hz
    exact ix_tup value slice pins s σ H _ _ _ _ Q I ru rv ⟨a, us, _, w, rfl, rfl, sa, h1, hP _ _ hp ι H w .refl rs h2⟩ hsub
  · obtain ⟨a, rfl, ha⟩ := ref_of rx
    cases int_of ry
    split at hf
    · rename_i c hc
      split at hf
      · rename_i xs hx
        obtain ⟨us, hu, q⟩ := at_seq rs hc hx ha
        obtain ⟨z, hz, hp⟩ := opt_map hf
        obtain ⟨w, h1, h2⟩ := atI_rel q hz
        exact ix_list value slice pins s σ H _ _ _ _ Q I ru rv ⟨a, us, _, w, rfl, rfl, hu, h1, hP _ _ hp ι H w .refl rs h2⟩ hsub
      · exact hf.elim
    · exact hf.elim
  · cases str_of rx
    cases int_of ry
    split at hf
    · rename_i hl
      obtain ⟨c, hz, hp⟩ := opt_map' hf
      exact ix_str value slice pins s σ H _ _ _ _ Q I ru rv ⟨_, _, c, rfl, rfl, hl, hz, hP _ _ hp ι H _ .refl rs (.str _)⟩ hsub
    · exact hf.elim
  · exact hf.elim
theorem re_ix {a b : Expr} {wa wb : W} {pos : Pos} (ha : RE X a wa) (hb : RE X b wb) (hs : PlainIx b := by intro _ _; rfl) : RE X (.Subscript a b pos) (wOp fIx wa wb) := ⟨PE.weak (pe_ix ix_fIx ha.pe hb.pe hs) fun _ _ _ h => tOp_of h⟩

/-! ### slices -/
abbrev WO := PEnv → Store → (Option Int → Store → Prop) → Prop
def tWO (K : PySem.W.Frag) (w : WO) : TO := fun σ H Q => ∃ ι env S, ∃ P : Option Int → Store → Prop, REnv K ι H env σ ∧ RS K ι H S ∧ w env S P ∧ ∀ o S', P o S' → ∀ ι' H', Ext ι ι' H H' → RS K ι' H' S' → Q o H'
structure RO (X : Cx) (e : Option Expr) (w : WO) : Prop where
  po : PO X e (tWO X.K w)
theorem PO.weak {e : Option Expr} {t t' : TO} (h : PO X e t) (i : ∀ σ H Q, t' σ H Q → t σ H Q) : PO X e t' := by
  obtain ⟨r⟩ := h
  exact ⟨fun pins s σ H Q I q => r pins s σ H Q I (i σ H Q q)⟩
def wNoP : WO := fun _ S P => P none S
def wP (w : W) : WO := fun env S P => w env S fun x S1 => match x with
  | .int i => P (some i) S1
  | _ => False
theorem ro_none : RO X none wNoP := ⟨PO.weak po_none fun σ H Q ⟨ι, env, S, P, re, rs, hw, hP⟩ => hP _ _ hw ι H .refl rs⟩
theorem ro_some {e : Expr} {w : W} (h : RE X e w) : RO X (some e) (wP w) := by
  refine ⟨PO.weak (po_some h.pe) fun σ H Q ⟨ι, env, S, P, re, rs, hw, hP⟩ => ⟨ι, env, S, _, re, rs, hw, fun x S1 hx ι1 H1 v e1 rs1 rx => ?_⟩⟩
  cases x with
  | int i => cases int_of rx; exact ⟨i, rfl, hP _ _ hx ι1 H1 e1 rs1⟩
  | _ => exact hx.elim
def cutP (xs : List PV) (lo hi : Option Int) : List PV := (xs.drop (HT.sIx xs.length 0 lo)).take (HT.sIx xs.length xs.length hi - HT.sIx xs.length 0 lo)
theorem cut_rel {K : PySem.W.Frag} {ι : List Addr} {H : Hp} {xs : List PV} {us : List V} {lo hi : Option Int} (r : RVs K ι H xs us) : RVs K ι H (cutP xs lo hi) (cutV us lo hi) := by
  unfold cutP cutV
  rw [r.length]
  exact (r.drop _).take _
theorem cutP_whole {xs : List PV} {lo hi : Option Int} (h : HT.sIx xs.length 0 lo = 0 ∧ HT.sIx xs.length xs.length hi = xs.length) : cutP xs lo hi = xs := by
  unfold cutP
  rw [h.1, h.2]
  simp
abbrev FS := PV → Option Int → Option Int → Store → Option (PV × Store)
def fSl : FS
  | .tup xs, lo, hi, S => some (.tup (cutP xs lo hi), S)
  | .ref n, lo, hi, S => match S[n]? with
    | some c => match c.items with
      | some xs => some (.ref S.length, S ++ [.lst (cutP xs lo hi)])
      | none => none
    | none => none
  | .str z, lo, hi, S => if z.length ≤ sizeLine then some (.str (cutS z lo hi), S) else none
  | _, _, _, _ => none
def rSl (K : PySem.W.Frag) : V → Option Int → Option Int → Hp → VK → Prop := fun u lo hi H Q => ∃ ι S x, ∃ P : PQ, RS K ι H S ∧ RV K ι H x u ∧ opt (fSl x lo hi S) P ∧ ∀ z S', P z S' → Fin K ι H Q z S'
theorem sl_fSl : SlR X (rSl X.K) := by
  intro pins s σ H u v vl vu lo hi sl Q I ru hs pl pu ⟨ι, S, x, P, rs, rx, hf, hP⟩
  unfold fSl at hf
  split at hf
  · obtain ⟨a, us, rfl, sa, qa⟩ := tup_of rx
    refine sl_tupA pins s σ H _ _ _ _ _ _ _ Q I ru hs pl pu ⟨a, us, rfl, sa, fun h => ?_, fun _ => new_tup rs (cut_rel qa) hP hf⟩
    rw [← qa.length] at h
    have e := cutP_whole h
    have hf' : P (.tup (cutP _ lo hi)) S := hf
    rw [e] at hf'
    exact hP _ _ hf' ι H _ .refl rs (.tup sa qa)
  · obtain ⟨a, rfl, ha⟩ := ref_of rx
    split at hf
    · rename_i c hc
      split at hf
      · rename_i xs hx
        obtain ⟨us, hu, q⟩ := at_seq rs hc hx ha
        exact sl_list pins s σ H _ _ _ _ _ _ _ Q I ru hs pl pu ⟨a, us, rfl, hu, new_lst rs (cut_rel q) hP hf⟩
      · exact hf.elim
    · exact hf.elim
  · cases str_of rx
    obtain ⟨c, h⟩ := opt_ite hf
    exact sl_str pins s σ H _ _ _ _ _ _ _ Q I ru hs pl pu ⟨_, rfl, c, hP _ _ h ι H _ .refl rs (.str _)⟩
  · exact hf.elim
def wSl (wa : W) (wl wh : WO) : W := fun env S P => wa env S fun x S1 => wl env S1 fun l S2 => wh env S2 fun h S3 => opt (fSl x l h S3) P
theorem re_slice {e : Expr} {lo hi : Option Expr} {wa : W} {wl wh : WO} {p2 pos : Pos} (ha : RE X e wa) (hl : RO X lo wl) (hh : RO X hi wh) : RE X (.Subscript e (.Slice lo hi none p2) pos) (wSl wa wl wh) := by
  refine ⟨PE.weak (pe_slice sl_fSl ha.pe hl.po hh.po) fun σ H Q ⟨ι, env, S, P, re, rs, hw, hP⟩ => ⟨ι, env, S, _, re, rs, hw, fun x S1 hx ι1 H1 v e1 rs1 rx => ?_⟩⟩
  refine ⟨ι1, env, S1, _, re.mono e1, rs1, hx, fun l S2 h2 ι2 H2 e2 rs2 => ⟨ι2, env, S2, _, re.mono (e1.trans e2), rs2, h2, fun h S3 h3 ι3 H3 e3 rs3 => ?_⟩⟩
  exact ⟨ι3, S3, x, P, rs3, rx.mono (e2.trans e3), h3, fin_ext ((e1.trans e2).trans e3) hP⟩

/-! ### dicts by written keys -/
theorem kV_key {K : PySem.W.Frag} {ι : List Addr} {H : Hp} {k : Key} : RV K ι H (match k with | .inl i => .int i | .inr x => .str x) (kV k) := by
  cases k with
  | inl i => exact .int i
  | inr x => exact .str x
def lookK (k : Key) : List (Key × PV) → Option PV
  | [] => none
  | (j, x) :: r => if j = k then some x else lookK k r
def putP (kvs : List (Key × PV)) (k : Key) (y : PV) : List (Key × PV) :=
  if (kvs.any fun kv => decide (kv.1 = k)) = true then kvs.map (fun kv => if kv.1 = k then (kv.1, y) else kv) else kvs ++ [(k, y)]
def keyOf : PV → Option Key
  | .int i => some (.inl i)
  | .str x => some (.inr x)
  | _ => none
theorem keyOf_of {K : PySem.W.Frag} {ι : List Addr} {H : Hp} {y : PV} {v : V} {k : Key} (r : RV K ι H y v) (h : keyOf y = some k) : v = kV k := by
  unfold keyOf at h
  split at h
  · cases h; exact int_of r
  · cases h; exact str_of r
  · cases h
theorem RKs.look {K : PySem.W.Frag} {ι : List Addr} {H : Hp} {k : Key} : ∀ {kvs : List (Key × PV)} {us : List (Key × V)} {x : PV}, RKs K ι H kvs us → lookK k kvs = some x → ∃ v, valV us k = some v ∧ RV K ι H x v
  | _, _, _, .nil, e => by cases e
  | _, _, _, .cons (k := j) r t, e => by
    unfold lookK at e
    split at e
    · rename_i hj
      cases e
      exact ⟨_, valV_pos hj, r⟩
    · rename_i hj
      obtain ⟨v, h1, h2⟩ := t.look e
      exact ⟨v, by rw [valV_neg hj]; exact h1, h2⟩
theorem RKs.length {K : PySem.W.Frag} {ι : List Addr} {H : Hp} : ∀ {kvs : List (Key × PV)} {us : List (Key × V)}, RKs K ι H kvs us → kvs.length = us.length
  | _, _, .nil => rfl
  | _, _, .cons _ t => congrArg (· + 1) t.length

theorem RKs.any {K : PySem.W.Frag} {ι : List Addr} {H : Hp} {k : Key} : ∀ {kvs : List (Key × PV)} {us : List (Key × V)}, RKs K ι H kvs us → (kvs.any fun kv => decide (kv.1 = k)) = (us.any fun kv => decide (kv.1 = k))
  | _, _, .nil => rfl
  | _, _, .cons r t => by simp only [List.any_cons, t.any]
theorem RKs.repl {K : PySem.W.Frag} {ι : List Addr} {H : Hp} {k : Key} {y : PV} {v : V} (r : RV K ι H y v) : ∀ {kvs : List (Key × PV)} {us : List (Key × V)}, RKs K ι H kvs us →
    RKs K ι H (kvs.map fun kv => if kv.1 = k then (kv.1, y) else kv) (us.map fun kv => if kv.1 = k then (kv.1, v) else kv)
  | _, _, .nil => .nil
  | _, _, .cons (k := j) q t => by
    simp only [List.map_cons]
    by_cases e : j = k
    · rw [if_pos e, if_pos e]; exact .cons r (RKs.repl r t)
    · rw [if_neg e, if_neg e]; exact .cons q (RKs.repl r t)
theorem RKs.snoc {K : PySem.W.Frag} {ι : List Addr} {H : Hp} {k : Key} {y : PV} {v : V} (r : RV K ι H y v) : ∀ {kvs : List (Key × PV)} {us : List (Key × V)}, RKs K ι H kvs us → RKs K ι H (kvs ++ [(k, y)]) (us ++ [(k, v)])
  | _, _, .nil => .cons r .nil
  | _, _, .cons q t => .cons q (RKs.snoc r t)
theorem RKs.put {K : PySem.W.Frag} {ι : List Addr} {H : Hp} {k : Key} {y : PV} {v : V} {kvs : List (Key × PV)} {us : List (Key × V)} (h : RKs K ι H kvs us) (r : RV K ι H y v) : RKs K ι H (putP kvs k y) (putK us k v) := by
  unfold putP putK
  rw [h.any (k := k)]
  split
  · exact h.repl r
  · exact h.snoc r
def fGet : F2 := fun x y S => match x, keyOf y with
  | .ref n, some k => match S[n]? with
    | some (.dic kvs) => (lookK k kvs).map fun v => (v, S)
    | _ => none
  | _, _ => none
theorem re_dget {o i : Expr} {wo wi : W} {pos : Pos} (hu : X.A.units + 1 < cLine) (ho : RE X o wo) (hi : RE X i wi) (hs : NoSl i := by intro _ _; rfl) : RE X (.Subscript o i pos) (wOp fGet wo wi) := by
  refine ⟨PE.weak (pe_dget hu ho.pe hi.pe hs) fun σ H Q h => ?_⟩
  refine tW_imp (tW_bind (k := fun x env S P => wi env S fun y S2 => opt (fGet x y S2) P) h) fun v H1 h1 => ?_
  refine tW_imp (tK_bind (k := fun x y env S P => opt (fGet x y S) P) h1) fun u H2 h2 => ?_
  obtain ⟨ι, env, S, x, y, P, re, rs, rx, ry, hf, hP⟩ := h2
  unfold fGet at hf
  split at hf
  · rename_i n k hk
    obtain ⟨a, rfl, ha⟩ := ref_of rx
    cases keyOf_of ry hk
    split at hf
    · rename_i kvs hn
      obtain ⟨us, hu', q⟩ := at_dic rs hn ha
      obtain ⟨z, hz, hp⟩ := opt_map hf
      obtain ⟨w, h1, h2⟩ := q.look hz
      exact ⟨a, w, rfl, by rw [← h1]; exact DGet.k hu', hP _ _ hp ι H2 w .refl rs h2⟩
    · exact hf.elim
  · exact hf.elim
/-! {k: v, ..} with written keys -/
def wPairs : List (Key × W) → PEnv → Store → (List (Key × PV) → Store → Prop) → Prop
  | [], _, S, P => P [] S
  | (k, w) :: r, env, S, P => w env S fun x S1 => wPairs r env S1 fun kvs S2 => P ((k, x) :: kvs) S2
/-- the new dict stands empty while the pairs are made -/
def wDict (ps : List (Key × W)) : W := fun env S P => wPairs ps env (S ++ [.dic []]) fun kvs S1 => S1[S.length]? = some (.dic []) ∧ kvs.length ≤ 15 ∧ P (.ref S.length) (S1.set S.length (.dic (kvs.foldl (fun acc kv => putP acc kv.1 kv.2) [])))
def keyE : Key → Const
  | .inl i => .int i
  | .inr x => .str x
def keyT : Key → TE
  | .inl i => tC (.int i)
  | .inr x => tC (.str x)
inductive RPs (X : Cx) (pos : Pos) : List (Option Expr) → List Expr → List (Key × W) → Prop
  | nil : RPs X pos [] [] []
  | cons {k : Key} {j : Nat} {p : Pos} {e : Expr} {w : W} {ks : List (Option Expr)} {vs : List Expr} {ps : List (Key × W)} : RE X e w → RPs X pos ks vs ps → RPs X pos (some (.Constant (keyE k) j p) :: ks) (e :: vs) ((k, w) :: ps)
theorem pps_of {pos : Pos} : ∀ {ks : List (Option Expr)} {vs : List Expr} {ps : List (Key × W)}, RPs X pos ks vs ps → PPs X pos ks vs (ps.map fun p => (keyT p.1, tW X.K p.2))
  | _, _, _, .nil => pps_nil
  | _, _, _, .cons (k := k) h r => by
    refine pps_cons ?_ h.pe (pps_of r)
    cases k with
    | inl i => exact pe_int
    | inr x => exact pe_str
theorem pairs_of {K : PySem.W.Frag} {σ : LSt} : ∀ {ps : List (Key × W)} {H : Hp} {Q : List (V × V) → Hp → Prop} {ι : List Addr} {env : PEnv} {S : Store} {P : List (Key × PV) → Store → Prop}, REnv K ι H env σ → RS K ι H S → wPairs ps env S P →
    (∀ kvs S', P kvs S' → ∀ ι' H' us, Ext ι ι' H H' → RS K ι' H' S' → RKs K ι' H' kvs us → Q (us.map fun u => (kV u.1, u.2)) H') → tPairs (ps.map fun p => (keyT p.1, tW K p.2)) σ H Q
  | [], H, Q, ι, env, S, P, re, rs, hw, hP => hP [] S hw ι H [] .refl rs .nil
  | (k, w) :: r, H, Q, ι, env, S, P, re, rs, hw, hP => by
    have go : tW K w σ H fun v H1 => tPairs (r.map fun p => (keyT p.1, tW K p.2)) σ H1 fun ps H2 => Q ((kV k, v) :: ps) H2 := by
      refine ⟨ι, env, S, _, re, rs, hw, fun x S1 hx ι1 H1 v e1 rs1 rx => ?_⟩
      refine pairs_of (re.mono e1) rs1 hx fun kvs S2 h2 ι2 H2 us e2 rs2 rk => ?_
      exact hP _ _ h2 ι2 H2 ((k, v) :: us) (e1.trans e2) rs2 (.cons (rx.mono e2) rk)
    cases k with
    | inl i => exact go
    | inr x => exact go
theorem RKs.merge {K : PySem.W.Frag} {ι : List Addr} {H : Hp} : ∀ {more : List (Key × PV)} {us : List (Key × V)} {kvs : List (Key × PV)} {ws : List (Key × V)}, RKs K ι H more us → RKs K ι H kvs ws → RKs K ι H (more.foldl (fun acc kv => putP acc kv.1 kv.2) kvs) (mergeK ws us)
  | _, _, _, _, .nil, h => h
  | _, _, _, _, .cons r t, h => by
    unfold mergeK
    simp only [List.foldl_cons]
    exact RKs.merge t (h.put r)
theorem re_dict {ks : List (Option Expr)} {vs : List Expr} {ps : List (Key × W)} {pos : Pos} (h : RPs X pos ks vs ps) (hall : ks.all (·.isSome) = true := by rfl) (hl : ks.length = vs.length := by rfl) (h0 : ks ≠ [] := by intro z; cases z) (h15 : ks.length ≤ 15 := by decide) : RE X (.Dict ks vs pos) (wDict ps) := by
  refine ⟨PE.weak (pe_disp (pps_of h) hall hl h0 h15) fun σ H Q ⟨ι, env, S, P, re, rs, hw, hP⟩ p hp => ?_⟩
  have E : Ext ι (ι ++ [p]) H (upd H p (.dK [])) := ext_new hp
  have rs1 : RS X.K (ι ++ [p]) (upd H p (.dK [])) (S ++ [.dic []]) := rs.cell hp ⟨[], upd_same, .nil⟩
  have hat : (ι ++ [p])[S.length]? = some p := by rw [← rs.len, List.getElem?_append_right (Nat.le_refl _), Nat.sub_self]; rfl
  refine pairs_of (re.mono E) rs1 hw fun kvs S2 h2 ι2 H2 us e2 rs2 rk => ?_
  obtain ⟨g1, g2, g3⟩ := h2
  have hat2 := e2.pre _ _ hat
  obtain ⟨ws, hw2, q⟩ := at_dic rs2 g1 hat2
  cases q
  refine ⟨hw2, us, rfl, by rw [← rk.length]; exact g2, ?_⟩
  obtain ⟨rs3, E3⟩ := rs2.write (c' := .dic (kvs.foldl (fun acc kv => putP acc kv.1 kv.2) [])) (o' := .dK (mergeK [] us)) g1 hat2 rfl rfl fun E3 => ⟨_, upd_same, (RKs.merge rk .nil).mono E3⟩
  exact hP _ _ g3 ι2 _ _ ((E.trans e2).trans E3) rs3 (.ref hat2)
theorem re_dict0 {pos : Pos} : RE X (.Dict [] [] pos) (fun _ S P => P (.ref S.length) (S ++ [.dic []])) := by
  refine ⟨PE.weak pe_dnewK fun σ H Q ⟨ι, env, S, P, re, rs, hw, hP⟩ p hp => ?_⟩
  refine hP _ _ hw _ _ _ (ext_new hp) (rs.cell hp ⟨[], upd_same, .nil⟩) (.ref ?_)
  rw [← rs.len, List.getElem?_append_right (Nat.le_refl _), Nat.sub_self]; rfl
end
end Lt
set_option Elab.async false
set_option linter.all false
set_option maxRecDepth 100000
/-! Lt5: targets, what is walked, comprehensions, statements. -/
namespace Lt
open PySem PySem.Spec PyProof.Rows L2

/-! ### targets -/
abbrev WG := PV → PEnv → Option PEnv
abbrev WGs := List PV → PEnv → Option PEnv
def SameW (sl : List Nat) (σ σ' : LSt) : Prop := ∀ vs : List Nat, (∀ i ∈ sl, i ∈ vs) → wipe σ' vs = wipe σ vs
def tG (K : PySem.W.Frag) (g : WG) (sl : List Nat) : TG := fun v σ H Q => ∃ ι x env env', REnv K ι H env σ ∧ RV K ι H x v ∧ g x env = some env' ∧ ∀ σ', REnv K ι H env' σ' → SameW sl σ σ' → Q σ' H
def tGs (K : PySem.W.Frag) (g : WGs) (sl : List Nat) : TGs := fun vs σ H Q => ∃ ι xs env env', REnv K ι H env σ ∧ RVs K ι H xs vs ∧ g xs env = some env' ∧ ∀ σ', REnv K ι H env' σ' → SameW sl σ σ' → Q σ' H
structure RG (X : Cx) (target : Expr) (g : WG) (sl : List Nat) : Prop where
  pg : PG X target (tG X.K g sl)
structure RGs (X : Cx) (ts : List Expr) (g : WGs) (sl : List Nat) (n : Nat) : Prop where
  pg : PGs X ts (tGs X.K g sl)
  len : ∀ xs env env', g xs env = some env' → xs.length = n
theorem PG.weak {X : Cx} {e : Expr} {t t' : TG} (h : PG X e t) (i : ∀ v σ H Q, t' v σ H Q → t v σ H Q) : PG X e t' := ⟨fun pins s σ H v u Q I r q => h.run pins s σ H v u Q I r (i v σ H Q q)⟩
theorem PGs.weak {X : Cx} {e : List Expr} {t t' : TGs} (h : PGs X e t) (i : ∀ v σ H Q, t' v σ H Q → t v σ H Q) : PGs X e t' := ⟨fun pins s σ H v u Q I r q => h.run pins s σ H v u Q I r (i v σ H Q q)⟩
theorem wipe_get (σ : LSt) (j : Nat) : ∀ vs : List Nat, (wipe σ vs)[j]? = if j ∈ vs then (σ[j]?).map (fun _ => (none : Option V)) else σ[j]?
  | [] => by simp [wipe]
  | v :: vs => by
    unfold wipe
    have ih := wipe_get σ j vs
    by_cases h : v = j
    · subst h
      rw [if_pos (List.mem_cons_self ..)]
      by_cases hl : v < (wipe σ vs).length
      · rw [List.getElem?_set_self hl]
        have hl2 : v < σ.length := by rw [wipe_length] at hl; exact hl
        rw [List.getElem?_eq_getElem hl2]; rfl
      · rw [List.getElem?_eq_none (by simpa using hl)]
        have hl2 : ¬ v < σ.length := by rw [wipe_length] at hl; exact hl
        rw [List.getElem?_eq_none (by omega)]; rfl
    · rw [List.getElem?_set_ne h, ih]
      have : (j ∈ v :: vs) ↔ j ∈ vs := by
        rw [List.mem_cons]
        exact ⟨fun q => q.elim (fun z => absurd z.symm h) id, .inr⟩
      by_cases hj : j ∈ vs
      · rw [if_pos hj, if_pos (this.mpr hj)]
      · rw [if_neg hj, if_neg (fun q => hj (this.mp q))]
theorem sameW_set {σ : LSt} {i : Nat} {v : Option V} : SameW [i] σ (σ.set i v) := fun vs h => by
  have hi : i ∈ vs := h i (List.mem_cons_self ..)
  apply List.ext_getElem?
  intro j
  rw [wipe_get, wipe_get]
  by_cases hj : i = j
  · subst hj
    rw [if_pos hi, if_pos hi]
    by_cases hl : i < σ.length
    · rw [List.getElem?_set_self hl, List.getElem?_eq_getElem hl]; rfl
    · rw [List.getElem?_eq_none (by simpa using hl), List.getElem?_eq_none (by simpa using hl)]
  · rw [List.getElem?_set_ne hj]
theorem SameW.trans {a b : List Nat} {σ σ' σ'' : LSt} (h : SameW a σ σ') (h' : SameW b σ' σ'') : SameW (a ++ b) σ σ'' := fun vs hv =>
  (h' vs fun i hi => hv i (List.mem_append_right _ hi)).trans (h vs fun i hi => hv i (List.mem_append_left _ hi))
theorem REnv.set {K : PySem.W.Frag} {ι : List Addr} {H : Hp} {env : PEnv} {σ : LSt} (h : REnv K ι H env σ) {i : Nat} {x : PV} {v : V} (r : RV K ι H x v) : REnv K ι H (env.set i (some x)) (σ.set i (some v)) := by
  refine ⟨by rw [List.length_set, List.length_set]; exact h.len, fun j y hy => ?_⟩
  by_cases hj : i = j
  · subst hj
    have hl : i < env.length := by
      have := (List.getElem?_eq_some_iff.mp hy).1
      rwa [List.length_set] at this
    rw [List.getElem?_set_self hl] at hy
    cases hy
    exact ⟨v, by rw [List.getElem?_set_self (by rw [← h.len]; exact hl)], r⟩
  · rw [List.getElem?_set_ne hj] at hy
    obtain ⟨w, h1, h2⟩ := h.at_ j y hy
    exact ⟨w, by rw [List.getElem?_set_ne hj]; exact h1, h2⟩
section
variable {X : Cx} {pos : Pos}
def gN (i : Nat) : WG := fun x env => some (env.set i (some x))
theorem rg_name (i : Nat) {x : Str} (hN : X.N.Nodup) (hi : X.N[i]? = some x := by rfl) (hx : Loc X.env.scope x := by first | exact Or.inl rfl | exact Or.inr rfl)
    (hf : X.fn x = true ∨ X.env.scope.names.lookup x = some .local := by first | exact .inl rfl | exact .inr rfl | assumption) : RG X (.Name x pos) (gN i) [i] := by
  refine ⟨PG.weak (pg_name hN hi hx hf) fun v σ H Q ⟨ι, x, env, env', re, rx, hg, hQ⟩ => ?_⟩
  cases hg
  exact hQ _ (re.set rx) sameW_set
def gsN : WGs := fun xs env => match xs with
  | [] => some env
  | _ :: _ => none
def gsC (g : WG) (r : WGs) : WGs := fun xs env => match xs with
  | [] => none
  | x :: xs => (g x env).bind fun env1 => r xs env1
theorem rgs_nil : RGs X [] gsN [] 0 := by
  refine ⟨PGs.weak pgs_nil fun vs σ H Q ⟨ι, xs, env, env', re, rx, hg, hQ⟩ => ?_, fun xs env env' h => ?_⟩
  · cases rx with
    | nil => cases hg; exact ⟨rfl, hQ σ re fun _ _ => rfl⟩
    | cons _ _ => cases hg
  · cases xs with
    | nil => rfl
    | cons _ _ => cases h
theorem rgs_cons {e : Expr} {es : List Expr} {g : WG} {r : WGs} {a b : List Nat} {n : Nat} (h1 : RG X e g a) (h2 : RGs X es r b n)
    (hs : (assignEach (e :: es) X.env).map (·.2) = assign e X.env :: (assignEach es X.env).map (·.2) := by rfl) : RGs X (e :: es) (gsC g r) (a ++ b) (n + 1) := by
  refine ⟨PGs.weak (pgs_cons h1.pg h2.pg hs) fun vs σ H Q ⟨ι, xs, env, env', re, rx, hg, hQ⟩ => ?_, fun xs env env' h => ?_⟩
  · cases rx with
    | nil => cases hg
    | cons rx rt =>
      obtain ⟨env1, e1, e2⟩ := Option.bind_eq_some_iff.mp hg
      refine ⟨_, _, rfl, ι, _, env, env1, re, rx, e1, fun σ1 re1 s1 => ?_⟩
      exact ⟨ι, _, env1, env', re1, rt, e2, fun σ2 re2 s2 => hQ σ2 re2 (s1.trans s2)⟩
  · cases xs with
    | nil => cases h
    | cons x xs =>
      obtain ⟨env1, e1, e2⟩ := Option.bind_eq_some_iff.mp h
      rw [List.length_cons, h2.len _ _ _ e2]
def gT (r : WGs) : WG := fun x env => match x with
  | .tup xs => r xs env
  | _ => none
theorem rg_tup {es : List Expr} {k n : Nat} {r : WGs} {a : List Nat} (hc : X.calm = true) (h : RGs X es r a n)
    (hn : (assignEach es X.env).length = n := by rfl) (hst : (assignEach es X.env).findIdx? (·.1) = none := by rfl) : RG X (.Tuple es k pos) (gT r) a := by
  refine ⟨PG.weak (pg_tup hc h.pg hn hst) fun v σ H Q ⟨ι, x, env, env', re, rx, hg, hQ⟩ => ?_⟩
  cases x with
  | tup xs =>
    obtain ⟨b, us, rfl, s, q⟩ := tup_of rx
    exact ⟨b, us, rfl, s, by rw [← q.length]; exact h.len _ _ _ hg, ι, xs, env, env', re, q, hg, hQ⟩
  | _ => cases hg
end

/-! ### what is walked -/
abbrev PIt := Nat → Store → Option (Option PV)
abbrev WI := PEnv → Store → (PIt → Store → Prop) → Prop
def PItOk (K : PySem.W.Frag) (J : It) (g : PIt) (ι0 : List Addr) (H0 : Hp) : Prop := ∀ ι H S i, Ext ι0 ι H0 H → RS K ι H S →
  (g i S = some none → J.stop i H) ∧ ∀ x, g i S = some (some x) → J.go i H ∧ ∀ v H', J.yld i H v H' → Ext ι ι H H' ∧ RS K ι H' S ∧ RV K ι H' x v
def tWI (K : PySem.W.Frag) (w : WI) : TI := fun σ H R => ∃ ι env S, ∃ P : PIt → Store → Prop, REnv K ι H env σ ∧ RS K ι H S ∧ w env S P ∧ ∀ g S', P g S' → ∀ ι' H' J, Ext ι ι' H H' → RS K ι' H' S' → PItOk K J g ι' H' → R J H'
structure RI (X : Cx) (tg iter : Expr) (w : WI) : Prop where
  pi : PI X tg iter (tWI X.K w)
theorem PI.weak {X : Cx} {tg e : Expr} {t t' : TI} (h : PI X tg e t) (i : ∀ σ H R, t' σ H R → t σ H R) : PI X tg e t' := ⟨fun pins s σ H R I q => h.run pins s σ H R I (i σ H R q)⟩
/-- a list or a tuple, whichever comes -/
theorem pi_seq {X : Cx} {tg l : Expr} {tl : TE} (hl : PE X l tl) : PI X tg l (fun σ H R => tl σ H fun x H1 => ∃ a, x = .ref a ∧ (((∃ xs, SqL X.K H1 a xs) ∧ R (Itl X.K a) H1) ∨ ((∃ xs, SqT X.K H1 a xs) ∧ R (Itt X.K a) H1))) := by
  refine ⟨fun pins s σ H R I h => thn (hl.run pins s σ H _ I h) fun v s1 hv => ?_⟩
  obtain ⟨x, H1, I1, r1, a, rfl, hq⟩ := hv
  cases r1
  have fp : ∀ b ∈ [s1.heap.objs.size], FpOk X pins H1 b := fun b hb => by
    rw [show b = s1.heap.objs.size by simpa using hb]
    exact I1.fpOk (Nat.le_refl _) (I1.hok.fresh (Nat.le_refl _))
  rcases hq with ⟨⟨xs, hq⟩, q⟩ | ⟨⟨xs, hq⟩, q⟩
  · obtain ⟨its, _, p, _⟩ := I1.list hq
    refine wpAny_pyIter_list p.isList ?_
    exact ⟨_, _, _, _, H1, rfl, I1.kept (t' := s1.toks) (fun b o e => Heap.get?_push_of_some _ e), turn_list a _, ⟨_, Heap.get?_push_size _ rfl, rfl, rfl⟩, fp, q⟩
  · obtain ⟨its, _, p, _⟩ := I1.tuple hq
    refine wpAny_pyIter_tuple (show s1.heap.IsTuple a its.toArray from p) ?_
    exact ⟨_, _, _, _, H1, rfl, I1.kept (t' := s1.toks) (fun b o e => Heap.get?_push_of_some _ e), turn_tuple a _, ⟨_, Heap.get?_push_size _ rfl, rfl, rfl⟩, fp, q⟩
def gL (n : Nat) : PIt := fun i S => match S[n]? with
  | some c => match c.items with
    | some xs => some xs[i]?
    | none => none
  | none => none
def gTu (xs : List PV) : PIt := fun i _ => some xs[i]?
def wSeqI (w : W) : WI := fun env S P => w env S fun x S1 => match x with
  | .tup xs => P (gTu xs) S1
  | .ref n => (∃ c xs, S1[n]? = some c ∧ c.items = some xs) ∧ P (gL n) S1
  | _ => False
theorem it_lst {K : PySem.W.Frag} {ι : List Addr} {H : Hp} {n : Nat} {a : Addr} (ha : ι[n]? = some a) : PItOk K (Itl K a) (gL n) ι H := by
  intro ι1 H1 S i e rs
  have ha1 := e.pre n a ha
  have key : ∀ r, gL n i S = some r → ∃ xs us, SqL K H1 a us ∧ RVs K ι1 H1 xs us ∧ r = xs[i]? := fun r h => by
    unfold gL at h
    split at h
    · rename_i c hc
      split at h
      · rename_i xs hx
        obtain ⟨us, hu, q⟩ := at_seq rs hc hx ha1
        exact ⟨xs, us, hu, q, (Option.some.inj h).symm⟩
      · cases h
    · cases h
  refine ⟨fun h => ?_, fun x h => ?_⟩
  · obtain ⟨xs, us, hu, q, e⟩ := key _ h
    exact ⟨us, hu, by rw [← q.length]; exact List.getElem?_eq_none_iff.mp e.symm⟩
  · obtain ⟨xs, us, hu, q, e⟩ := key _ h
    obtain ⟨v, h1, h2⟩ := q.get e.symm
    refine ⟨⟨us, v, hu, h1⟩, fun v' H' y => ?_⟩
    obtain ⟨rfl, y⟩ := y
    have := y us hu
    rw [h1] at this; cases this
    exact ⟨.refl, rs, h2⟩
theorem it_tup {K : PySem.W.Frag} {ι : List Addr} {H : Hp} {a : Addr} {xs : List PV} {us : List V} (ht : SqT K H a us) (r : RVs K ι H xs us) : PItOk K (Itt K a) (gTu xs) ι H := by
  intro ι1 H1 S i e rs
  have ht1 := e.sqT ht
  have r1 := r.mono e
  refine ⟨fun h => ?_, fun x h => ?_⟩
  · exact ⟨us, ht1, by rw [← r1.length]; exact List.getElem?_eq_none_iff.mp (Option.some.inj h)⟩
  · obtain ⟨v, h1, h2⟩ := r1.get (Option.some.inj h)
    refine ⟨⟨us, v, ht1, h1⟩, fun v' H' y => ?_⟩
    obtain ⟨rfl, y⟩ := y
    have := y us ht1
    rw [h1] at this; cases this
    exact ⟨.refl, rs, h2⟩
theorem ri_seq {X : Cx} {tg l : Expr} {w : W} (h : RE X l w) : RI X tg l (wSeqI w) := by
  refine ⟨PI.weak (pi_seq h.pe) fun σ H R ⟨ι, env, S, P, re, rs, hw, hP⟩ => ⟨ι, env, S, _, re, rs, hw, fun x S1 hx ι1 H1 v e1 rs1 rx => ?_⟩⟩
  cases x with
  | tup xs =>
    obtain ⟨a, us, rfl, s, q⟩ := tup_of rx
    exact ⟨a, rfl, .inr ⟨⟨us, s⟩, hP _ _ hx ι1 H1 _ e1 rs1 (it_tup s q)⟩⟩
  | ref n =>
    obtain ⟨a, rfl, ha⟩ := ref_of rx
    obtain ⟨⟨c, xs, hc, hi⟩, hp⟩ := hx
    obtain ⟨us, hu, q⟩ := at_seq rs1 hc hi ha
    exact ⟨a, rfl, .inl ⟨⟨us, hu⟩, hP _ _ hp ι1 H1 _ e1 rs1 (it_lst ha)⟩⟩
  | _ => exact hx.elim
def gR (lo : Int) (n : Nat) : PIt := fun i _ => if i < n then some (some (.int (lo + i))) else some none
theorem it_rng {K : PySem.W.Frag} {ι : List Addr} {H : Hp} {lo : Int} {n : Nat} : PItOk K (Itr lo n) (gR lo n) ι H := by
  intro ι1 H1 S i e rs
  refine ⟨fun h => ?_, fun x h => ?_⟩
  · unfold gR at h
    split at h
    · cases h
    · rename_i c; exact Nat.le_of_not_lt c
  · unfold gR at h
    split at h
    · rename_i c
      cases h
      refine ⟨c, fun v H' y => ?_⟩
      obtain ⟨rfl, rfl⟩ := y
      exact ⟨.refl, rs, .int _⟩
    · cases h
def wR1 (w : WA) : WI := fun env S P => w env S fun xs S1 => match xs with
  | [.int j] => (-(2 ^ 62) ≤ j ∧ j < 2 ^ 62) ∧ P (gR 0 j.toNat) S1
  | _ => False
def wR2 (w : WA) : WI := fun env S P => w env S fun xs S1 => match xs with
  | [.int i, .int j] => (-(2 ^ 62) ≤ i ∧ i < 2 ^ 62 ∧ -(2 ^ 62) ≤ j ∧ j < 2 ^ 62) ∧ P (gR i (j - i).toNat) S1
  | _ => False
theorem ri_range1 {X : Cx} {tg a : Expr} {w : WA} {p pos : Pos} (hg : Gl X "range") (hm : X.mg "range" = none) (ha : RA X [a] w) (hs : starEach [a] X.env = [(false, eval a X.env)] := by rfl) : RI X tg (.Call (.Name "range" p) [a] [] pos) (wR1 w) := by
  refine ⟨PI.weak (pi_range1 hg hm ha.pa hs) fun σ H R ⟨ι, env, S, P, re, rs, hw, hP⟩ => ⟨ι, env, S, _, re, rs, hw, fun xs S1 hx ι1 H1 vs e1 rs1 rx => ?_⟩⟩
  split at hx
  · obtain ⟨u, rfl, q⟩ := rvs1 rx
    cases int_of q
    exact ⟨_, rfl, hx.1.1, hx.1.2, hP _ _ hx.2 ι1 H1 _ e1 rs1 it_rng⟩
  · exact hx.elim
theorem ri_range2 {X : Cx} {tg a b : Expr} {w : WA} {p pos : Pos} (hg : Gl X "range") (hm : X.mg "range" = none) (ha : RA X [a, b] w) (hs : starEach [a, b] X.env = [(false, eval a X.env), (false, eval b X.env)] := by rfl) (hs2 : starEach [b] X.env = [(false, eval b X.env)] := by rfl) :
    RI X tg (.Call (.Name "range" p) [a, b] [] pos) (wR2 w) := by
  refine ⟨PI.weak (pi_range2 hg hm ha.pa hs hs2) fun σ H R ⟨ι, env, S, P, re, rs, hw, hP⟩ => ⟨ι, env, S, _, re, rs, hw, fun xs S1 hx ι1 H1 vs e1 rs1 rx => ?_⟩⟩
  split at hx
  · obtain ⟨u, v, rfl, q, q'⟩ := rvs2 rx
    cases int_of q; cases int_of q'
    exact ⟨_, _, rfl, hx.1, hP _ _ hx.2 ι1 H1 _ e1 rs1 it_rng⟩
  · exact hx.elim
/-- enumerate of a list -/
def gE (n : Nat) : PIt := fun i S => (gL n i S).map fun o => o.map fun x => .tup [.int (i : Nat), x]
def wEnum (w : WA) : WI := fun env S P => w env S fun xs S1 => match xs with
  | [.ref n] => (∃ c ys, S1[n]? = some c ∧ c.items = some ys) ∧ P (gE n) S1
  | _ => False
theorem ext_tup {ι : List Addr} {H : Hp} {p : Addr} {o : HO} (hp : H p = none) : Ext ι ι H (upd H p o) := by
  have := ext_new (ι := ι) (o := o) (l := []) hp
  rwa [List.append_nil] at this
theorem gL_of {K : PySem.W.Frag} {ι : List Addr} {H : Hp} {S : Store} {n i : Nat} {a : Addr} {r : Option PV} (rs : RS K ι H S) (ha : ι[n]? = some a) (h : gL n i S = some r) : ∃ xs us, SqL K H a us ∧ RVs K ι H xs us ∧ r = xs[i]? := by
  unfold gL at h
  split at h
  · rename_i c hc
    split at h
    · rename_i xs hx
      obtain ⟨us, hu, q⟩ := at_seq rs hc hx ha
      exact ⟨xs, us, hu, q, (Option.some.inj h).symm⟩
    · cases h
  · cases h
theorem it_enum {K : PySem.W.Frag} {ι : List Addr} {H : Hp} {n : Nat} {a : Addr} (ha : ι[n]? = some a) : PItOk K (Ite K a) (gE n) ι H := by
  intro ι1 H1 S i e rs
  refine ⟨fun h => ?_, fun x h => ?_⟩
  · obtain ⟨o, hg, ho⟩ := Option.map_eq_some_iff.mp h
    obtain ⟨xs, us, hu, q, e1⟩ := gL_of rs (e.pre n a ha) hg
    cases o with
    | some _ => cases ho
    | none => exact ⟨us, hu, by rw [← q.length]; exact List.getElem?_eq_none_iff.mp e1.symm⟩
  · obtain ⟨o, hg, ho⟩ := Option.map_eq_some_iff.mp h
    obtain ⟨xs, us, hu, q, e1⟩ := gL_of rs (e.pre n a ha) hg
    cases o with
    | none => cases ho
    | some y =>
      cases ho
      obtain ⟨v, hv, rv⟩ := q.get e1.symm
      refine ⟨⟨us, v, hu, hv⟩, fun v' H' q => ?_⟩
      obtain ⟨T, z, rfl, hT, rfl, hz⟩ := q
      have := hz us hu
      rw [hv] at this; cases this
      have E : Ext ι1 ι1 H1 (upd H1 T (.tup [.int (i : Nat), v])) := ext_tup hT
      exact ⟨E, rs.tup hT, .tup (SqT.of upd_same) (.cons (.int _) (.cons (rv.mono E) .nil))⟩
theorem ri_enum {X : Cx} {e : Expr} {w : WA} {p pos tpos : Pos} {elts : List Expr} {kk : Nat} (hg : Gl X "enumerate") (hm : X.mg "enumerate" = none) (ha : RA X [e] w) (hs : starEach [e] X.env = [(false, eval e X.env)] := by rfl) :
    RI X (.Tuple elts kk tpos) (.Call (.Name "enumerate" p) [e] [] pos) (wEnum w) := by
  refine ⟨PI.weak (pi_enum hg hm ha.pa hs) fun σ H R ⟨ι, env, S, P, re, rs, hw, hP⟩ => ⟨ι, env, S, _, re, rs, hw, fun xs S1 hx ι1 H1 vs e1 rs1 rx => ?_⟩⟩
  split at hx
  · obtain ⟨u, rfl, q⟩ := rvs1 rx
    obtain ⟨a, rfl, ha'⟩ := ref_of q
    obtain ⟨⟨c, ys, hc, hi⟩, hp⟩ := hx
    obtain ⟨us, hu, q⟩ := at_seq rs1 hc hi ha'
    exact ⟨a, us, rfl, hu, hP _ _ hp ι1 H1 _ e1 rs1 (it_enum ha')⟩
  · exact hx.elim

/-! ### list comprehensions -/
def wipeP (env : PEnv) : List Nat → PEnv
  | [] => env
  | v :: vs => (wipeP env vs).set v none
theorem REnv.wipe {K : PySem.W.Frag} {ι : List Addr} {H : Hp} {env : PEnv} {σ : LSt} (h : REnv K ι H env σ) : ∀ vs : List Nat, REnv K ι H (wipeP env vs) (L2.wipe σ vs)
  | [] => h
  | v :: vs => by
    have ih := REnv.wipe h vs
    unfold wipeP L2.wipe
    refine ⟨by rw [List.length_set, List.length_set]; exact ih.len, fun j y hy => ?_⟩
    by_cases hj : v = j
    · subst hj
      have hl : v < (wipeP env vs).length := by
        have := (List.getElem?_eq_some_iff.mp hy).1
        rwa [List.length_set] at this
      rw [List.getElem?_set_self hl] at hy
      cases hy
    · rw [List.getElem?_set_ne hj] at hy ⊢
      exact ih.at_ j y hy
structure RTs (X : Cx) (ifs : List Expr) (w : WT) : Prop where
  pt : PTs X ifs (tWT X.K w)
theorem PTs.weak {X : Cx} {e : List Expr} {t t' : TT} (h : PTs X e t) (i : ∀ σ H Q, t' σ H Q → t σ H Q) : PTs X e t' := ⟨fun pins s σ H Q I q => h.run pins s σ H Q I (i σ H Q q)⟩
def wYes : WT := fun _ S P => P true S
theorem rts_nil {X : Cx} : RTs X [] wYes := ⟨PTs.weak pts_nil fun σ H Q ⟨ι, env, S, P, re, rs, hw, hP⟩ => hP _ _ hw ι H .refl rs⟩
theorem rts_one {X : Cx} {c : Expr} {w : WT} (h : RT X c w) : RTs X [c] w := ⟨pts_one h.pt⟩
def wLcL (g : PIt) (tg : WG) (tt : WT) (te : W) (own : List Nat) (env0 : PEnv) (d : Nat) (P : PQ) : Nat → Nat → Store → Prop
  | 0, _, _ => False
  | m + 1, i, S => match g i S with
    | some none => P (.ref d) S
    | some (some x) => match tg x (wipeP env0 own) with
      | some env1 => tt env1 S fun b S1 => match b with
        | true => te env1 S1 fun y S2 => match S2[d]? with
          | some (.lst acc) => acc.length < sizeLine ∧ wLcL g tg tt te own env0 d P m (i + 1) (S2.set d (.lst (acc ++ [y])))
          | _ => False
        | false => wLcL g tg tt te own env0 d P m (i + 1) S1
      | none => False
    | none => False
def wLc (wi : WI) (tg : WG) (tt : WT) (te : W) (own : List Nat) : W := fun env S P => wi env S fun g S1 => ∃ m, wLcL g tg tt te own env S1.length P m 0 (S1 ++ [.lst []])
theorem tLc_of {K : PySem.W.Frag} {wi : WI} {tg : WG} {tt : WT} {te : W} {own sl : List Nat} (hsl : ∀ i ∈ sl, i ∈ own) {σ : LSt} {H : Hp} {Q : VK} (h : tW K (wLc wi tg tt te own) σ H Q) :
    tLc (tWI K wi) (tG K tg sl) (tWT K tt) (tW K te) own σ H Q := by
  obtain ⟨ι, env, S, P, re, rs, hw, hP⟩ := h
  refine ⟨ι, env, S, _, re, rs, hw, fun g S1 hx ι1 H1 J e1 rs1 ok => ?_⟩
  obtain ⟨m0, hm⟩ := hx
  intro D hD
  have E : Ext ι1 (ι1 ++ [D]) H1 (upd H1 D (.lst [])) := ext_new hD
  have rs2 : RS K (ι1 ++ [D]) (upd H1 D (.lst [])) (S1 ++ [.lst []]) := rs1.cell hD ⟨[], upd_same, .nil⟩
  have hat : (ι1 ++ [D])[S1.length]? = some D := by rw [← rs1.len, List.getElem?_append_right (Nat.le_refl _), Nat.sub_self]; rfl
  refine ⟨fun i m H' => ∃ ι' S', Ext (ι1 ++ [D]) ι' (upd H1 D (.lst [])) H' ∧ RS K ι' H' S' ∧ wLcL g tg tt te own env S1.length P m i S', ⟨m0, ι1 ++ [D], _, .refl, rs2, hm⟩, ?_⟩
  rintro i m H' ⟨ι', S', E', rs', hl⟩
  cases m with
  | zero => exact hl.elim
  | succ m =>
    obtain ⟨k1, k2⟩ := ok ι' H' S' i (E.trans E') rs'
    unfold wLcL at hl
    split at hl
    · rename_i hg
      exact .inl ⟨k1 hg, hP _ _ hl ι' H' _ ((e1.trans E).trans E') rs' (.ref (E'.pre _ _ hat))⟩
    · rename_i x hg
      obtain ⟨go, yl⟩ := k2 x hg
      refine .inr ⟨go, fun H'' => ∃ ι'' S'', Ext (ι1 ++ [D]) ι'' (upd H1 D (.lst [])) H'' ∧ RS K ι'' H'' S'' ∧ wLcL g tg tt te own env S1.length P m (i + 1) S'', fun H'' n => ⟨m, Nat.lt_succ_self _, n⟩, fun v H2 y => ?_⟩
      obtain ⟨e2, rs2', rv⟩ := yl v H2 y
      split at hl
      · rename_i env1 ht
        have EE : Ext ι ι' H H2 := ((e1.trans E).trans E').trans e2
        refine ⟨ι', x, wipeP env own, env1, (re.mono EE).wipe own, rv, ht, fun σ' re' sw => ?_⟩
        refine ⟨?_, ?_⟩
        · rw [sw own hsl]
          apply List.ext_getElem?
          intro j
          rw [wipe_get, wipe_get]
          by_cases hj : j ∈ own
          · rw [if_pos hj, if_pos hj]
            cases (σ[j]?) <;> rfl
          · rw [if_neg hj, if_neg hj]
        · refine ⟨ι', env1, S', _, re', rs2', hl, fun b S2 hb ι3 H3 e3 rs3 => ?_⟩
          cases b with
          | false => exact ⟨ι3, S2, (E'.trans e2).trans e3, rs3, hb⟩
          | true =>
            refine ⟨ι3, env1, S2, _, re'.mono e3, rs3, hb, fun z S3 hz ι4 H4 u e4 rs4 rz => ?_⟩
            have E4 : Ext (ι1 ++ [D]) ι4 (upd H1 D (.lst [])) H4 := ((E'.trans e2).trans e3).trans e4
            have hd := E4.pre _ _ hat
            split at hz
            · rename_i acc hacc
              obtain ⟨us, hu, q⟩ := at_lst rs4 hacc hd
              obtain ⟨rs5, E5⟩ := rs4.write (c' := .lst (acc ++ [z])) (o' := .lst (us ++ [u])) hacc hd rfl rfl fun E5 => ⟨_, upd_same, (q.snoc rz).mono E5⟩
              exact ⟨us, hu, by rw [← q.length]; exact hz.1, ι4, _, E4.trans E5, rs5, hz.2⟩
            · exact hz.elim
      · exact hl.elim
    · exact hl.elim
section
variable {X : Cx} {elt tg iter : Expr} {ifs : List Expr} {scope : Scope} {own : List (Str × Nat)} {pos : Pos} {wi : WI} {g : WG} {sl : List Nat} {tt : WT} {te : W}
theorem re_lc (hc : X.calm = true) (hN : X.N.Nodup) (hi : RI X tg iter wi) (ok : BlkOk X.N X.env.scope scope own) (hsl : ∀ i ∈ sl, i ∈ own.map (·.2))
    (hg : ∀ (s : Shared) (H : Hp) (C : Addr) (cl : List (Str × Addr)) (fp : List Addr), RG (X.blk s H scope (compEnvC scope cl C X.env) fp) tg g sl) (ht : ∀ (s : Shared) (H : Hp) (C : Addr) (cl : List (Str × Addr)) (fp : List Addr), RTs (X.blk s H scope (compEnvC scope cl C X.env) fp) ifs tt)
    (he : ∀ (s : Shared) (H : Hp) (C : Addr) (cl : List (Str × Addr)) (fp : List Addr), RE (X.blk s H scope (compEnvC scope cl C X.env) fp) elt te) (hs : ∀ x, foldedSetIterable iter X.env x = pure x := by intro _; rfl) :
    RE X (.ListComp elt [⟨tg, iter, ifs, 0⟩] scope pos) (wLc wi g tt te (own.map (·.2))) :=
  ⟨PE.weak (pe_lc hc hN hi.pi ok (fun s H C cl fp => (hg s H C cl fp).pg) (fun s H C cl fp => (ht s H C cl fp).pt) (fun s H C cl fp => (he s H C cl fp).pe) hs) fun _ _ _ h => tLc_of hsl h⟩
end

/-! ### statements -/
structure PEnds where
  nx : PEnv → Store → Prop
  rt : PQ
  bk : PEnv → Store → Prop
  ct : PEnv → Store → Prop
abbrev WS := PEnv → Store → PEnds → Prop
def FinN (K : PySem.W.Frag) (ι : List Addr) (H : Hp) (q : LSt → Hp → Prop) (env' : PEnv) (S' : Store) : Prop := ∀ ι' H' σ', Ext ι ι' H H' → RS K ι' H' S' → REnv K ι' H' env' σ' → q σ' H'
structure FinS (K : PySem.W.Frag) (ι : List Addr) (H : Hp) (P : PEnds) (D : Ends) : Prop where
  nx : ∀ env' S', P.nx env' S' → FinN K ι H D.nx env' S'
  rt : ∀ x S', P.rt x S' → Fin K ι H D.rt x S'
  bk : ∀ env' S', P.bk env' S' → FinN K ι H D.bk env' S'
  ct : ∀ env' S', P.ct env' S' → FinN K ι H D.ct env' S'
theorem FinN.ext {K : PySem.W.Frag} {ι ι1 : List Addr} {H H1 : Hp} {q : LSt → Hp → Prop} {env' : PEnv} {S' : Store} (e : Ext ι ι1 H H1) (h : FinN K ι H q env' S') : FinN K ι1 H1 q env' S' := fun ι' H' σ' e' => h ι' H' σ' (e.trans e')
theorem FinS.ext {K : PySem.W.Frag} {ι ι1 : List Addr} {H H1 : Hp} {P : PEnds} {D : Ends} (e : Ext ι ι1 H H1) (h : FinS K ι H P D) : FinS K ι1 H1 P D :=
  ⟨fun a b c => (h.nx a b c).ext e, fun a b c => (h.rt a b c).ext e, fun a b c => (h.bk a b c).ext e, fun a b c => (h.ct a b c).ext e⟩
def tWS (K : PySem.W.Frag) (w : WS) : TS := fun D σ H => ∃ ι env S P, REnv K ι H env σ ∧ RS K ι H S ∧ w env S P ∧ FinS K ι H P D
structure JS (X : Cx) (st : Stmt) (w : WS) : Prop where
  ps : PS X st (tWS X.K w)
structure JB (X : Cx) (sts : List Stmt) (w : WS) : Prop where
  ps : PSs X sts (tWS X.K w)
theorem PS.weak {X : Cx} {e : Stmt} {t t' : TS} (h : PS X e t) (i : ∀ D σ H, t' D σ H → t D σ H) : PS X e t' := ⟨fun pins s σ H D I q => h.run pins s σ H D I (i D σ H q)⟩
theorem PSs.weak {X : Cx} {e : List Stmt} {t t' : TS} (h : PSs X e t) (i : ∀ D σ H, t' D σ H → t D σ H) : PSs X e t' := ⟨fun pins s σ H D I q => h.run pins s σ H D I (i D σ H q)⟩
section
variable {X : Cx} {st : Stmt} {rest : List Stmt} {w w2 : WS} {e : Expr} {we : W} {pos : Pos}
def wNx : WS := fun env S D => D.nx env S
def wSq (a b : WS) : WS := fun env S D => a env S { D with nx := fun env1 S1 => b env1 S1 D }
theorem jb_nil : JB X [] wNx := ⟨PSs.weak pss_nil fun D σ H ⟨ι, env, S, P, re, rs, hw, hP⟩ => hP.nx _ _ hw ι H σ .refl rs re⟩
theorem jb_cons (h : JS X st w) (h2 : JB X rest w2) : JB X (st :: rest) (wSq w w2) := by
  refine ⟨PSs.weak (pss_cons h.ps h2.ps) fun D σ H ⟨ι, env, S, P, re, rs, hw, hP⟩ => ⟨ι, env, S, _, re, rs, hw, ?_, hP.rt, hP.bk, hP.ct⟩⟩
  exact fun env1 S1 hx ι1 H1 σ1 e1 rs1 re1 => ⟨ι1, env1, S1, P, re1, rs1, hx, hP.ext e1⟩
theorem jb_one (h : JS X st w) : JB X [st] w := ⟨pss_one h.ps⟩
theorem js_pass : JS X (.Pass pos) wNx := ⟨PS.weak ps_pass fun D σ H ⟨ι, env, S, P, re, rs, hw, hP⟩ => hP.nx _ _ hw ι H σ .refl rs re⟩
theorem js_break : JS X (.Break pos) (fun env S D => D.bk env S) := ⟨PS.weak ps_break fun D σ H ⟨ι, env, S, P, re, rs, hw, hP⟩ => hP.bk _ _ hw ι H σ .refl rs re⟩
theorem js_continue : JS X (.Continue pos) (fun env S D => D.ct env S) := ⟨PS.weak ps_continue fun D σ H ⟨ι, env, S, P, re, rs, hw, hP⟩ => hP.ct _ _ hw ι H σ .refl rs re⟩
def wDrop (we : W) : WS := fun env S D => we env S fun _ S1 => D.nx env S1
theorem js_expr (h : RE X e we) (hs : swapsWith e none pos.line X.env = pure false := by rfl) : JS X (.Expr e pos) (wDrop we) :=
  ⟨PS.weak (ps_expr h.pe hs) fun D σ H ⟨ι, env, S, P, re, rs, hw, hP⟩ => ⟨ι, env, S, _, re, rs, hw, fun x S1 hx ι1 H1 v e1 rs1 rx => hP.nx _ _ hx ι1 H1 σ e1 rs1 (re.mono e1)⟩⟩
def wRet (we : W) : WS := fun env S D => we env S D.rt
theorem js_ret (h : RE X e we) : JS X (.Return (some e) pos) (wRet we) :=
  ⟨PS.weak (ps_ret h.pe) fun D σ H ⟨ι, env, S, P, re, rs, hw, hP⟩ => ⟨ι, env, S, P.rt, re, rs, hw, hP.rt⟩⟩
theorem js_retN : JS X (.Return none pos) (fun _ S D => D.rt .non S) := ⟨PS.weak ps_retN fun D σ H ⟨ι, env, S, P, re, rs, hw, hP⟩ => hP.rt _ _ hw ι H _ .refl rs .non⟩
def wIfS (t : WT) (a b : WS) : WS := fun env S D => t env S fun c S1 => match c with
  | true => a env S1 D
  | false => b env S1 D
theorem js_if {c : Expr} {a b : List Stmt} {t : WT} (hc : RT X c t) (ha : JB X a w) (hb : JB X b w2) : JS X (.If c a b pos) (wIfS t w w2) := by
  refine ⟨PS.weak (ps_if hc.pt ha.ps hb.ps) fun D σ H ⟨ι, env, S, P, re, rs, hw, hP⟩ => ⟨ι, env, S, _, re, rs, hw, fun b S1 hb ι1 H1 e1 rs1 => ?_⟩⟩
  cases b with
  | true => exact ⟨ι1, env, S1, P, re.mono e1, rs1, hb, hP.ext e1⟩
  | false => exact ⟨ι1, env, S1, P, re.mono e1, rs1, hb, hP.ext e1⟩
def wSet (i : Nat) (we : W) : WS := fun env S D => we env S fun x S1 => D.nx (env.set i (some x)) S1
theorem asg_of {K : PySem.W.Frag} {i : Nat} {D : Ends} {σ : LSt} {H : Hp} (h : tWS K (wSet i we) D σ H) : tAsg (tW K we) (gName i) D σ H := by
  obtain ⟨ι, env, S, P, re, rs, hw, hP⟩ := h
  exact ⟨ι, env, S, _, re, rs, hw, fun x S1 hx ι1 H1 v e1 rs1 rx => hP.nx _ _ hx ι1 H1 _ e1 rs1 ((re.mono e1).set rx)⟩
theorem js_set (i : Nat) {x : Str} {pos' : Pos} (hN : X.N.Nodup) (h : RE X e we) (hi : X.N[i]? = some x := by rfl) (hx : Loc X.env.scope x := by first | exact Or.inl rfl | exact Or.inr rfl) (hs : swapsWith e (some (.Name x pos')) pos.line X.env = pure false := by rfl)
    (hf : X.fn x = true ∨ X.env.scope.names.lookup x = some .local := by first | exact .inl rfl | exact .inr rfl | assumption) : JS X (.Assign [.Name x pos'] e pos) (wSet i we) :=
  ⟨PS.weak (ps_set hN hi hx h.pe hs hf) fun _ _ _ h => asg_of h⟩
theorem js_setLc (i : Nat) {y : Str} {py spos : Pos} {elt tg iter : Expr} {ifs : List Expr} {scope : Scope} {own : List (Str × Nat)} {wi : WI} {g : WG} {sl : List Nat} {tt : WT} {te : W} (hc : X.calm = true) (hN : X.N.Nodup) (hi : RI X tg iter wi) (ok : BlkOk X.N X.env.scope scope own) (hsl : ∀ i ∈ sl, i ∈ own.map (·.2))
    (hsw : swapsWith (.ListComp elt [⟨tg, iter, ifs, 0⟩] scope pos) (some (.Name y py)) spos.line X.env = pure true)
    (hg : ∀ (s : Shared) (H : Hp) (C : Addr) (cl : List (Str × Addr)) (fp : List Addr), RG (X.blk s H scope (compEnvC scope cl C X.env) fp) tg g sl) (ht : ∀ (s : Shared) (H : Hp) (C : Addr) (cl : List (Str × Addr)) (fp : List Addr), RTs (X.blk s H scope (compEnvC scope cl C X.env) fp) ifs tt)
    (he : ∀ (s : Shared) (H : Hp) (C : Addr) (cl : List (Str × Addr)) (fp : List Addr), RE (X.blk s H scope (compEnvC scope cl C X.env) fp) elt te)
    (hy : X.N[i]? = some y := by rfl) (hyl : X.env.scope.names.lookup y = some .local := by rfl) (hs : ∀ x, foldedSetIterable iter X.env x = pure x := by intro _; rfl) :
    JS X (.Assign [.Name y py] (.ListComp elt [⟨tg, iter, ifs, 0⟩] scope pos) spos) (wSet i (wLc wi g tt te (own.map (·.2)))) := by
  refine ⟨PS.weak (ps_setLc (wi := tWI X.K wi) (g := tG X.K g sl) (tt := tWT X.K tt) (te := tW X.K te) hc hN hy hyl hsw hi.pi ok (fun s H C cl fp => (hg s H C cl fp).pg) (fun s H C cl fp => (ht s H C cl fp).pt) (fun s H C cl fp => (he s H C cl fp).pe) hs) fun D σ H h => ?_⟩
  obtain ⟨ι, env, S, P, re, rs, hw, hP⟩ := h
  exact tLc_of hsl ⟨ι, env, S, _, re, rs, hw, fun x S1 hx ι1 H1 v e1 rs1 rx => hP.nx _ _ hx ι1 H1 _ e1 rs1 ((re.mono e1).set rx)⟩
/-- a, b = e -/
def wAsg (we : W) (g : WG) : WS := fun env S D => we env S fun x S1 => match g x env with
  | some env1 => D.nx env1 S1
  | none => False
theorem js_asg {tg : Expr} {g : WG} {sl : List Nat} (h : RE X e we) (hg : RG X tg g sl) (hs : swapsWithSole [tg] e pos.line X.env = pure false := by rfl) (hw : swappedStores [tg] e X.env = pure none := by rfl)
    (h1 : (assignEach [tg] X.env).map (·.2) = [assign tg X.env] := by rfl) : JS X (.Assign [tg] e pos) (wAsg we g) := by
  refine ⟨PS.weak (ps_asg h.pe hg.pg hs hw h1) fun D σ H ⟨ι, env, S, P, re, rs, hw, hP⟩ => ⟨ι, env, S, _, re, rs, hw, fun x S1 hx ι1 H1 v e1 rs1 rx => ?_⟩⟩
  split at hx
  · rename_i env1 hg1
    exact ⟨ι1, x, env, env1, re.mono e1, rx, hg1, fun σ' re' _ => hP.nx _ _ hx ι1 H1 σ' e1 rs1 re'⟩
  · exact hx.elim
/-- a, b = x, y, plain local names -/
def wPar (i j : Nat) (w : WA) : WS := fun env S D => w env S fun xs S1 => match xs with
  | [x, y] => D.nx ((env.set i (some x)).set j (some y)) S1
  | _ => False
theorem js_par (i j : Nat) {x y : Str} {a b : Expr} {wa : WA} {px py pt : Pos} {kt k2 pt2} (hc : X.calm = true) (hN : X.N.Nodup) (ha : RA X [a, b] wa)
    (hi : X.N[i]? = some x := by rfl) (hj : X.N[j]? = some y := by rfl) (hij : i ≠ j := by decide)
    (hx : X.env.scope.names.lookup x = some .local := by rfl) (hy : X.env.scope.names.lookup y = some .local := by rfl)
    (hw : swappedStores [.Tuple [.Name x px, .Name y py] kt pt] (.Tuple [a, b] k2 pt2) X.env = pure (some [x, y]) := by rfl)
    (hs : swapsWithSole [.Tuple [.Name x px, .Name y py] kt pt] (.Tuple [a, b] k2 pt2) pos.line X.env = pure false := by rfl) :
    JS X (.Assign [.Tuple [.Name x px, .Name y py] kt pt] (.Tuple [a, b] k2 pt2) pos) (wPar i j wa) := by
  refine ⟨PS.weak (ps_par hc hN hi hj hij hx hy ha.pa hw hs) fun D σ H ⟨ι, env, S, P, re, rs, hw, hP⟩ => ⟨ι, env, S, _, re, rs, hw, fun xs S1 hx ι1 H1 vs e1 rs1 rx => ?_⟩⟩
  split at hx
  · obtain ⟨u, v, rfl, q, q'⟩ := rvs2 rx
    exact ⟨u, v, rfl, hP.nx _ _ hx ι1 H1 _ e1 rs1 (((re.mono e1).set q).set q')⟩
  · exact hx.elim
/-- x op= e -/
def wAug (i : Nat) (f : F2) (we : W) : WS := fun env S D => match env[i]? with
  | some (some x) => we env S fun y S1 => opt (f x y S1) fun z S2 => D.nx (env.set i (some z)) S2
  | _ => False
theorem js_aug (i : Nat) {x : Str} {op : Operator} {f : F2} {pos' : Pos} (hN : X.N.Nodup) (h : RE X e we) (ho : OpR X (inplaceOp op) (rOp X.K f)) (hi : X.N[i]? = some x := by rfl) (hx : Loc X.env.scope x := by first | exact Or.inl rfl | exact Or.inr rfl)
    (hf : X.fn x = true ∨ X.env.scope.names.lookup x = some .local := by first | exact .inl rfl | exact .inr rfl | assumption) : JS X (.AugAssign (.Name x pos') op e pos) (wAug i f we) := by
  refine ⟨PS.weak (ps_aug hN hi hx h.pe ho hf) fun D σ H ⟨ι, env, S, P, re, rs, hw, hP⟩ => ?_⟩
  unfold wAug at hw
  split at hw
  · rename_i x0 hx0
    obtain ⟨v, h1, h2⟩ := re.at_ i x0 hx0
    refine ⟨v, h1, ι, env, S, _, re, rs, hw, fun y S1 hy ι1 H1 u e1 rs1 ry => ?_⟩
    exact ⟨ι1, S1, x0, y, _, rs1, h2.mono e1, ry, hy, fun z S2 hz ι2 H2 w2 e2 rs2 rz => hP.nx _ _ hz ι2 H2 _ (e1.trans e2) rs2 ((re.mono (e1.trans e2)).set rz)⟩
  · exact hw.elim
/-- o[i] = v, a list -/
def wSub (wo wi wv : W) : WS := fun env S D => wv env S fun v S1 => wo env S1 fun o S2 => wi env S2 fun i S3 => match o, i with
  | .ref n, .int k => match S3[n]? with
    | some (.lst xs) => match ixN xs.length k with
      | some j => D.nx env (S3.set n (.lst (xs.set j v)))
      | none => False
    | _ => False
  | _, _ => False
theorem js_sub {o i v : Expr} {wo wi wv : W} {tpos : Pos} (hv : RE X v wv) (ho : RE X o wo) (hi : RE X i wi) (hs : swapsWithSole [.Subscript o i tpos] v pos.line X.env = pure false := by rfl) (hw : swappedStores [.Subscript o i tpos] v X.env = pure none := by rfl)
    (h1 : (assignEach [.Subscript o i tpos] X.env).map (·.2) = [assign (.Subscript o i tpos) X.env] := by rfl)
    (ha : ∀ v, assign (.Subscript o i tpos) X.env v = (do
      let ov ← holding [v] (eval o X.env)
      let iv ← holding [v, ov] (eval i X.env)
      standAt tpos
      holding [v, ov, iv] (setItem ov iv v)
      release [v, ov, iv] []) := by intro _; rfl) : JS X (.Assign [.Subscript o i tpos] v pos) (wSub wo wi wv) := by
  refine ⟨PS.weak (ps_asg hv.pe (pg_sub ho.pe hi.pe set_list ha) hs hw h1) fun D σ H ⟨ι, env, S, P, re, rs, hw, hP⟩ => ⟨ι, env, S, _, re, rs, hw, fun x S1 hx ι1 H1 v e1 rs1 rx => ?_⟩⟩
  refine ⟨ι1, env, S1, _, re.mono e1, rs1, hx, fun y S2 hy ι2 H2 u e2 rs2 ry => ⟨ι2, env, S2, _, re.mono (e1.trans e2), rs2, hy, fun z S3 hz ι3 H3 w e3 rs3 rz => ?_⟩⟩
  split at hz
  · obtain ⟨a, rfl, ha'⟩ := ref_of (ry.mono e3)
    cases int_of rz
    split at hz
    · rename_i xs hn
      split at hz
      · rename_i j hj
        obtain ⟨us, hu, q⟩ := at_lst rs3 hn ha'
        have E := (e1.trans e2).trans e3
        obtain ⟨rs4, E4⟩ := rs3.write (c' := .lst (xs.set j x)) (o' := .lst (us.set j v)) hn ha' rfl rfl fun E4 => ⟨_, upd_same, (q.set ((rx.mono (e2.trans e3))) j).mono E4⟩
        exact ⟨a, us, _, j, rfl, rfl, hu, by rw [← q.length]; exact hj, hP.nx _ _ hz ι3 _ σ (E.trans E4) rs4 (re.mono (E.trans E4))⟩
      · exact hz.elim
    · exact hz.elim
  · exact hz.elim
/-- d[k] = v -/
def wDPut (wo wi wv : W) : WS := fun env S D => wv env S fun v S1 => wo env S1 fun o S2 => wi env S2 fun i S3 => match o, keyOf i with
  | .ref n, some k => match S3[n]? with
    | some (.dic kvs) => kvs.length < sizeLine ∧ D.nx env (S3.set n (.dic (putP kvs k v)))
    | _ => False
  | _, _ => False
theorem js_dput {o i v : Expr} {wo wi wv : W} {tpos : Pos} (hu : X.A.units + 1 < cLine) (hv : RE X v wv) (ho : RE X o wo) (hi : RE X i wi) (hs : swapsWith v (some (.Subscript o i tpos)) pos.line X.env = pure false := by rfl) : JS X (.Assign [.Subscript o i tpos] v pos) (wDPut wo wi wv) := by
  refine ⟨PS.weak (ps_dput hu ho.pe hi.pe hv.pe hs) fun D σ H ⟨ι, env, S, P, re, rs, hw, hP⟩ => ⟨ι, env, S, _, re, rs, hw, fun x S1 hx ι1 H1 v e1 rs1 rx => ?_⟩⟩
  refine ⟨ι1, env, S1, _, re.mono e1, rs1, hx, fun y S2 hy ι2 H2 u e2 rs2 ry => ⟨ι2, env, S2, _, re.mono (e1.trans e2), rs2, hy, fun z S3 hz ι3 H3 w e3 rs3 rz => ?_⟩⟩
  split at hz
  · rename_i n k hk
    obtain ⟨a, rfl, ha'⟩ := ref_of (ry.mono e3)
    cases keyOf_of rz hk
    split at hz
    · rename_i kvs hn
      obtain ⟨us, hu', q⟩ := at_dic rs3 hn ha'
      have E := (e1.trans e2).trans e3
      obtain ⟨rs4, E4⟩ := rs3.write (c' := .dic (putP kvs k x)) (o' := .dK (putK us k v)) hn ha' rfl rfl fun E4 => ⟨_, upd_same, (q.put (rx.mono (e2.trans e3))).mono E4⟩
      exact ⟨a, _, rfl, DPut.k hu' (by rw [← q.length]; exact hz.1), hP.nx _ _ hz.2 ι3 _ σ (E.trans E4) rs4 (re.mono (E.trans E4))⟩
    · exact hz.elim
  · exact hz.elim

/-! ### loops -/
def wLoop (g : PIt) (tg : WG) (body : WS) (D : PEnds) : Nat → Nat → PEnv → Store → Prop
  | 0, _, _, _ => False
  | m + 1, i, env, S => match g i S with
    | some none => D.nx env S
    | some (some x) => match tg x env with
      | some env1 => body env1 S ⟨wLoop g tg body D m (i + 1), D.rt, D.nx, wLoop g tg body D m (i + 1)⟩
      | none => False
    | none => False
def wFor (wi : WI) (tg : WG) (body : WS) : WS := fun env S D => wi env S fun g S1 => ∃ m, wLoop g tg body D m 0 env S1
theorem js_for {tg iter : Expr} {body : List Stmt} {wi : WI} {g : WG} {sl : List Nat} (hp : PassesOwn (model X.prog X.w) X.A X.env X.xe) (hc : X.calm = true) (hi : RI X tg iter wi) (hg : RG X tg g sl) (hb : JB X body w)
    (hs : ∀ x, foldedSetIterable iter X.env x = pure x := by intro _; rfl) : JS X (.For tg iter body [] pos) (wFor wi g w) := by
  refine ⟨PS.weak (ps_for hp hc hi.pi hg.pg hb.ps hs) fun D σ H ⟨ι, env, S, P, re, rs, hw, hP⟩ => ⟨ι, env, S, _, re, rs, hw, fun gi S1 hx ι1 H1 J e1 rs1 ok => ?_⟩⟩
  obtain ⟨m0, hm⟩ := hx
  refine ⟨fun i m σ' H' => ∃ ι' env' S', Ext ι1 ι' H1 H' ∧ REnv X.K ι' H' env' σ' ∧ RS X.K ι' H' S' ∧ wLoop gi g w P m i env' S', ⟨m0, ι1, env, S1, .refl, re.mono e1, rs1, hm⟩, ?_⟩
  rintro i m σ' H' ⟨ι', env', S', E', re', rs', hl⟩
  cases m with
  | zero => exact hl.elim
  | succ m =>
    obtain ⟨k1, k2⟩ := ok ι' H' S' i E' rs'
    unfold wLoop at hl
    split at hl
    · rename_i hgi
      exact .inl ⟨k1 hgi, hP.nx _ _ hl ι' H' σ' (e1.trans E') rs' re'⟩
    · rename_i x hgi
      obtain ⟨go, yl⟩ := k2 x hgi
      refine .inr ⟨go, fun σ'' H'' => ∃ ι'' env'' S'', Ext ι1 ι'' H1 H'' ∧ REnv X.K ι'' H'' env'' σ'' ∧ RS X.K ι'' H'' S'' ∧ wLoop gi g w P m (i + 1) env'' S'', fun σ'' H'' n => ⟨m, Nat.lt_succ_self _, n⟩, fun v H2 y => ?_⟩
      obtain ⟨e2, rs2, rv⟩ := yl v H2 y
      split at hl
      · rename_i env1 ht
        refine ⟨ι', x, env', env1, re'.mono e2, rv, ht, fun σ2 re2 _ => ?_⟩
        refine ⟨ι', env1, S', _, re2, rs2, hl, fun env3 S3 h3 ι3 H3 σ3 e3 rs3 re3 => ?_, fun x' S3 h3 => (hP.rt x' S3 h3).ext ((e1.trans E').trans e2), fun env3 S3 h3 => (hP.nx env3 S3 h3).ext ((e1.trans E').trans e2), fun env3 S3 h3 ι3 H3 σ3 e3 rs3 re3 => ?_⟩
        · exact ⟨ι3, env3, S3, (E'.trans e2).trans e3, re3, rs3, h3⟩
        · exact ⟨ι3, env3, S3, (E'.trans e2).trans e3, re3, rs3, h3⟩
      · exact hl.elim
    · exact hl.elim
def wWhL (t : WT) (body : WS) (D : PEnds) : Nat → PEnv → Store → Prop
  | 0, _, _ => False
  | m + 1, env, S => t env S fun b S1 => match b with
    | true => body env S1 ⟨wWhL t body D m, D.rt, D.nx, wWhL t body D m⟩
    | false => D.nx env S1
def wWhile (t : WT) (body : WS) : WS := fun env S D => ∃ m, wWhL t body D m env S
theorem js_while {c : Expr} {body : List Stmt} {t : WT} (hp : PassesOwn (model X.prog X.w) X.A X.env X.xe) (hc : RT X c t) (hb : JB X body w) : JS X (.While c body [] pos) (wWhile t w) := by
  refine ⟨PS.weak (ps_while hp hc.pt hb.ps) fun D σ H ⟨ι, env, S, P, re, rs, ⟨m0, hw⟩, hP⟩ => ?_⟩
  refine ⟨fun m σ' H' => ∃ ι' env' S', Ext ι ι' H H' ∧ REnv X.K ι' H' env' σ' ∧ RS X.K ι' H' S' ∧ wWhL t w P m env' S', ⟨m0, ι, env, S, .refl, re, rs, hw⟩, ?_⟩
  rintro m σ' H' ⟨ι', env', S', E', re', rs', hl⟩
  cases m with
  | zero => exact hl.elim
  | succ m =>
    refine ⟨ι', env', S', _, re', rs', hl, fun b S1 hb ι1 H1 e1 rs1 => ?_⟩
    cases b with
    | false => exact hP.nx _ _ hb ι1 H1 σ' (E'.trans e1) rs1 (re'.mono e1)
    | true =>
      refine ⟨fun σ'' H'' => ∃ ι'' env'' S'', Ext ι ι'' H H'' ∧ REnv X.K ι'' H'' env'' σ'' ∧ RS X.K ι'' H'' S'' ∧ wWhL t w P m env'' S'', fun σ'' H'' n => ⟨m, Nat.lt_succ_self _, n⟩, ?_⟩
      refine ⟨ι1, env', S1, _, re'.mono e1, rs1, hb, fun env3 S3 h3 ι3 H3 σ3 e3 rs3 re3 => ?_, fun x' S3 h3 => (hP.rt x' S3 h3).ext (E'.trans e1), fun env3 S3 h3 => (hP.nx env3 S3 h3).ext (E'.trans e1), fun env3 S3 h3 ι3 H3 σ3 e3 rs3 re3 => ?_⟩
      · exact ⟨ι3, env3, S3, (E'.trans e1).trans e3, re3, rs3, h3⟩
      · exact ⟨ι3, env3, S3, (E'.trans e1).trans e3, re3, rs3, h3⟩
end
end Lt
set_option Elab.async false
set_option linter.all false
set_option maxRecDepth 100000
/-! Lt6: repr, calls of the text's defs, a def's rule, the law's end. -/
namespace Lt
open PySem PySem.Spec PyProof.Rows L2

/-! ### repr of lists and tuples -/
def bRepr : FB
  | [x], S => match toD 66 S x with
    | some d => if isDisplay d = true ∧ d.hasDict = false ∧ d.showable = true ∧ d.depth ≤ 60 ∧ d.shown.length ≤ sizeLine then some (.str d.shown, S) else none
    | none => none
  | _, _ => none
theorem call_bRepr {X : Cx} (hg : X.A.guards = some []) (hu : X.A.units + 64 < cLine) : CallR X (.builtin "repr") (rB X.K bRepr) := by
  intro pins s σ H vs us Q I r ⟨ι, S, xs, P, rs, rx, hf, hP⟩
  unfold bRepr at hf
  split at hf
  · obtain ⟨v, rfl, q⟩ := rvs1 rx
    obtain ⟨u, rfl, ru⟩ := vals1 r
    split at hf
    · rename_i d hd
      obtain ⟨⟨c1, c2, c3, c4, c5⟩, h⟩ := opt_ite hf
      obtain ⟨as, r1⟩ := Dp.reads I d v u (dp_of rs _ _ _ _ hd c2 q) ru
      obtain ⟨a, rfl⟩ := isRef_of_reads r1 c1
      refine repr_of_reads' r1 c3 (PyData.noDict_hsm c2) hg (by omega) (fun _ _ e => e) (fun h' u tk hk => ?_) c5
      exact ⟨.str d.shown, H, I.kept hk, ⟨u, rfl⟩, hP _ _ h ι H _ .refl rs (.str _)⟩
    · exact hf.elim
  · exact hf.elim

/-! ### defs -/
/-- as FnOk, where no repr is under way around -/
structure FnG (P : Program) (w : World) (K : PySem.W.Frag) (mg : Str → Option Value) (base : Heap) (CX : CXT) (k : Nat) (f : Addr) (fd : FuncData) (ps : List Str) (sp : Sp) : Prop where
  len : ∀ vs H Q E, sp vs H Q E → vs.length = ps.length
  run : ∀ (A : Around) (outer : List Env) (s : Shared) (H : Hp) (args : Args) (us : List Value) (vs : List V) (Q : VK) (E : XK), Room k A → A.guards = some [] → Env0 P w K mg base A outer s H → BindsTo s fd args (ps.zip us) → Vals vs us → sp vs H Q E →
    codeAny (model P w) A (.call (.ref f) args) (CR CX outer P w H s Q E) s
theorem FnG.mono {P : Program} {w : World} {K : PySem.W.Frag} {mg : Str → Option Value} {base : Heap} {CX : CXT} {j k : Nat} {f : Addr} {fd : FuncData} {ps : List Str} {sp : Sp} (F : FnG P w K mg base CX j f fd ps sp) (h : j ≤ k) :
    FnG P w K mg base CX k f fd ps sp := ⟨F.len, fun A outer s H args us vs Q E hr => F.run A outer s H args us vs Q E (hr.mono h)⟩
/-- a plain promise -/
abbrev Con := List PV → Store → PQ → Prop
def spC (K : PySem.W.Frag) (c : Con) : Sp := fun vs H Q _ => ∃ ι S xs, ∃ P : PQ, RS K ι H S ∧ RVs K ι H xs vs ∧ c xs S P ∧ ∀ x S', P x S' → Fin K ι H Q x S'
def wF (c : Con) (w : WA) : W := fun env S P => w env S fun xs S1 => c xs S1 P
section
variable {X : Cx} {k : Nat} {f : Addr} {fd : FuncData} {ps ks : List Str} {c : Con} {x : Str} {p pos : Pos} {e : Expr} {es : List Expr} {kws : List Keyword} {w wk : WA} {CX : CXT} {E : XK}
theorem run_con {sp : Sp} {pins : List (Addr × Obj)} {σ : LSt} {H : Hp} {s : Shared} {Q : VK} {args : Args} {us : List Value} {vs : List V} (F : FnG X.prog X.w X.K X.mg X.base CX k f fd ps sp) (hr : Room k X.A) (hgd : X.A.guards = some []) (hx : Passes CX X E)
    (I : Inv X pins σ H s) (hb : BindsTo s fd args (ps.zip us)) (r : Vals vs us) (h : sp vs H Q E) : wpAny (model X.prog X.w) X.A (call (.ref f) args.pos args.kw) (EP X pins σ Q) X.xe s := by
  refine wpAny_call (codeAny_mono (F.run X.A X.stack s H args us vs Q E hr hgd I.env0 hb r h) fun r s' hq => ?_)
  rcases r with e | fl
  · exact hx pins σ H s e s' I hq
  · cases fl with
    | ret u => exact I.after hq
    | _ => exact False.elim hq
theorem spC_of {K : PySem.W.Frag} {ι ι1 : List Addr} {H H1 : Hp} {S1 : Store} {xs : List PV} {vs : List V} {P : PQ} {Q : VK} {E : XK} (e1 : Ext ι ι1 H H1) (rs1 : RS K ι1 H1 S1) (rx : RVs K ι1 H1 xs vs) (hP : ∀ x S', P x S' → Fin K ι H Q x S')
    (h : c xs S1 P) : spC K c vs H1 Q E := ⟨ι1, S1, xs, P, rs1, rx, h, fun x S' hx => (hP x S' hx).ext e1⟩
/-- f(e, ..) -/
theorem re_call (F : FnG X.prog X.w X.K X.mg X.base CX k f fd ps (spC X.K c)) (hr : Room k X.A) (hgd : X.A.guards = some []) (hg : Gl X x) (hm : X.mg x = some (.ref f)) (hk : PySem.W.keepIn X.K (.ref f) = true) (hb : Binds X.K fd ps []) (hx : Passes CX X E)
    (ha : RA X (e :: es) w) (hdb : (x == ("__debug__" : Str)) = false := by decide) (he : starEach (e :: es) X.env = (false, eval e X.env) :: starEach es X.env := by rfl) (hpl : (backTo pos (starEach es X.env)).any (·.1) = false := by rfl) :
    RE X (.Call (.Name x p) (e :: es) [] pos) (wF c w) := by
  refine ⟨⟨fun pins s σ H Q I ⟨ι, env, S, P, re, rs, hw, hP⟩ => ?_⟩⟩
  refine wpAny_Call_Name_kw (ld_glob I hg hm ?_ hdb)
  refine PySem.W.callWith_K (h₀ := X.base) I.ok.mod.kin hk (thn (ha.pa.run pos pins s σ H (fun vs H1 => spC X.K c vs H1 Q E) I ⟨ι, env, S, _, re, rs, hw, fun xs S1 hx ι1 H1 vs e1 rs1 rx => spC_of e1 rs1 rx hP hx⟩) fun us s1 ⟨vs, H1, I1, r, q⟩ => ⟨I1.kIn, ?_⟩) he hpl
  have hl : (us ++ ([] : List Value)).length = ps.length := by rw [List.append_nil, ← r.length]; exact F.len _ _ _ _ q
  have hb' := hb s1 us I1.kIn hl
  rw [List.append_nil] at hb'
  exact run_con (args := ⟨us, []⟩) F hr hgd hx I1 hb' r q
end
/-- where a def's body stands: all that its parts ask of the context -/
structure Ctx (X : Cx) : Prop where
  calm : X.calm = true
  nd : X.N.Nodup
  gd : X.A.guards = some []

section
variable {P : Program} {w : World} {K : PySem.W.Frag} {mg : Str → Option Value} {base : Heap}
/-- THE RULE for a def: its body as a plain term, and what is to be shown of it -/
theorem def_ok {x qual : Str} {st : Stmt} {f : Addr} {fd : FuncData} {N ps : List Str} {k : Nat} {c : Con} {wb : WS} (F : Fun K x qual st f fd) (S : FnScope N ps (defScope st)) (hlen : ∀ xs S0 P, c xs S0 P → xs.length = ps.length)
    (hbody : ∀ (cdv : Value) (A : Around) (outer : List Env) (s : Shared) (H : Hp) (E : XK), Room k (A.deeper (envOfC qual (defScope st) s.heap.objs.size f cdv)) → A.guards = some [] →
      JB (cxOf CX0 P w K mg base N qual (defScope st) f cdv A outer s H E).nox (defBody st) wb)
    (hpl : ∀ xs S0 P, c xs S0 P → wb (xs.map some ++ List.replicate (N.length - xs.length) none) S0 ⟨fun _ S' => P .non S', P, fun _ _ => False, fun _ _ => False⟩) : FnG P w K mg base CX0 (k + 1) f fd ps (spC K c) := by
  obtain ⟨oc, od, kV, doc, pm, an, cdv, ct, osl, rfl, lk, hcd⟩ := F.ex
  refine ⟨fun vs H Q E ⟨ι, S0, xs, P, rs, rx, hp, _⟩ => by rw [← rx.length]; exact hlen xs S0 P hp, fun A outer s H args us vs Q E hr hg e0 hb r hsp => ?_⟩
  obtain ⟨ι, S0, xs, PP, rs, rx, hp, hP⟩ := hsp
  have hl : vs.length = ps.length := by rw [← rx.length]; exact hlen xs S0 PP hp
  have KX : K.In s.heap := e0.mod.kin.keeps fun b o e => (e0.bs b o e).1
  have lim : s.heap.NoLimit := e0.mod.nolimit.keeps fun b o e => (e0.bs b o e).1
  have kinds : ∀ y ∈ ps.zip us, (defScope st).names.lookup y.1 = some .local ∨ ((defScope st).names.lookup y.1 = some .cell ∧ ((cellsFrom (s.heap.objs.size + 1) (defScope st).names []).lookup y.1).isSome = true) := by
    rintro ⟨n, v⟩ hy
    exact (S.par n (List.of_mem_zip hy).1).imp id fun q => ⟨q, PySem.W.cellsFrom_some _ _ _ (.inl q)⟩
  refine codeAny_call_function hr.depth (KX _ _ lk) rfl S.co S.gen rfl (PySem.W.codeRec_of KX hcd) (hb _ _ _ _ ?_)
  refine wpAny_newFunctionEnv_cells S.kind kinds fun env he s1 xc => ?_
  subst he
  refine ⟨lim.keeps xc.toInCall.keep, codeAny_func ?_⟩
  have I : Inv (cxOf CX0 P w K mg base N qual (defScope st) f cdv A outer s H E) [] (L2.start N vs) H s1 := inv_start S hr.hd e0 hl r xc
  have jb := hbody cdv A outer s H E (hr.deeper _) hg
  have re : REnv K ι H (xs.map some ++ List.replicate (N.length - xs.length) none) (L2.start N vs) := by
    refine ⟨by unfold L2.start; simp only [List.length_append, List.length_map, List.length_replicate, rx.length], fun i y hy => ?_⟩
    unfold L2.start
    by_cases hi : i < xs.length
    · rw [List.getElem?_append_left (by rw [List.length_map]; exact hi), List.getElem?_map] at hy
      obtain ⟨z, hz, e⟩ := Option.map_eq_some_iff.mp hy
      cases e
      obtain ⟨v, h1, h2⟩ := rx.get hz
      exact ⟨v, by rw [List.getElem?_append_left (by rw [List.length_map, ← rx.length]; exact hi), List.getElem?_map, h1]; rfl, h2⟩
    · rw [List.getElem?_append_right (by rw [List.length_map]; omega)] at hy
      have := List.mem_of_getElem? hy
      rw [List.mem_replicate] at this
      cases this.2
  have go := jb.ps.run [] s1 (L2.start N vs) H ⟨fun _ H' => Q .non H', Q, fun _ _ => False, fun _ _ => False⟩ (I.wish _) ⟨ι, _, S0, _, re, rs, hpl xs S0 PP hp,
    ⟨fun env' S' h ι' H' σ' e r _ => hP _ _ h ι' H' _ e r .non, fun y S' h => hP y S' h, fun _ _ h => h.elim, fun _ _ h => h.elim⟩⟩
  refine wpAny_mono go (fun fl s' hs => ?_) fun e s' hs => False.elim hs
  have fin : ∀ {σ' : LSt} {H' : Hp} {v : V} {u : Value}, Inv (cxOf CX0 P w K mg base N qual (defScope st) f cdv A outer s H E).nox [] σ' H' s' → RelV v u → Q v H' → CE outer P w H s Q u s' :=
    fun {σ' H' v u} J rv q => ⟨v, H', J.unwish.os, J.unwish.bare, J.unwish.base, J.unwish.hok, rv, q⟩
  cases fl with
  | ret u => obtain ⟨v, σ', H', J, rv, q⟩ := hs; exact fin J rv q
  | next => obtain ⟨σ', H', J, q⟩ := hs; exact fin (v := V.non) (u := Value.none) J rfl q
  | brk => obtain ⟨_, _, _, q⟩ := hs; exact False.elim q
  | cont => obtain ⟨_, _, _, q⟩ := hs; exact False.elim q
end
end Lt
set_option Elab.async false
set_option linter.all false
set_option maxRecDepth 100000
/-! Lt7: the law's end. -/
namespace Lt
open PySem PySem.Spec PyProof.Rows L2

theorem guards_caller : callerA.guards = some [] := by first | rfl | decide
section
variable {P : Program} {w : World} {K : PySem.W.Frag} {mg mb : Str → Option Value} {k : Nat} {fa a : Addr} {fd : FuncData} {x : Str} {c : Con} {s1 : Shared} {vs : List Value} {ns : List Int}
theorem rvs_ints {ι : List Addr} {H : Hp} : ∀ ns : List Int, RVs K ι H (ns.map PV.int) (ns.map V.int)
  | [] => .nil
  | n :: r => .cons (.int n) (rvs_ints r)
/-- from an abstract heap that tracks the script alone (or nothing) -/
theorem law_from (H : Hp) (hO : ∀ b u, H b = some u → b = a ∧ ∃ o xs, u = .frz o (.lst xs)) (hro : RoL K H a (ns.map V.int)) (hok : HOk P w H s1.heap) (hK : H a ≠ none → K.lookup a = none)
    (KX : K.In s1.heap) (hns : s1.heap.Ns mainGlobals mg) (hb : s1.heap.Ns builtinsNs mb) (hbb : ∀ x : Str, x ≠ "__name__" → mb x = bootBuiltins x) (hlim : s1.heap.NoLimit) (hg : s1.gens = #[])
    (ha : s1.heap.get? a = some { cls := .type "list", data := .seq vs.toArray }) (hr : Room k callerA)
    (F : ∀ base : Heap, K.In base → base.Ns mainGlobals mg → FnG P w K mg base CX0 k fa fd [x] (spC K c)) (hbind : ∀ (s : Shared) (u : Value), BindsTo s fd ⟨[u], []⟩ [(x, u)])
    (hc : c [.ref 0] [.ro (ns.map .int)] fun y _ => y = .bl true) :
    codeAny (model P w) callerA (.call (.ref fa) ⟨[.ref a], []⟩) (fun r s' => r = .ok (.ret (.bool true)) ∧ OldK s1.heap s'.heap ∧ s'.os = s1.os ∧ AllBare s'.gens) s1 := by
  -- what is no list of ours stays where it stands
  have hidden : ∀ {b : Addr} {o : Obj}, s1.heap.get? b = some o → (b = a → H a = none) → (hidT s1.heap H).get? b = some o := fun {b o} e n => hidT_get e (by
    cases q : H b with
    | none => rfl
    | some u =>
      obtain ⟨z, _⟩ := hO b u q
      rw [z, n z] at q; cases q)
  have dicts : ∀ {b : Addr} {m : Str → Option Value}, s1.heap.Ns b m → (hidT s1.heap H).Ns b m := fun {b m} ⟨o, es, ep, e, d, r⟩ => ⟨o, es, ep, hidden e (fun z => by
    subst z
    rw [ha] at e; cases e
    have d' : Data.seq vs.toArray 0 = Data.dict es ep := d
    cases d'), d, r⟩
  have kin : K.In (hidT s1.heap H) := fun b o e => hidden (KX b o e) fun z => by
    subst z
    cases q : H b with
    | none => rfl
    | some u => rw [hK (by rw [q]; simp)] at e; cases e
  have M : Mod K mg (hidT s1.heap H) := ⟨kin, dicts hns, ⟨mb, dicts hb, hbb⟩, let ⟨mc, h1, h2⟩ := hlim; ⟨mc, dicts h1, h2⟩⟩
  have e0 : Env0 P w K mg (hidT s1.heap H) callerA [] s1 H :=
    { frames := rfl, mod := M, bs := fun b o e => of_hidT e, bsz := Nat.le_of_eq (hidT_size _ _), funs := trivial, frf := fun b hb => (by cases hb), hok := hok, bare := .of_eq hg }
  have rs : RS K [a] H [.ro (ns.map .int)] := by
    refine ⟨rfl, fun n d hd => ?_, fun n m d1 d2 b h1 h2 m1 => ?_⟩
    · cases n with
      | zero => cases hd; exact ⟨a, rfl, ns.map V.int, hro, rvs_ints ns⟩
      | succ n => cases hd
    · cases n with
      | zero => cases h1; cases m1
      | succ n => cases h1
  have sp : spC K c [.ref a] H (fun v _ => v = .bl true) (fun _ _ _ => False) := ⟨[a], _, [.ref 0], _, rs, .cons (.ref rfl) .nil, hc, fun y S' (hy : y = .bl true) ι' H' v _ _ r => by
    subst hy
    exact bl_of r⟩
  refine codeAny_mono ((F _ kin (dicts hns)).run callerA [] s1 H ⟨[.ref a], []⟩ [.ref a] [.ref a] _ _ hr guards_caller e0 (hbind s1 (.ref a)) (.cons rfl .nil) sp) fun r s' h => ?_
  rcases r with e | fl
  · exact False.elim h
  cases fl with
  | ret u =>
    obtain ⟨v, H', os, bare, un, hok', rv, q⟩ := h
    cases (show v = .bl true from q)
    cases (show u = Value.bool true from rv)
    refine ⟨rfl, OldK.of_keep fun b o e => ?_, os, bare⟩
    cases q : H b with
    | none => exact un.keep b o e q (fun z => by cases z) (fun z => by cases z)
    | some u =>
      obtain ⟨_, ob, xs, rfl⟩ := hO b u q
      have e1 : s1.heap.get? b = some ob := (hok b _ q).1
      have e2 : s'.heap.get? b = some ob := (hok' b _ (un.frzs b ob _ q)).1
      rw [e2, ← e1, e]
  | _ => exact False.elim h
theorem law_end (KX : K.In s1.heap) (hns : s1.heap.Ns mainGlobals mg) (hb : s1.heap.Ns builtinsNs mb) (hbb : ∀ x : Str, x ≠ "__name__" → mb x = bootBuiltins x) (hlim : s1.heap.NoLimit) (hg : s1.gens = #[])
    (ha : s1.heap.get? a = some { cls := .type "list", data := .seq vs.toArray }) (hi : IntsAre vs ns) (hl : ns.length ≤ sizeLine) (hr : Room k callerA)
    (F : ∀ base : Heap, K.In base → base.Ns mainGlobals mg → FnG P w K mg base CX0 k fa fd [x] (spC K c)) (hbind : ∀ (s : Shared) (u : Value), BindsTo s fd ⟨[u], []⟩ [(x, u)])
    (hc : c [.ref 0] [.ro (ns.map .int)] fun y _ => y = .bl true) :
    codeAny (model P w) callerA (.call (.ref fa) ⟨[.ref a], []⟩) (fun r s' => r = .ok (.ret (.bool true)) ∧ OldK s1.heap s'.heap ∧ s'.os = s1.os ∧ AllBare s'.gens) s1 := by
  have rv := L2.vals_ints hi
  have ln := hi.length
  cases hk : K.lookup a with
  | some o =>
    have e := KX a o hk
    rw [ha] at e
    cases e
    exact law_from (fun _ => none) (fun b u z => by cases z) (.inr ⟨_, vs.toArray, _, hk, rfl, rfl, rfl, by rw [List.size_toArray, ln]; exact hl, by simpa using rv⟩) (fun b u z => by cases z) (fun z => absurd rfl z) KX hns hb hbb hlim hg ha hr F hbind hc
  | none =>
    have at_ : ∀ {b : Addr} {u : HO}, (if b = a then some (HO.frz { cls := .type "list", data := .seq vs.toArray } (.lst (ns.map V.int))) else none) = some u → b = a ∧ u = .frz { cls := .type "list", data := .seq vs.toArray } (.lst (ns.map V.int)) := fun {b u} z => by
      split at z
      · rename_i hb; exact ⟨hb, (Option.some.inj z).symm⟩
      · cases z
    refine law_from (fun b => if b = a then some (.frz { cls := .type "list", data := .seq vs.toArray } (.lst (ns.map V.int))) else none) (fun b u z => ?_) (.inl ⟨_, if_pos rfl⟩) (fun b u z => ?_) (fun _ => hk) KX hns hb hbb hlim hg ha hr F hbind hc
    · obtain ⟨h1, h2⟩ := at_ z
      exact ⟨h1, _, _, h2⟩
    · obtain ⟨rfl, rfl⟩ := at_ z
      exact ⟨ha, by rw [List.length_map]; exact hl, vs, _, rv, ha⟩
end
/-- the goal that the head leaves -/
theorem walk_ltG {l : PySem.W.OpenLaw} {n k : Nat} {q : Program} {loose : List Str} {XP : (Str → Option Value) → Heap → Prop} {YP : World → Heap → Prop} {d : DefRec} {K : Params → PySem.W.Frag} {c : Con} {x : Str}
    (hn : l.most = some n) (hn2 : n ≤ sizeLine) (hdf : d.params.defaults = []) (hr : Room k callerA) (hY : ∀ (w : World) (h : Heap), YP w h → (K w.params).In h)
    (F : ∀ (w : World) (mg : Str → Option Value) (fa : Addr) (h : Heap), (K w.params).In h → h.Ns mainGlobals mg → mg d.name = some (.ref fa) →
      ∃ fd : FuncData, (∀ (s : Shared) (u : Value), BindsTo s fd ⟨[u], []⟩ [(x, u)]) ∧ ∀ base : Heap, (K w.params).In base → base.Ns mainGlobals mg → FnG l.prog w (K w.params) mg base CX0 k fa fd [x] (spC (K w.params) c))
    (hc : ∀ ns : List Int, ns.length ≤ n → c [.ref 0] [.ro (ns.map .int)] fun y _ => y = .bl true) :
    PySem.W.WalkO q loose XP YP l.row.toRowW d [] (fun f vs => PySem.call f vs) := by
  refine Att.attach_call hn hdf fun w s₀ s₁ mg mb fa o pm cd doc a vs ns G Y ho hd hcd hmg hobj hints hlen hg => ?_
  obtain ⟨fd, hb, hF⟩ := F w mg fa _ (hY w _ Y) G.T.g hmg
  exact law_end (hY w _ Y) G.T.g G.T.b G.T.builtins G.T.nolimit hg hobj hints (Nat.le_trans hlen hn2) hr hF hb (hc ns hlen)
end Lt
set_option Elab.async false
set_option linter.all false
set_option maxRecDepth 100000
/-! Lt8: what the generated texts lean on; loops by invariants; promises with ghosts. -/
namespace Lt
open PySem PySem.Spec PyProof.Rows L2

theorem bt_len : bootBuiltins "len" = some (.builtin "len") := by decide +kernel
theorem bt_abs : bootBuiltins "abs" = some (.builtin "abs") := by decide +kernel
theorem bt_min : bootBuiltins "min" = some (.builtin "min") := by decide +kernel
theorem bt_max : bootBuiltins "max" = some (.builtin "max") := by decide +kernel
theorem bt_repr : bootBuiltins "repr" = some (.builtin "repr") := by decide +kernel
theorem bt_isinstance : bootBuiltins "isinstance" = some (.builtin "isinstance") := by decide +kernel
theorem bt_int : bootBuiltins "int" = some (.type "int") := by decide +kernel
theorem bt_str : bootBuiltins "str" = some (.type "str") := by decide +kernel
theorem bt_bool : bootBuiltins "bool" = some (.type "bool") := by decide +kernel
theorem bt_list : bootBuiltins "list" = some (.type "list") := by decide +kernel
theorem bt_tuple : bootBuiltins "tuple" = some (.type "tuple") := by decide +kernel

/-- x is None -/
def isNon : PV → Bool
  | .non => true
  | _ => false
def fIs : F2 := fun x y S => match y with
  | .non => some (.bl (isNon x), S)
  | _ => none
def fIsNot : F2 := fun x y S => match y with
  | .non => some (.bl (!isNon x), S)
  | _ => none
theorem non_dec {K : PySem.W.Frag} {ι : List Addr} {H : Hp} {x : PV} {v : V} (r : RV K ι H x v) : decide (v = .non) = isNon x := by cases r <;> rfl
theorem op_fIs {X : Cx} : OpR X (compareOp .Is) (rOp X.K fIs) := by
  intro pins s σ H u v uu vv Q I ru rv ⟨ι, S, x, y, P, rs, rx, ry, hf, hP⟩
  unfold fIs at hf
  split at hf
  · cases non_of ry
    exact op_isN pins s σ H _ _ _ _ Q I ru rv ⟨rfl, hP _ _ hf ι H _ .refl rs (by rw [non_dec rx]; exact .bl _)⟩
  · exact hf.elim
theorem op_fIsNot {X : Cx} : OpR X (compareOp .IsNot) (rOp X.K fIsNot) := by
  intro pins s σ H u v uu vv Q I ru rv ⟨ι, S, x, y, P, rs, rx, ry, hf, hP⟩
  unfold fIsNot at hf
  split at hf
  · cases non_of ry
    refine op_notN pins s σ H _ _ _ _ Q I ru rv ⟨rfl, hP _ _ hf ι H _ .refl rs ?_⟩
    rw [non_dec rx]
    exact .bl _
  · exact hf.elim

/-- the function that a def's text makes -/
def IsFn (x : Str) (st : Stmt) (fd : FuncData) : Prop := ∃ (kV doc pm : Value) (an : Option Addr) (cdv ct : Value), fd = PySem.W.fnOf x x (defArgs st) (defBody st) (defScope st) .none kV doc pm an cdv ct
/-- a def of the text with its promise, for callers -/
structure Callee (P : Program) (w : World) (K : PySem.W.Frag) (mg : Str → Option Value) (base : Heap) (x : Str) (ps : List Str) (st : Stmt) (k : Nat) (c : Con) : Prop where
  ex : ∃ f fd, FnG P w K mg base CX0 k f fd ps (spC K c) ∧ mg x = some (.ref f) ∧ PySem.W.keepIn K (.ref f) = true ∧ Binds K fd ps [] ∧ IsFn x st fd
/-- a def of the text as it stands -/
structure Def (K : PySem.W.Frag) (mg : Str → Option Value) (x : Str) (ps : List Str) (st : Stmt) : Prop where
  ex : ∃ f fd, Fun K x x st f fd ∧ mg x = some (.ref f) ∧ (∀ (s : Shared) (us : List Value), us.length = ps.length → BindsTo s fd ⟨us, []⟩ (ps.zip us)) ∧ IsFn x st fd
section
variable {P : Program} {w : World} {K : PySem.W.Frag} {mg : Str → Option Value} {base : Heap} {x : Str} {ps N : List Str} {k : Nat} {c : Con} {st : Stmt} {wb : WS}
theorem Callee.mono {j : Nat} (C : Callee P w K mg base x ps st j c) (h : j ≤ k) : Callee P w K mg base x ps st k c := by
  obtain ⟨f, fd, F, r⟩ := C.ex
  exact ⟨f, fd, F.mono h, r⟩
theorem callee_of (D : Def K mg x ps st) (S : FnScope N ps (defScope st)) (hlen : ∀ xs S0 P, c xs S0 P → xs.length = ps.length)
    (hbody : ∀ (f : Addr) (cdv : Value) (A : Around) (outer : List Env) (s : Shared) (H : Hp) (E : XK), Room k (A.deeper (envOfC x (defScope st) s.heap.objs.size f cdv)) → A.guards = some [] →
      JB (cxOf CX0 P w K mg base N x (defScope st) f cdv A outer s H E).nox (defBody st) wb)
    (hpl : ∀ xs S0 P, c xs S0 P → wb (xs.map some ++ List.replicate (N.length - xs.length) none) S0 ⟨fun _ S' => P .non S', P, fun _ _ => False, fun _ _ => False⟩) : Callee P w K mg base x ps st (k + 1) c := by
  obtain ⟨f, fd, F, hm, hb, hi⟩ := D.ex
  exact ⟨f, fd, def_ok F S hlen (hbody f) hpl, hm, F.kp, fun s us _ hl => by rw [List.append_nil] at hl ⊢; exact hb s us hl, hi⟩
end
theorem re_callee {X : Cx} {x : Str} {ps : List Str} {st : Stmt} {k : Nat} {c : Con} {p pos : Pos} {e : Expr} {es : List Expr} {w : WA} (C : Callee X.prog X.w X.K X.mg X.base x ps st k c) (hr : Room k X.A) (hgd : X.A.guards = some []) (ha : RA X (e :: es) w)
    (hx : Passes CX0 X E0) (hg : Gl X x := by rfl) (hdb : (x == ("__debug__" : Str)) = false := by decide) (he : starEach (e :: es) X.env = (false, eval e X.env) :: starEach es X.env := by rfl) (hpl : (backTo pos (starEach es X.env)).any (·.1) = false := by rfl) :
    RE X (.Call (.Name x p) (e :: es) [] pos) (wF c w) := by
  obtain ⟨f, fd, F, hm, hk, hb, _⟩ := C.ex
  exact re_call F hr hgd hg hm hk hb hx ha hdb he hpl

/-! ### keywords -/
structure RK (X : Cx) (kws : List Keyword) (w : WA) : Prop where
  pk : PK X kws (tWA X.K w)
theorem PK.weak {X : Cx} {kws : List Keyword} {t t' : TA} (h : PK X kws t) (i : ∀ σ H Q, t' σ H Q → t σ H Q) : PK X kws t' := ⟨fun pos pins s σ H Q I q => h.run pos pins s σ H Q I (i σ H Q q)⟩
theorem rk_nil {X : Cx} : RK X [] wNil := ⟨PK.weak pk_nil fun σ H Q ⟨ι, env, S, P, re, rs, hw, hP⟩ => hP [] S hw ι H [] .refl rs .nil⟩
theorem rk_cons {X : Cx} {nm : Option Str} {e : Expr} {kpos : Pos} {kws : List Keyword} {w : W} {r : WA} (h : RE X e w) (hr : RK X kws r) : RK X (⟨nm, e, kpos⟩ :: kws) (wCons w r) := by
  refine ⟨PK.weak (pk_cons h.pe hr.pk) fun σ H Q ⟨ι, env, S, P, re, rs, hw, hP⟩ => ?_⟩
  refine ⟨ι, env, S, _, re, rs, hw, fun x S1 hk ι1 H1 v e1 rs1 rx => ⟨ι1, env, S1, _, re.mono e1, rs1, hk, fun xs S2 hx ι2 H2 vs e2 rs2 rxs => ?_⟩⟩
  exact hP _ _ hx ι2 H2 _ (e1.trans e2) rs2 (.cons (rx.mono e2) rxs)
/-- values in another order -/
def perm {α : Type} (d : α) (is : List Nat) (xs : List α) : List α := is.map fun i => xs.getD i d
theorem perm_rvs {K : PySem.W.Frag} {ι : List Addr} {H : Hp} {xs : List PV} {vs : List V} (r : RVs K ι H xs vs) : ∀ is : List Nat, RVs K ι H (perm .non is xs) (perm .non is vs)
  | [] => .nil
  | i :: is => by
    refine .cons ?_ (perm_rvs r is)
    show RV K ι H (xs.getD i .non) (vs.getD i .non)
    rw [List.getD_eq_getElem?_getD, List.getD_eq_getElem?_getD]
    cases h : xs[i]? with
    | none =>
      have : vs[i]? = none := by rw [List.getElem?_eq_none_iff, ← r.length]; exact List.getElem?_eq_none_iff.mp h
      rw [this]
      exact .non
    | some x =>
      obtain ⟨v, h1, h2⟩ := r.get h
      rw [h1]
      exact h2
theorem perm_vals {vs : List V} {us : List Value} (r : Vals vs us) : ∀ is : List Nat, Vals (perm .non is vs) (perm .none is us)
  | [] => .nil
  | i :: is => by
    refine .cons ?_ (perm_vals r is)
    show RelV (vs.getD i .non) (us.getD i .none)
    rw [List.getD_eq_getElem?_getD, List.getD_eq_getElem?_getD]
    have key : ∀ {vs : List V} {us : List Value}, Vals vs us → ∀ i : Nat, RelV (vs[i]?.getD .non) (us[i]?.getD .none) := by
      intro vs us r
      induction r with
      | nil => intro i; exact rfl
      | cons h _ ih =>
        intro i
        cases i with
        | zero => exact h
        | succ i => exact ih i
    exact key r i
/-- how the text's def takes these keywords -/
def KwB (x : Str) (ps : List Str) (st : Stmt) (ks : List Str) (is : List Nat) : Prop := ∀ (kV doc pm : Value) (an : Option Addr) (cdv ct : Value) (ws : List Value), ws.length = ks.length →
  bindArgs (PySem.W.fnOf x x (defArgs st) (defBody st) (defScope st) .none kV doc pm an cdv ct) ⟨[], ks.zip ws⟩ = pure (ps.zip (perm .none is ws))
def wFK (c : Con) (n : Nat) (is : List Nat) (w : WA) : W := fun env S P => w env S fun xs S1 => xs.length = n ∧ c (perm .non is xs) S1 P
theorem re_calleeK {X : Cx} {x : Str} {ps ks : List Str} {is : List Nat} {st : Stmt} {k : Nat} {c : Con} {p pos : Pos} {kws : List Keyword} {w : WA} (C : Callee X.prog X.w X.K X.mg X.base x ps st k c) (hr : Room k X.A) (hgd : X.A.guards = some []) (hkw : RK X kws w) (kb : KwB x ps st ks is)
    (hx : Passes CX0 X E0) (hg : Gl X x := by rfl) (hdb : (x == ("__debug__" : Str)) = false := by decide)
    (hall : (backToKw pos (keywordEach kws X.env)).all (·.1.isSome) = true := by rfl) (hks : (backToKw pos (keywordEach kws X.env)).filterMap (·.1) = ks := by rfl)
    (hpl : ((backTo pos (starEach [] X.env)).any (·.1) || (backToKw pos (keywordEach kws X.env)).any (·.1.isNone)) = false := by rfl) :
    RE X (.Call (.Name x p) [] kws pos) (wFK c ks.length is w) := by
  obtain ⟨f, fd, F, hm, hk, _, kV, doc, pm, an, cdv, ct, rfl⟩ := C.ex
  refine ⟨⟨fun pins s σ H Q I ⟨ι, env, S, P, re, rs, hw, hP⟩ => ?_⟩⟩
  refine wpAny_Call_Name_kw (ld_glob I hg hm ?_ hdb)
  refine PySem.W.callWith_KW0 (h₀ := X.base) I.ok.mod.kin hk hall (thn (hkw.pk.run pos pins s σ H (fun vs H1 => vs.length = ks.length ∧ spC X.K c (perm .non is vs) H1 Q E0) I ⟨ι, env, S, _, re, rs, hw, fun xs S1 hx ι1 H1 vs e1 rs1 rx => ⟨by rw [← rx.length]; exact hx.1, spC_of e1 rs1 (perm_rvs rx is) hP hx.2⟩⟩) fun ws s1 ⟨vs, H1, I1, r, q1, q⟩ => ⟨I1.kIn, ?_⟩) hpl
  rw [hks]
  exact run_con (args := ⟨[], ks.zip ws⟩) F hr hgd hx I1 (.of_eq (kb kV doc pm an cdv ct ws (by rw [← r.length]; exact q1))) (perm_vals r is) q

theorem def_mk {K : PySem.W.Frag} {mg : Str → Option Value} {h : Heap} {x : Str} {ps : List Str} {st : Stmt} {f : Addr} {oc : Value} {od an : Option Addr} {osl : Array (Option Value)} {kV doc pm cdv ct : Value} (X : K.In h) (G : h.Ns mainGlobals mg)
    (a : PySem.W.nsIn K mainGlobals x = some (some (.ref f))) (l : K.lookup f = some ⟨oc, od, .func (PySem.W.fnOf x x (defArgs st) (defBody st) (defScope st) .none kV doc pm an cdv ct), osl⟩)
    (c : PySem.W.codeIn K cdv x = true) (k : PySem.W.keepIn K (.ref f) = true)
    (hb : ∀ (kV doc pm : Value) (an : Option Addr) (cdv ct : Value) (us : List Value), us.length = ps.length → bindArgs (PySem.W.fnOf x x (defArgs st) (defBody st) (defScope st) .none kV doc pm an cdv ct) ⟨us, []⟩ = pure (ps.zip us)) : Def K mg x ps st :=
  ⟨f, _, fun_mk l c k, PySem.W.mg_of X G a, fun _ us hl => .of_eq (hb _ _ _ _ _ _ us hl), _, _, _, _, _, _, rfl⟩
/-- the law's own def, ready for the end -/
theorem law_of {P : Program} {w : World} {K : PySem.W.Frag} {mg : Str → Option Value} {x : Str} {ps N : List Str} {k : Nat} {c : Con} {st : Stmt} {wb : WS} {fa : Addr} {y : Str} (D : Def K mg x ps st) (hp : ps = [y]) (hfa : mg x = some (.ref fa)) (S : FnScope N ps (defScope st)) (hlen : ∀ xs S0 P, c xs S0 P → xs.length = ps.length)
    (hbody : ∀ base : Heap, K.In base → base.Ns mainGlobals mg → ∀ (f : Addr) (cdv : Value) (A : Around) (outer : List Env) (s : Shared) (H : Hp) (E : XK), Room k (A.deeper (envOfC x (defScope st) s.heap.objs.size f cdv)) → A.guards = some [] →
      JB (cxOf CX0 P w K mg base N x (defScope st) f cdv A outer s H E).nox (defBody st) wb)
    (hpl : ∀ xs S0 P, c xs S0 P → wb (xs.map some ++ List.replicate (N.length - xs.length) none) S0 ⟨fun _ S' => P .non S', P, fun _ _ => False, fun _ _ => False⟩) :
    ∃ fd : FuncData, (∀ (s : Shared) (u : Value), BindsTo s fd ⟨[u], []⟩ [(y, u)]) ∧ ∀ base : Heap, K.In base → base.Ns mainGlobals mg → FnG P w K mg base CX0 (k + 1) fa fd [y] (spC K c) := by
  subst hp
  obtain ⟨f, fd, F, hm, hb, _⟩ := D.ex
  rw [hfa] at hm
  cases hm
  exact ⟨fd, fun s u => hb s [u] rfl, fun base h1 h2 => def_ok F S hlen (hbody base h1 h2 fa) hpl⟩

/-! ### promises with ghosts -/
def conG {G : Type} (pre : G → List PV → Store → Prop) (post : G → List PV → Store → PV → Store → Prop) : Con := fun xs S P => ∃ g, pre g xs S ∧ ∀ x S', post g xs S x S' → P x S'
theorem con_g {G : Type} {pre : G → List PV → Store → Prop} {post : G → List PV → Store → PV → Store → Prop} {xs : List PV} {S : Store} {P : PQ} (g : G) (h : pre g xs S) (k : ∀ x S', post g xs S x S' → P x S') : conG pre post xs S P := ⟨g, h, k⟩

/-! ### loops by an invariant -/
theorem loop_inv {g : PIt} {tg : WG} {body : WS} {D : PEnds} {n : Nat} (I : Nat → PEnv → Store → Prop)
    (turn : ∀ i env S, i < n → I i env S → ∃ x env1, g i S = some (some x) ∧ tg x env = some env1 ∧ ∀ D' : PEnds, (∀ env' S', I (i + 1) env' S' → D'.nx env' S') → (∀ env' S', I (i + 1) env' S' → D'.ct env' S') → D'.rt = D.rt → D'.bk = D.nx → body env1 S D')
    (stop : ∀ env S, I n env S → g n S = some none ∧ D.nx env S) {env : PEnv} {S : Store} (h0 : I 0 env S) : ∃ m, wLoop g tg body D m 0 env S := by
  have key : ∀ k i env S, i + k = n → I i env S → wLoop g tg body D (k + 1) i env S := by
    intro k
    induction k with
    | zero =>
      intro i env S e h
      obtain rfl : i = n := e
      obtain ⟨h1, h2⟩ := stop env S h
      unfold wLoop
      rw [h1]
      exact h2
    | succ k ih =>
      intro i env S e h
      obtain ⟨x, env1, h1, h2, h3⟩ := turn i env S (by omega) h
      unfold wLoop
      rw [h1]
      simp only [h2]
      exact h3 _ (fun env' S' q => ih (i + 1) env' S' (by omega) q) (fun env' S' q => ih (i + 1) env' S' (by omega) q) rfl rfl
  exact ⟨n + 1, key n 0 env S (by omega) h0⟩
theorem lc_inv {g : PIt} {tg : WG} {tt : WT} {te : W} {own : List Nat} {env0 : PEnv} {d n : Nat} {P : PQ} (I : Nat → Store → Prop)
    (turn : ∀ i S, i < n → I i S → ∃ x env1, g i S = some (some x) ∧ tg x (wipeP env0 own) = some env1 ∧ ∀ (Qt : Bool → Store → Prop) (Qe : PQ),
      (∀ y S2 acc, S2[d]? = some (.lst acc) → acc.length < sizeLine → I (i + 1) (S2.set d (.lst (acc ++ [y]))) → Qe y S2) → (∀ S1, I (i + 1) S1 → Qt false S1) → (∀ S1, te env1 S1 Qe → Qt true S1) → tt env1 S Qt)
    (stop : ∀ S, I n S → g n S = some none ∧ P (.ref d) S) {S : Store} (h0 : I 0 S) : ∃ m, wLcL g tg tt te own env0 d P m 0 S := by
  have key : ∀ k i S, i + k = n → I i S → wLcL g tg tt te own env0 d P (k + 1) i S := by
    intro k
    induction k with
    | zero =>
      intro i S e h
      obtain rfl : i = n := e
      obtain ⟨h1, h2⟩ := stop S h
      unfold wLcL
      rw [h1]
      exact h2
    | succ k ih =>
      intro i S e h
      obtain ⟨x, env1, h1, h2, h3⟩ := turn i S (by omega) h
      unfold wLcL
      rw [h1]
      simp only [h2]
      refine h3 _ _ (fun y S2 acc a1 a2 a3 => ?_) (fun S1 q => ih (i + 1) S1 (by omega) q) (fun S1 q => q)
      rw [a1]
      exact ⟨a2, ih (i + 1) _ (by omega) a3⟩
  exact ⟨n + 1, key n 0 S (by omega) h0⟩
end Lt
set_option Elab.async false
set_option linter.all false
set_option maxRecDepth 100000
/-! Lt9: reckoning with plain terms. -/
namespace Lt
open PySem PySem.Spec PyProof.Rows L2

theorem gMul_l {i j : Int} (h1 : -(2 ^ 64) < i) (h2 : i < 2 ^ 64) : gMul i j = some (.int (i * j)) := if_pos (.inl ⟨h1, h2⟩)
theorem gMul_r {i j : Int} (h1 : -(2 ^ 64) < j) (h2 : j < 2 ^ 64) : gMul i j = some (.int (i * j)) := if_pos (.inr ⟨h1, h2⟩)
theorem gDiv_ok {i j : Int} (h1 : 0 < j) (h2 : j < 1073741824) : gDiv i j = some (.int (i / j)) := if_pos ⟨h1, h2⟩
theorem gMod_ok {i j : Int} (h1 : 0 < j) : gMod i j = some (.int (i % j)) := if_pos h1
theorem cut_ok {n : Nat} {r : PV × Store} (h : n ≤ 16777216) : cut n r = some r := if_pos (by rw [sizeLine_eq]; exact h)
theorem sl_le {n : Nat} (h : n ≤ 16777216) : n ≤ sizeLine := by rw [sizeLine_eq]; exact h
theorem sl_lt {n : Nat} (h : n < 16777216) : n < sizeLine := by rw [sizeLine_eq]; exact h
theorem gPow_1018 : gPow 10 18 = some (.int 1000000000000000000) := rfl

theorem fAdd_ii (i j : Int) (S : Store) : fAdd (.int i) (.int j) S = some (.int (i + j), S) := rfl
theorem fAdd_tt {xs ys : List PV} {S : Store} (h : xs.length + ys.length ≤ 16777216) : fAdd (.tup xs) (.tup ys) S = some (.tup (xs ++ ys), S) := cut_ok h
theorem fAdd_ll {n m : Nat} {xs ys : List PV} {S : Store} (h1 : S[n]? = some (.lst xs)) (h2 : S[m]? = some (.lst ys)) (h : xs.length + ys.length ≤ 16777216) : fAdd (.ref n) (.ref m) S = some (.ref S.length, S ++ [.lst (xs ++ ys)]) := by
  show (match S[n]?, S[m]? with
    | some (Cell.lst xs), some (Cell.lst ys) => cut (xs.length + ys.length) (PV.ref S.length, S ++ [Cell.lst (xs ++ ys)])
    | _, _ => none) = _
  rw [h1, h2]
  exact cut_ok h
theorem fI_ii (g : Int → Int → Option PV) (i j : Int) (S : Store) : fI g (.int i) (.int j) S = (g i j).map fun v => (v, S) := rfl
theorem opt_some (r : PV × Store) (Q : PQ) : opt (some r) Q = Q r.1 r.2 := rfl
theorem fGet_ok {n : Nat} {y : PV} {k : Key} {kvs : List (Key × PV)} {v : PV} {S : Store} (hk : keyOf y = some k) (h : S[n]? = some (.dic kvs)) (hv : lookK k kvs = some v) : fGet (.ref n) y S = some (v, S) := by
  unfold fGet
  simp only [hk, h, hv, Option.map_some]
theorem fIx_t {xs : List PV} {j : Nat} {x : PV} {S : Store} (h : xs[j]? = some x) : fIx (.tup xs) (.int j) S = some (x, S) := by
  show (atI xs (j : Int)).map _ = _
  rw [atI_nat h]; rfl
theorem fIx_l {n : Nat} {c : Cell} {xs : List PV} {j : Nat} {x : PV} {S : Store} (hc : S[n]? = some c) (hx : c.items = some xs) (h : xs[j]? = some x) : fIx (.ref n) (.int j) S = some (x, S) := by
  unfold fIx
  simp only [hc, hx]
  rw [atI_nat h]; rfl
theorem seqOf_l {n : Nat} {c : Cell} {xs : List PV} {S : Store} (hc : S[n]? = some c) (hx : c.items = some xs) : seqOf (.ref n) S = some xs := by
  unfold seqOf
  simp only [hc, hx]
theorem bLen_l {n : Nat} {c : Cell} {xs : List PV} {S : Store} (hc : S[n]? = some c) (hx : c.items = some xs) : bLen [.ref n] S = some (.int xs.length, S) := by
  show (seqOf (.ref n) S).map _ = _
  rw [seqOf_l hc hx]; rfl
theorem bLen_t {xs : List PV} {S : Store} : bLen [.tup xs] S = some (.int xs.length, S) := rfl
/-- [..] * k -/
def fRep : F2
  | .ref n, .int k, S => match S[n]? with
    | some (.lst xs) => if (-(2 ^ 63) ≤ k ∧ k < 2 ^ 63) ∧ xs.length * k.toNat ≤ sizeLine then some (.ref S.length, S ++ [.lst (List.replicate k.toNat xs).flatten]) else none
    | _ => none
  | _, _, _ => none
theorem op_fRep {X : Cx} : OpR X (binaryOp .Mult) (rOp X.K fRep) := by
  intro pins s σ H u v uu vv Q I ru rv ⟨ι, S, x, y, P, rs, rx, ry, hf, hP⟩
  unfold fRep at hf
  split at hf
  · obtain ⟨a, rfl, ha⟩ := ref_of rx
    cases int_of ry
    split at hf
    · rename_i hm
      obtain ⟨us, hu, q⟩ := at_lst rs hm ha
      obtain ⟨⟨⟨c1, c2⟩, c3⟩, h⟩ := opt_ite hf
      refine L2.op_rep pins s σ H _ _ _ _ Q I ru rv ⟨a, _, us, rfl, rfl, hu, c1, c2, by rw [← q.length]; exact c3, fun p hp => ?_⟩
      exact new_lst rs (q.rep _) hP h p hp
    · exact hf.elim
  · exact hf.elim
/-! stores -/
/-- all but the cells of M stands as it stood -/
structure Kp (M : List Nat) (S S' : Store) : Prop where
  le : S.length ≤ S'.length
  at_ : ∀ n c, n ∉ M → S[n]? = some c → S'[n]? = some c
theorem Kp.refl {M : List Nat} {S : Store} : Kp M S S := ⟨Nat.le_refl _, fun _ _ _ h => h⟩
theorem Kp.trans {M : List Nat} {S S1 S2 : Store} (a : Kp M S S1) (b : Kp M S1 S2) : Kp M S S2 := ⟨Nat.le_trans a.le b.le, fun n c h e => b.at_ n c h (a.at_ n c h e)⟩
theorem Kp.sub {M M' : List Nat} {S S' : Store} (a : Kp M S S') (h : ∀ n ∈ M, n ∈ M') : Kp M' S S' := ⟨a.le, fun n c hn e => a.at_ n c (fun z => hn (h n z)) e⟩
theorem Kp.push {M : List Nat} {S : Store} {c : Cell} : Kp M S (S ++ [c]) := ⟨by simp, fun n d _ e => by rw [List.getElem?_append_left (List.getElem?_eq_some_iff.mp e).1]; exact e⟩
theorem Kp.set {M : List Nat} {S : Store} {n : Nat} {c : Cell} (h : n ∈ M) : Kp M S (S.set n c) := ⟨by simp, fun m d hm e => by rw [List.getElem?_set_ne (fun (z : n = m) => hm (by subst z; exact h))]; exact e⟩
/-- a cell that was made since may change -/
theorem Kp.set_new {M : List Nat} {S S' : Store} {n : Nat} {c : Cell} (a : Kp M S S') (h : S.length ≤ n) : Kp M S (S'.set n c) :=
  ⟨by simpa using a.le, fun m d hm e => by rw [List.getElem?_set_ne (fun z => by have := (List.getElem?_eq_some_iff.mp e).1; omega)]; exact a.at_ m d hm e⟩
theorem at_new (S : Store) (c : Cell) : (S ++ [c])[S.length]? = some c := by simp
theorem at_old {S : Store} {c d : Cell} {n : Nat} (h : S[n]? = some d) : (S ++ [c])[n]? = some d := by
  rw [List.getElem?_append_left (List.getElem?_eq_some_iff.mp h).1]; exact h
theorem at_set {S : Store} {c d : Cell} {n : Nat} (h : S[n]? = some d) : (S.set n c)[n]? = some c := List.getElem?_set_self (List.getElem?_eq_some_iff.mp h).1
theorem at_set_ne {S : Store} {c d : Cell} {n m : Nat} (hn : m ≠ n) (h : S[n]? = some d) : (S.set m c)[n]? = some d := by rw [List.getElem?_set_ne hn]; exact h
theorem lt_of_at {S : Store} {c : Cell} {n : Nat} (h : S[n]? = some c) : n < S.length := (List.getElem?_eq_some_iff.mp h).1

/-! ### data -/
theorem toD_ints (n : Nat) (S : Store) : ∀ ns : List Int, optAll (toD (n + 1) S) (ns.map PV.int) = some (ns.map PyData.int)
  | [] => rfl
  | i :: r => by
    simp only [List.map_cons]
    unfold optAll
    rw [toD_ints n S r]
    rfl
theorem lay_ints : ∀ ns : List Int, PyData.canLayAll0 (ns.map PyData.int) = true
  | [] => by simp [PyData.canLayAll0]
  | n :: r => by simp [PyData.canLayAll0, PyData.canLay0, lay_ints r]
theorem depth_ints : ∀ ns : List Int, PyData.depthAll (ns.map PyData.int) = 0
  | [] => by simp [PyData.depthAll]
  | n :: r => by simp [PyData.depthAll, PyData.depth, depth_ints r]
theorem shaped_ints (ns : List Int) : SeqAt.shaped (.list (ns.map PyData.int)) = true := by
  show (PyData.canLay0 _ && decide (PyData.depth _ ≤ 64)) = true
  simp [PyData.canLay0, PyData.depth, lay_ints, depth_ints]
theorem eqv_list_nil (ds : List PyData) : PyData.eqv (.list ds) (.list []) = ds.isEmpty := by
  cases ds <;> simp [PyData.eqv, PyData.eqvAll]
/-- a list of ints against [] -/
theorem fNe_ints_nil {n m : Nat} {ns : List Int} {S : Store} (h1 : S[n]? = some (.lst (ns.map .int))) (h2 : S[m]? = some (.lst [])) : fNe (.ref n) (.ref m) S = some (.bl (!ns.isEmpty), S) := by
  have d1 : toD 66 S (.ref n) = some (.list (ns.map .int)) := by
    unfold toD
    simp only [h1]
    rw [toD_ints 64 S ns]; rfl
  have d2 : toD 66 S (.ref m) = some (.list []) := by
    unfold toD
    simp only [h2]
    rfl
  have s2 : SeqAt.shaped (.list []) = true := shaped_ints []
  show (eqP (.ref n) (.ref m) S).map _ = _
  have e : eqP (.ref n) (.ref m) S = some ns.isEmpty := by
    unfold eqP
    simp only [d1, d2]
    rw [if_pos ⟨shaped_ints ns, s2⟩, eqv_list_nil]
    cases ns <;> rfl
  rw [e]; rfl
end Lt
set_option Elab.async false
set_option linter.all false
set_option maxRecDepth 100000
/-! Lt10: data for repr and for ==. -/
namespace Lt
open PySem PySem.Spec PyProof.Rows L2
/-- plain data that may be shown: depth and length -/
structure Okd (k L : Nat) (d : PyData) : Prop where
  nd : d.hasDict = false
  sh : d.showable = true
  dp : d.depth ≤ k
  ln : d.shown.length ≤ L
  cl : d.canLay0 = true
theorem Okd.mono {k L k' L' : Nat} {d : PyData} (h : Okd k L d) (h1 : k ≤ k') (h2 : L ≤ L') : Okd k' L' d := ⟨h.nd, h.sh, Nat.le_trans h.dp h1, Nat.le_trans h.ln h2, h.cl⟩
theorem Okd.int {v : Nat} (h : v < 1000) : Okd 0 (v + 2) (.int v) := by
  refine ⟨by simp [PyData.hasDict], ?_, by simp [PyData.depth], ?_, by simp [PyData.canLay0]⟩
  · show decide ((v : Int).natAbs.log2 < 1920) = true
    rw [decide_eq_true_eq, Int.natAbs_natCast]
    exact Nat.lt_of_le_of_lt (Nat.log2_le_self v) (by omega)
  · have := len_str_of_int (v : Int)
    show (Str.ofString (toString (v : Int))).length ≤ v + 2
    rw [Int.natAbs_natCast] at this
    omega
theorem piled_bd {L : Nat} : ∀ {ts : List Str}, (∀ t ∈ ts, t.length ≤ L) → piled ts ≤ ts.length * (L + 2)
  | [], _ => by simp [piled]
  | t :: ts, h => by
    have h1 := h t (by simp)
    have h2 := piled_bd (ts := ts) fun x hx => h x (List.mem_cons_of_mem _ hx)
    rw [piled_cons, List.length_cons, Nat.succ_mul]
    omega
theorem tupleText_bd {L : Nat} {ts : List Str} (h : ∀ t ∈ ts, t.length ≤ L) : (tupleText ts).length ≤ ts.length * (L + 2) + 3 := by
  have hp := piled_bd h
  have hj : (Str.join ", " ts).length ≤ piled ts := by
    by_cases e : ts = []
    · subst e; exact Nat.zero_le _
    · have := join_length_add ts e; omega
  have e1 : ((("(" : String) : Str)).length = 1 := rfl
  have e3 : (((if ts.length == 1 then ",)" else ")" : String) : Str)).length ≤ 2 := by split <;> decide
  unfold tupleText
  rw [strLen_append, strLen_append, e1]
  omega
theorem listText_bd {L : Nat} {ts : List Str} (h : ∀ t ∈ ts, t.length ≤ L) : (listText ts).length ≤ ts.length * (L + 2) + 3 := by
  have hp := piled_bd h
  unfold listText
  have e1 : ((("]" : String) : Str)).length = 1 := rfl
  rw [strLen_append, e1]
  have ht : (textFrom 0 "[" ts).length ≤ 1 + piled ts := by
    cases ts with
    | nil => exact Nat.le_refl 1
    | cons t r =>
      show (textFrom 1 (("[" : Str) ++ ("" : String) ++ t) r).length ≤ _
      rw [textFrom_length_pos r 1 _ (by decide), strLen_append, strLen_append, piled_cons]
      have : (("[" : Str)).length = 1 := rfl
      have : ((("" : String) : Str)).length = 0 := rfl
      omega
  omega
theorem mem_shownAll {L : Nat} : ∀ {ds : List PyData}, (∀ d ∈ ds, d.shown.length ≤ L) → ∀ t ∈ PyData.shownAll ds, t.length ≤ L
  | [], _ => fun t h => by simp [PyData.shownAll] at h
  | d :: r, h => fun t ht => by
    simp only [PyData.shownAll, List.mem_cons] at ht
    rcases ht with rfl | ht
    · exact h d (by simp)
    · exact mem_shownAll (fun x hx => h x (List.mem_cons_of_mem _ hx)) t ht
theorem shownAll_len : ∀ ds : List PyData, (PyData.shownAll ds).length = ds.length
  | [] => by simp [PyData.shownAll]
  | d :: r => by simp [PyData.shownAll, shownAll_len r]
theorem okd_all {k L : Nat} : ∀ {ds : List PyData}, (∀ d ∈ ds, Okd k L d) → PyData.hasDictAll ds = false ∧ PyData.showableAll ds = true ∧ PyData.depthAll ds ≤ k ∧ PyData.canLayAll0 ds = true
  | [], _ => by simp [PyData.hasDictAll, PyData.showableAll, PyData.depthAll, PyData.canLayAll0]
  | d :: r, h => by
    have h1 := h d (by simp)
    obtain ⟨a, b, c, e⟩ := okd_all (ds := r) fun x hx => h x (List.mem_cons_of_mem _ hx)
    refine ⟨by simp [PyData.hasDictAll, h1.nd, a], by simp [PyData.showableAll, h1.sh, b], ?_, by simp [PyData.canLayAll0, h1.cl, e]⟩
    simp only [PyData.depthAll]
    exact Nat.max_le.mpr ⟨h1.dp, c⟩
theorem Okd.tup {k L : Nat} {ds : List PyData} (h : ∀ d ∈ ds, Okd k L d) : Okd (k + 1) (ds.length * (L + 2) + 3) (.tuple ds) := by
  obtain ⟨a, b, c, e⟩ := okd_all h
  refine ⟨by simp [PyData.hasDict, a], by simp [PyData.showable, b], by simp only [PyData.depth]; omega, ?_, by simp [PyData.canLay0, e]⟩
  have := tupleText_bd (mem_shownAll fun d hd => (h d hd).ln)
  rw [shownAll_len] at this
  simpa only [PyData.shown] using this
theorem Okd.lst {k L : Nat} {ds : List PyData} (h : ∀ d ∈ ds, Okd k L d) : Okd (k + 1) (ds.length * (L + 2) + 3) (.list ds) := by
  obtain ⟨a, b, c, e⟩ := okd_all h
  refine ⟨by simp [PyData.hasDict, a], by simp [PyData.showable, b], by simp only [PyData.depth]; omega, ?_, by simp [PyData.canLay0, e]⟩
  have := listText_bd (mem_shownAll fun d hd => (h d hd).ln)
  rw [shownAll_len] at this
  simpa only [PyData.shown] using this
theorem bRepr_ok {x : PV} {S : Store} {d : PyData} {k L : Nat} (h : toD 66 S x = some d) (hd : isDisplay d = true) (o : Okd k L d) (hk : k ≤ 60) (hL : L ≤ 16777216) : bRepr [x] S = some (.str d.shown, S) := by
  unfold bRepr
  simp only [h]
  exact if_pos ⟨hd, o.nd, o.sh, Nat.le_trans o.dp hk, Nat.le_trans o.ln (sl_le hL)⟩
theorem optAll_map {α β : Type} {f : α → Option β} {g : α → β} : ∀ {xs : List α}, (∀ x ∈ xs, f x = some (g x)) → optAll f xs = some (xs.map g)
  | [], _ => rfl
  | x :: xs, h => by
    unfold optAll
    rw [h x (by simp), optAll_map (xs := xs) fun y hy => h y (List.mem_cons_of_mem _ hy)]
    rfl
theorem fNe_str (x y : Str) (S : Store) : fNe (.str x) (.str y) S = some (.bl (!decide (x = y)), S) := rfl
/-- a list of data against [] -/
theorem fNe_nil {n m k L : Nat} {ds : List PyData} {S : Store} (h1 : toD 66 S (.ref n) = some (.list ds)) (o : ∀ d ∈ ds, Okd k L d) (hk : k ≤ 63) (h2 : S[m]? = some (.lst [])) : fNe (.ref n) (.ref m) S = some (.bl (!ds.isEmpty), S) := by
  have d2 : toD 66 S (.ref m) = some (.list []) := by
    unfold toD
    simp only [h2]
    rfl
  have sh : ∀ {es : List PyData}, (∀ d ∈ es, Okd k L d) → SeqAt.shaped (.list es) = true := fun {es} h => by
    obtain ⟨a, b, c, e⟩ := okd_all h
    show (PyData.canLay0 _ && decide (PyData.depth _ ≤ 64)) = true
    simp [PyData.canLay0, e, PyData.depth]
    omega
  have e : eqP (.ref n) (.ref m) S = some ds.isEmpty := by
    unfold eqP
    simp only [h1, d2]
    rw [if_pos ⟨sh o, sh (es := []) (by simp)⟩, eqv_list_nil]
  show (eqP (.ref n) (.ref m) S).map _ = _
  rw [e]; rfl
theorem toD_lst {n m : Nat} {S : Store} {xs : List PV} {g : PV → PyData} (h : S[m]? = some (.lst xs)) (hx : ∀ x ∈ xs, toD n S x = some (g x)) : toD (n + 1) S (.ref m) = some (.list (xs.map g)) := by
  unfold toD
  simp only [h]
  rw [optAll_map hx]; rfl
theorem toD_tup {n : Nat} {S : Store} {xs : List PV} {g : PV → PyData} (hx : ∀ x ∈ xs, toD n S x = some (g x)) : toD (n + 1) S (.tup xs) = some (.tuple (xs.map g)) := by
  show (optAll (toD n S) xs).map _ = _
  rw [optAll_map hx]; rfl
end Lt
set_option Elab.async false
set_option linter.all false
set_option maxRecDepth 100000
/-! Lt11: enumerate over a tuple. -/
namespace Lt
open PySem PySem.Spec PyProof.Rows L2
open AutoSeq1 (wpAny_loadPart')
set_option maxHeartbeats 1000000 in
theorem enum_made (l : Addr) (items : Array Value) (n : Nat) (dct : Option Addr) (sl : Array (Option Value)) :
    Meets (Builtin.«enumerate.__new__» ⟨[.type "enumerate", .ref l], []⟩) (fun _ R s => s.heap.get? l = some { cls := .type "tuple", dict := dct, data := .seq items n, slots := sl } ∧
      R (.ok (.ret (.ref (s.heap.push { cls := .type "tuple_iterator", data := .fields #[.ref l, .int 0 0] }).objs.size)))
        { s with heap := (s.heap.push { cls := .type "tuple_iterator", data := .fields #[.ref l, .int 0 0] }).push { cls := .type "enumerate", data := .fields #[.none, .bool false, .ref s.heap.objs.size, rawInt 0, .none, .none] } }) :=
  .of_wp fun prog w A R s h => by
    obtain ⟨hp, g, d, tk, os⟩ := s
    obtain ⟨hl, h⟩ := h
    have hsub := sub_enumerate
    have hT : Heap.IsTuple (Shared.heap ⟨hp, g, d, tk, os⟩) l items := ⟨_, hl, rfl, n, rfl⟩
    wp_walk using wpAny_loadPart' hl
    refine wpAny_stack_any fun st => wpAny_pure ?_
    split
    · rename_i c _ _ _ _ _
      cases (c == Value.type "enumerate") <;>
      · wp_walk using wpAny_loadPart' hl, wpAny_pyIter_tuple hT
        exact ⟨_, rfl, h⟩
    · wp_walk using wpAny_loadPart' hl, wpAny_pyIter_tuple hT
      exact ⟨_, rfl, h⟩
section
variable {prog : Program} {w : World} {A : Around} {E : Value → Shared → Prop} {s : Shared}
theorem enum_of_tuple {l : Addr} {items : Array Value} {Q : Value → Shared → Prop} (hT : s.heap.IsTuple l items)
    (h : ∀ h', IsEnum h' (s.heap.objs.size + 1) s.heap.objs.size 0 .none → h'.IsTupleIter s.heap.objs.size l 0 → h'.objs.size = s.heap.objs.size + 2 →
      (∀ b o, s.heap.get? b = some o → h'.get? b = some o) → Q (.ref (s.heap.objs.size + 1)) { s with heap := h' }) :
    wpAny (model prog w) A (call (.type "enumerate") [.ref l]) Q E s := by
  obtain ⟨⟨c, dct, dt, sl⟩, hl, hc, n, hd⟩ := hT
  simp only at hc hd
  subst hc hd
  refine callType_new F.called_enumerate (by decide) (F.typeCall_enumerate_1 _) (F.newCall_enumerate_1 _) (fun obj => F.args_object_init_2 obj _) F.entry_enumerate_new
    (enum_made l items n dct sl) ⟨hl, ?_⟩
  generalize ho1 : ({ cls := .type "tuple_iterator", data := .fields #[.ref l, .int 0 0] } : Obj) = o1
  generalize ho2 : ({ cls := .type "enumerate", data := .fields #[.none, .bool false, .ref s.heap.objs.size, rawInt 0, .none, .none] } : Obj) = o2
  have z1 : (s.heap.push o1).objs.size = s.heap.objs.size + 1 := Heap.size_push ..
  show _ ∧ _
  rw [z1]
  have he : ((s.heap.push o1).push o2).get? (s.heap.objs.size + 1) = some o2 := by
    have := Heap.get?_push_size (s.heap.push o1) (o := o2) (by rw [← ho2]; rfl)
    rwa [z1] at this
  have hi : ((s.heap.push o1).push o2).get? s.heap.objs.size = some o1 := Heap.get?_push_of_some _ (Heap.get?_push_size _ (by rw [← ho1]; rfl))
  refine ⟨⟨o2, he, by rw [← ho2]⟩, h _ ?_ ⟨o1, hi, by rw [← ho1], by rw [← ho1]; rfl⟩ (by rw [Heap.size_push, z1]) fun b o x => Heap.get?_push_of_some _ (Heap.get?_push_of_some _ x)⟩
  rw [← ho2] at he
  rw [← ho2]
  exact he
end
/-- the tuple at a, each item in a new pair -/
def IteT (K : PySem.W.Frag) (a : Addr) : It :=
  ⟨fun i H => ∃ (xs : List V) (x : V), SqT K H a xs ∧ xs[i]? = some x, fun i H v H' => ∃ T x, v = .ref T ∧ H T = none ∧ H' = upd H T (.tup [.int (i : Nat), x]) ∧ ∀ xs, SqT K H a xs → xs[i]? = some x, fun i H => ∃ xs : List V, SqT K H a xs ∧ xs.length = i⟩
theorem turn_enumT {P : Program} {w : World} {K : PySem.W.Frag} {elts : List Expr} {kk : Nat} {tpos : Pos} (a e it : Addr) :
    Turn P w K (.Tuple elts kk tpos) (IteT K a) [e, it] e (fun i h => (∃ old, IsEnum h e it ((i : Nat) : Int) old) ∧ h.IsTupleIter it a i ∧ e ≠ it ∧ a ≠ e ∧ a ≠ it) where
  mem := by simp
  obj := fun i h st b hb => by
    obtain ⟨⟨old, he⟩, ⟨o, ho, hc, hd⟩, _⟩ := st
    rcases List.mem_cons.mp hb with z | z
    · rw [z]; exact ⟨_, he, fun v q => nomatch q⟩
    · rw [List.mem_singleton.mp z]; exact ⟨o, ho, fun v q => by rw [hd] at q; cases q⟩
  keep := fun i h h' st k => by
    obtain ⟨⟨old, he⟩, hi, hne⟩ := st
    exact ⟨⟨old, k e (by simp) _ he⟩, hi.at fun o q => k it (by simp) o q, hne⟩
  item := by
    intro X hP hw hK hc i pins s σ H E I hf st hg
    subst hP hw hK
    obtain ⟨⟨old, he⟩, hit, hne, hae, hai⟩ := st
    obtain ⟨xs, x, hq, hx⟩ := hg
    obtain ⟨its, rv, p, hz⟩ := I.tuple hq
    obtain ⟨u, hu, ru⟩ := rv.get hx
    have hel : e < s.heap.objs.size := Heap.lt_size he
    have hil : it < s.heap.objs.size := by obtain ⟨_, q, _⟩ := hit; exact Heap.lt_size q
    have hal : a < s.heap.objs.size := by obtain ⟨_, q, _⟩ := p; exact Heap.lt_size q
    have hlt : i < its.toArray.size := by have := (List.getElem?_eq_some_iff.mp hu).1; simpa using this
    have D := Draws.tuple (prog := X.prog) (w := X.w) (A := X.A.in1) (I.ok.hd hc) it a hai its.toArray
    refine wpAny_pyNext_enum_itemC D he ⟨hit, p⟩ hlt hne (by simp [hne, Ne.symm hae]) fun y h' tk hP ho hit' hT hsz hk => ?_
    have ey : y = u := by
      have e1 : its.toArray[i]? = some u := by simpa using hu
      rw [e1] at hP
      exact (Option.some.inj hP).symm
    subst ey
    refine ⟨_, rfl, wpAny_letOwnedTupleGo_enum (s := { s with heap := h', toks := tk + 1 }) ho fun h'' he' sb => ?_⟩
    have hT2 : h''.get? s.heap.objs.size = some { cls := .type "tuple", data := .seq #[.int i tk, y] } := (sb.2 _ (Nat.ne_of_gt hel)).trans hT
    have new : ObjOk X.prog X.w (upd H s.heap.objs.size (.tup [.int (i : Nat), x])) h'' s.heap.objs.size (.tup [.int (i : Nat), x]) :=
      ⟨by show 2 ≤ sizeLine; decide, [.int i tk, y], .cons ⟨_, rfl⟩ (.cons ru .nil), ⟨_, hT2, rfl, _, rfl⟩⟩
    have I1 : Inv X pins σ (upd H s.heap.objs.size (.tup [.int (i : Nat), x])) { s with heap := h'', toks := tk + 1 } :=
      I.turnedNew (ch := [e, it]) (fun b ob hb q => (sb.2 b (fun z => hb (by simp [z]))).trans (hk b ob (fun z => hb (by simp [z])) (fun z => hb (by simp [z])) q)) hf (Nat.le_refl _) new
    refine ⟨.ref s.heap.objs.size, _, I1, rfl, ⟨_, x, rfl, I.hok.fresh (Nat.le_refl _), rfl, fun ys hy => ?_⟩, ⟨⟨y, ?_⟩, hit'.1.at fun o q => (sb.2 it (Ne.symm hne)).trans q, hne, hae, hai⟩, fun b hb => ?_⟩
    · rw [I.tuple_inj hy hq]; exact hx
    · have e1 : ((i + 1 : Nat) : Int) = (i : Int) + 1 := by omega
      rw [e1]; exact he'
    · have hb' : b < s.heap.objs.size := by
        rcases List.mem_cons.mp hb with z | z
        · rw [z]; exact hel
        · rw [List.mem_singleton.mp z]; exact hil
      rw [upd_ne (Nat.ne_of_lt hb')]
      exact (hf b hb).1
  done := by
    intro X hP hw hK hc i pins s σ H E I hf st hg
    subst hP hw hK
    obtain ⟨⟨old, he⟩, hit, hne, hae, hai⟩ := st
    obtain ⟨xs, hq, hx⟩ := hg
    obtain ⟨its, rv, p, hz⟩ := I.tuple hq
    have hl := rv.length
    obtain ⟨f0, f1, f2, f3, f4, f5⟩ := hf it (by simp)
    have D := Draws.tuple (prog := X.prog) (w := X.w) (A := X.A.in1) (I.ok.hd hc) it a hai its.toArray
    have en : its.toArray.size = i := by rw [List.size_toArray, ← hl]; exact hx
    subst en
    exact wpAny_pyNext_enum_endD D he ⟨hit, p⟩ fun h' eb => ⟨rfl, I.turned (t' := s.toks) (fun b o hb q => eb b o hb q) f0 f1 f3 f4 f5⟩
  self := fun A i s Q E st h => let ⟨⟨_, he⟩, _⟩ := st; wpAny_pyIter_enum he h
def iEnumA (K : PySem.W.Frag) (ta : TA) : TI := fun σ H R => ta σ H fun vs H1 => ∃ a xs, vs = [.ref a] ∧ ((SqL K H1 a xs ∧ R (Ite K a) H1) ∨ (SqT K H1 a xs ∧ R (IteT K a) H1))
theorem pi_enumA {X : Cx} {e : Expr} {ta : TA} {p pos tpos : Pos} {elts : List Expr} {kk : Nat} (hg : Gl X "enumerate") (hm : X.mg "enumerate" = none) (ha : PA X [e] ta) (hs : starEach [e] X.env = [(false, eval e X.env)] := by rfl) :
    PI X (.Tuple elts kk tpos) (.Call (.Name "enumerate" p) [e] [] pos) (iEnumA X.K ta) := by
  refine ⟨fun pins s σ H R I h => ?_⟩
  refine Call_ (ld_blt I hg hm boot_enumerate (PyProof.Rows.callWith_type1 (thn (ha.run pos pins s σ H _ I h) fun us s1 ⟨vs, H1, I1, r1, q1⟩ => ?_) hs rfl))
  obtain ⟨a, xs, ex, hq⟩ := q1
  subst ex
  cases r1 with
  | cons r rr =>
    cases rr
    cases r
    have fresh : ∀ b ∈ [s1.heap.objs.size + 1, s1.heap.objs.size], FpOk X pins H1 b := fun b hb => by
      have hle : s1.heap.objs.size ≤ b := by
        rcases List.mem_cons.mp hb with z | z
        · rw [z]; exact Nat.le_add_right _ _
        · rw [List.mem_singleton.mp z]; exact Nat.le_refl _
      exact I1.fpOk hle (I1.hok.fresh hle)
    rcases hq with ⟨hq, q⟩ | ⟨hq, q⟩
    · obtain ⟨its, rv, p', hz⟩ := I1.list hq
      refine call_enumerate_list p'.isList fun h' he hit hsz hk => wpAny_pyIter_enum he ?_
      have I2 : Inv X pins σ H1 { s1 with heap := h' } := I1.kept (t' := s1.toks) hk
      exact ⟨s1.heap.objs.size + 1, _, _, _, H1, rfl, I2, turn_enum a (s1.heap.objs.size + 1) s1.heap.objs.size, ⟨⟨.none, he⟩, hit, Nat.succ_ne_self _⟩, fresh, q⟩
    · obtain ⟨its, rv, p', hz⟩ := I1.tuple hq
      have hal : a < s1.heap.objs.size := by obtain ⟨_, q, _⟩ := p'; exact Heap.lt_size q
      refine enum_of_tuple p' fun h' he hit hsz hk => wpAny_pyIter_enum he ?_
      have I2 : Inv X pins σ H1 { s1 with heap := h' } := I1.kept (t' := s1.toks) hk
      exact ⟨s1.heap.objs.size + 1, _, _, _, H1, rfl, I2, turn_enumT a (s1.heap.objs.size + 1) s1.heap.objs.size, ⟨⟨.none, he⟩, hit, Nat.succ_ne_self _, Nat.ne_of_lt (Nat.lt_succ_of_lt hal), Nat.ne_of_lt hal⟩, fresh, q⟩
/-- a tuple's pairs with their places -/
def gET (xs : List PV) : PIt := fun i _ => if i < xs.length then some (xs[i]?.map fun x => .tup [.int (i : Nat), x]) else if i = xs.length then some none else none
theorem it_enumT {K : PySem.W.Frag} {ι : List Addr} {H : Hp} {a : Addr} {xs : List PV} {us : List V} (ht : SqT K H a us) (r : RVs K ι H xs us) : PItOk K (IteT K a) (gET xs) ι H := by
  intro ι1 H1 S i e rs
  have ht1 := e.sqT ht
  have r1 := r.mono e
  refine ⟨fun h => ?_, fun x h => ?_⟩
  · unfold gET at h
    split at h
    · rename_i hi
      rw [List.getElem?_eq_getElem hi] at h
      cases h
    · split at h
      · rename_i hi
        exact ⟨us, ht1, by rw [← r1.length]; exact hi.symm⟩
      · cases h
  · unfold gET at h
    split at h
    · rename_i hi
      rw [List.getElem?_eq_getElem hi] at h
      cases h
      obtain ⟨v, h1, h2⟩ := r1.get (List.getElem?_eq_getElem hi)
      refine ⟨⟨us, v, ht1, h1⟩, fun v' H' q => ?_⟩
      obtain ⟨T, z, rfl, hT, rfl, hz⟩ := q
      have := hz us ht1
      rw [h1] at this; cases this
      have E : Ext ι1 ι1 H1 (upd H1 T (.tup [.int (i : Nat), v])) := ext_tup hT
      exact ⟨E, rs.tup hT, .tup (SqT.of upd_same) (.cons (.int _) (.cons (h2.mono E) .nil))⟩
    · split at h <;> cases h
def wEnumA (w : WA) : WI := fun env S P => w env S fun xs S1 => match xs with
  | [.ref n] => (∃ c ys, S1[n]? = some c ∧ c.items = some ys) ∧ P (gE n) S1
  | [.tup ys] => P (gET ys) S1
  | _ => False
theorem ri_enumA {X : Cx} {e : Expr} {w : WA} {p pos tpos : Pos} {elts : List Expr} {kk : Nat} (hg : Gl X "enumerate") (hm : X.mg "enumerate" = none) (ha : RA X [e] w) (hs : starEach [e] X.env = [(false, eval e X.env)] := by rfl) :
    RI X (.Tuple elts kk tpos) (.Call (.Name "enumerate" p) [e] [] pos) (wEnumA w) := by
  refine ⟨PI.weak (pi_enumA hg hm ha.pa hs) fun σ H R ⟨ι, env, S, P, re, rs, hw, hP⟩ => ⟨ι, env, S, _, re, rs, hw, fun xs S1 hx ι1 H1 vs e1 rs1 rx => ?_⟩⟩
  split at hx
  · obtain ⟨u, rfl, q⟩ := rvs1 rx
    obtain ⟨a, rfl, ha'⟩ := ref_of q
    obtain ⟨⟨c, ys, hc, hi⟩, hp⟩ := hx
    obtain ⟨us, hu, q⟩ := at_seq rs1 hc hi ha'
    exact ⟨a, us, rfl, .inl ⟨hu, hP _ _ hp ι1 H1 _ e1 rs1 (it_enum ha')⟩⟩
  · obtain ⟨u, rfl, q⟩ := rvs1 rx
    obtain ⟨a, us, rfl, hT, qr⟩ := tup_of q
    exact ⟨a, us, rfl, .inr ⟨hT, hP _ _ hx ι1 H1 _ e1 rs1 (it_enumT hT qr)⟩⟩
  · exact hx.elim
end Lt
set_option Elab.async false
set_option linter.all false
set_option maxRecDepth 100000
/-! Lt12: zip of two tuples or of two lists. -/
namespace Lt
open PySem PySem.Spec PyProof.Rows L2
/-- two tuples in pairs -/
def gZT (xs ys : List PV) : PIt := fun i _ => match xs[i]?, ys[i]? with
  | some x, some y => some (some (.tup [x, y]))
  | _, _ => some none
theorem it_zipT {K : PySem.W.Frag} {ι : List Addr} {H : Hp} {a b : Addr} {xs ys : List PV} {us vs : List V} (ha : SqT K H a us) (hb : SqT K H b vs) (ra : RVs K ι H xs us) (rb : RVs K ι H ys vs) : PItOk K (RZ.ItzT K a b) (gZT xs ys) ι H := by
  intro ι1 H1 S i e rs
  have ha1 := e.sqT ha
  have hb1 := e.sqT hb
  have ra1 := ra.mono e
  have rb1 := rb.mono e
  refine ⟨fun h => ?_, fun x h => ?_⟩
  · unfold gZT at h
    split at h
    · cases h
    · rename_i hn
      refine ⟨us, vs, ha1, hb1, ?_⟩
      cases hx : xs[i]? with
      | none => exact .inl (by rw [← ra1.length]; exact List.getElem?_eq_none_iff.mp hx)
      | some x =>
        cases hy : ys[i]? with
        | none => exact .inr (by rw [← rb1.length]; exact List.getElem?_eq_none_iff.mp hy)
        | some y => exact (hn x y hx hy).elim
  · unfold gZT at h
    split at h
    · rename_i x' y' hx hy
      cases h
      obtain ⟨u, h1, h2⟩ := ra1.get hx
      obtain ⟨v, h3, h4⟩ := rb1.get hy
      refine ⟨⟨us, vs, u, v, ha1, hb1, h1, h3⟩, fun v' H' q => ?_⟩
      obtain ⟨T, p, q, rfl, hT, rfl, hp, hq⟩ := q
      have e1 := hp us ha1
      have e2 := hq vs hb1
      rw [h1] at e1; cases e1
      rw [h3] at e2; cases e2
      have E : Ext ι1 ι1 H1 (upd H1 T (.tup [u, v])) := ext_tup hT
      exact ⟨E, rs.tup hT, .tup (SqT.of upd_same) (.cons (h2.mono E) (.cons (h4.mono E) .nil))⟩
    · cases h
def wZip (w : WA) : WI := fun env S P => w env S fun xs S1 => match xs with
  | [.tup ys, .tup zs] => P (gZT ys zs) S1
  | _ => False
theorem ri_zip {X : Cx} {e e2 : Expr} {w : WA} {p pos tpos : Pos} {elts : List Expr} {kk : Nat} (hg : Gl X "zip") (hm : X.mg "zip" = none) (ha : RA X [e, e2] w)
    (hs : starEach [e, e2] X.env = (false, eval e X.env) :: starEach [e2] X.env := by rfl) (hpl : (backTo pos (starEach [e2] X.env)).any (·.1) = false := by rfl) :
    RI X (.Tuple elts kk tpos) (.Call (.Name "zip" p) [e, e2] [] pos) (wZip w) := by
  refine ⟨PI.weak (RZ.pi_zipA hg hm ha.pa hs hpl) fun σ H R ⟨ι, env, S, P, re, rs, hw, hP⟩ => ⟨ι, env, S, _, re, rs, hw, fun xs S1 hx ι1 H1 vs e1 rs1 rx => ?_⟩⟩
  split at hx
  · obtain ⟨u, v, rfl, q1, q2⟩ := rvs2 rx
    obtain ⟨a, us, rfl, hT, qr⟩ := tup_of q1
    obtain ⟨b, ws, rfl, hT2, qr2⟩ := tup_of q2
    exact ⟨a, b, us, ws, rfl, .inr ⟨hT, hT2, hP _ _ hx ι1 H1 _ e1 rs1 (it_zipT hT hT2 qr qr2)⟩⟩
  · exact hx.elim
end Lt
set_option Elab.async false
set_option linter.all false
set_option maxRecDepth 100000
/-! Lt13: zip of a tuple and a list. -/
namespace Lt
open PySem PySem.Spec PyProof.Rows L2
/-- the tuple at a and the list at b in new pairs -/
def ItzM (K : PySem.W.Frag) (a b : Addr) : It :=
  ⟨fun i H => ∃ (xs ys : List V) (x y : V), SqT K H a xs ∧ SqL K H b ys ∧ xs[i]? = some x ∧ ys[i]? = some y,
    fun i H v H' => ∃ T x y, v = .ref T ∧ H T = none ∧ H' = upd H T (.tup [x, y]) ∧ (∀ xs, SqT K H a xs → xs[i]? = some x) ∧ ∀ ys, SqL K H b ys → ys[i]? = some y,
    fun i H => ∃ xs ys : List V, SqT K H a xs ∧ SqL K H b ys ∧ i = min xs.length ys.length⟩
theorem turn_zipM {P : Program} {w : World} {K : PySem.W.Frag} {elts : List Expr} {kk : Nat} {tpos : Pos} {a b z TI TO i1 i2 : Addr} (S : ZipSep2 z TI TO i1 i2 [i1, a] [i2, b]) (ha : a ≠ i1) (hb : b ≠ i2) :
    Turn P w K (.Tuple elts kk tpos) (ItzM K a b) [z, TI, TO, i1, i2] z (fun i h => IsZip h z TI TO .none ∧ IsTupOf2 h TI (.ref i1) (.ref i2) ∧ (∃ x y, IsTupOf2 h TO x y) ∧ h.IsTupleIter i1 a i ∧ h.IsListIter i2 b i) where
  mem := by simp
  obj := fun i h st c hc => by
    obtain ⟨hz, hTI, ⟨x, y, hTO⟩, ⟨o1, e1, _, d1⟩, ⟨o2, e2, _, d2⟩⟩ := st
    simp only [List.mem_cons, List.not_mem_nil, or_false] at hc
    rcases hc with q | q | q | q | q <;> subst q
    · exact ⟨_, hz, fun v q => nomatch q⟩
    · exact ⟨_, hTI, fun v q => nomatch q⟩
    · exact ⟨_, hTO, fun v q => nomatch q⟩
    · exact ⟨o1, e1, fun v q => by rw [d1] at q; cases q⟩
    · exact ⟨o2, e2, fun v q => by rw [d2] at q; cases q⟩
  keep := fun i h h' st k => by
    obtain ⟨hz, hTI, ⟨x, y, hTO⟩, h1, h2⟩ := st
    exact ⟨k z (by simp) _ hz, k TI (by simp) _ hTI, ⟨x, y, k TO (by simp) _ hTO⟩, h1.at fun o q => k i1 (by simp) o q, h2.at fun o q => k i2 (by simp) o q⟩
  item := by
    intro X hP hw hK hc i pins s σ H E I hf st hg
    subst hP hw hK
    obtain ⟨hz, hTI, hTO, h1, h2⟩ := st
    obtain ⟨xs, ys, x, y, hqx, hqy, hx, hy⟩ := hg
    obtain ⟨its, rv, p, _⟩ := I.tuple hqx
    obtain ⟨its2, rv2, p2, _⟩ := I.list hqy
    obtain ⟨u, hu, ru⟩ := rv.get hx
    obtain ⟨u2, hu2, ru2⟩ := rv2.get hy
    have D1 := Draws.tuple (prog := X.prog) (w := X.w) (A := X.A.in1) (I.ok.hd hc) i1 a ha its.toArray
    have D2 := Draws.list (prog := X.prog) (w := X.w) (A := X.A.in1) (I.ok.hd hc) i2 b hb its2.toArray
    have W := WalksT.zipD2 (prog := X.prog) (w := X.w) (A := X.A) S D1 D2
    have hlt : i < min its.toArray.size its2.toArray.size := by
      have := (List.getElem?_eq_some_iff.mp hu).1
      have := (List.getElem?_eq_some_iff.mp hu2).1
      simp only [List.size_toArray]
      omega
    obtain ⟨xa, ya, hTO'⟩ := id hTO
    have below : ∀ c ∈ [z, TI, TO, i1, i2], c < s.heap.objs.size := fun c hcm => by
      simp only [List.mem_cons, List.not_mem_nil, or_false] at hcm
      rcases hcm with q | q | q | q | q <;> subst q
      · exact Heap.lt_size hz
      · exact Heap.lt_size hTI
      · exact Heap.lt_size hTO'
      · obtain ⟨_, e1, _⟩ := h1; exact Heap.lt_size e1
      · obtain ⟨_, e2, _⟩ := h2; exact Heap.lt_size e2
    refine W.item i s _ _ hlt ⟨hz, hTI, hTO, ⟨h1, p⟩, h2, p2.isList⟩ fun T vals h' tk ⟨x1, x2, e1, e2, ev⟩ hsz hT mid hk => ⟨_, rfl, W.go elts kk tpos i T { s with heap := h', toks := tk } _ _ mid fun h'' st' hk' => ?_⟩
    subst ev
    have f1 : x1 = u := by
      have q : its.toArray[i]? = some u := by simpa using hu
      rw [q] at e1; exact (Option.some.inj e1).symm
    have f2 : x2 = u2 := by
      have q : its2.toArray[i]? = some u2 := by simpa using hu2
      rw [q] at e2; exact (Option.some.inj e2).symm
    subst f1 f2
    have hTw := W.apart i T h' mid
    have hT2 : h''.IsTuple T #[x1, x2] := hT.at fun o q => hk' T o hTw q
    have new : ObjOk X.prog X.w (upd H T (.tup [x, y])) h'' T (.tup [x, y]) := ⟨by show 2 ≤ sizeLine; decide, [x1, x2], .cons ru (.cons ru2 .nil), hT2⟩
    have I1 : Inv X pins σ (upd H T (.tup [x, y])) { s with heap := h'', toks := tk } :=
      I.turnedNew (ch := [z, TI, TO, i1, i2]) (fun c o hb q => by
        simp only [List.mem_cons, List.not_mem_nil, or_false, not_or] at hb
        have nw : c ∉ [z, TO, i1, i2] := by
          simp only [List.mem_cons, List.not_mem_nil, or_false, not_or]
          exact ⟨hb.1, hb.2.2.1, hb.2.2.2.1, hb.2.2.2.2⟩
        exact hk' c o nw (hk c o nw q)) hf hsz new
    obtain ⟨s1, s2, s3, s4, s5⟩ := st'
    refine ⟨.ref T, _, I1, rfl, ⟨T, x, y, rfl, I.hok.fresh hsz, rfl, fun l hl => by rw [I.tuple_inj hl hqx]; exact hx, fun l hl => by rw [I.list_inj hl hqy]; exact hy⟩, ⟨s1, s2, s3, s4.1, s5.1⟩, fun c hcm => ?_⟩
    rw [upd_ne (Nat.ne_of_lt (Nat.lt_of_lt_of_le (below c hcm) hsz))]
    exact (hf c hcm).1
  done := by
    intro X hP hw hK hc i pins s σ H E I hf st hg
    subst hP hw hK
    obtain ⟨hz, hTI, hTO, h1, h2⟩ := st
    obtain ⟨xs, ys, hqx, hqy, hend⟩ := hg
    obtain ⟨its, rv, p, _⟩ := I.tuple hqx
    obtain ⟨its2, rv2, p2, _⟩ := I.list hqy
    have l1 := rv.length
    have l2 := rv2.length
    have D1 := Draws.tuple (prog := X.prog) (w := X.w) (A := X.A.in1) (I.ok.hd hc) i1 a ha its.toArray
    have D2 := Draws.list (prog := X.prog) (w := X.w) (A := X.A.in1) (I.ok.hd hc) i2 b hb its2.toArray
    have W := WalksT.zipD2 (prog := X.prog) (w := X.w) (A := X.A) S D1 D2
    have en : i = min its.toArray.size its2.toArray.size := by
      rw [List.size_toArray, List.size_toArray, ← l1, ← l2]; exact hend
    rw [en] at h1 h2
    refine W.done s _ _ ⟨hz, hTI, hTO, ⟨h1, p⟩, h2, p2.isList⟩ fun h' tk hk => ⟨rfl, I.turnedL (t' := tk) (ch := [z, TI, TO, i1, i2]) (fun c o hb q => ?_) hf⟩
    simp only [List.mem_cons, List.not_mem_nil, or_false, not_or] at hb
    refine hk c o ?_ q
    simp only [List.mem_cons, List.not_mem_nil, or_false, not_or]
    exact ⟨hb.1, hb.2.2.1, hb.2.2.2.1, hb.2.2.2.2⟩
  self := fun A i s Q E st h => wpAny_pyIter_zip st.1 h
def iZipM (K : PySem.W.Frag) (ta : TA) : TI := fun σ H R => ta σ H fun vs H1 => ∃ a b xs ys, vs = [.ref a, .ref b] ∧ ((SqT K H1 a xs ∧ SqL K H1 b ys ∧ R (ItzM K a b) H1) ∨ (SqT K H1 a xs ∧ SqT K H1 b ys ∧ R (RZ.ItzT K a b) H1))
theorem pi_zipM {X : Cx} {e e2 : Expr} {ta : TA} {p pos tpos : Pos} {elts : List Expr} {kk : Nat} (hg : Gl X "zip") (hm : X.mg "zip" = none) (ha : PA X [e, e2] ta)
    (hs : starEach [e, e2] X.env = (false, eval e X.env) :: starEach [e2] X.env := by rfl) (hpl : (backTo pos (starEach [e2] X.env)).any (·.1) = false := by rfl) :
    PI X (.Tuple elts kk tpos) (.Call (.Name "zip" p) [e, e2] [] pos) (iZipM X.K ta) := by
  refine ⟨fun pins s σ H R I h => ?_⟩
  refine Call_ (ld_blt I hg hm PyProof.Rows.boot_zip (PyProof.Rows.callWith_type1 (thn (ha.run pos pins s σ H _ I h) fun us s1 ⟨vs, H1, I1, r1, q1⟩ => ?_) hs hpl))
  obtain ⟨a, b, xs, ys, ex, q1⟩ := q1
  subst ex
  cases r1 with
  | cons r rr =>
    cases rr with
    | cons r' rr =>
      cases rr
      cases r
      cases r'
      have fresh5 : ∀ c, c ∈ [s1.heap.objs.size + 4, s1.heap.objs.size + 2, s1.heap.objs.size + 3, s1.heap.objs.size, s1.heap.objs.size + 1] → FpOk X pins H1 c := fun c hcm => by
        have hle : s1.heap.objs.size ≤ c := by
          simp only [List.mem_cons, List.not_mem_nil, or_false] at hcm
          rcases hcm with q | q | q | q | q <;> rw [q]
          · exact Nat.le_add_right _ _
          · exact Nat.le_add_right _ _
          · exact Nat.le_add_right _ _
          · exact Nat.le_refl _
          · exact Nat.le_add_right _ _
        exact I1.fpOk hle (I1.hok.fresh hle)
      rcases q1 with ⟨hqx, hqy, q⟩ | ⟨hqx, hqy, q⟩
      · obtain ⟨its, rv, p1, _⟩ := I1.tuple hqx
        obtain ⟨its2, rv2, p2, _⟩ := I1.list hqy
        obtain ⟨o1, ho1, _⟩ := id p1
        have la : a < s1.heap.objs.size := Heap.lt_size ho1
        have lb : b < s1.heap.objs.size := p2.lt
        refine zip_begins2 (begins_tuple a its.toArray) (begins_list b its2.toArray) p1 p2.isList fun h' hz hTI hTO h1 h2 hsz hk => wpAny_pyIter_zip hz ?_
        have I2 : Inv X pins σ H1 { s1 with heap := h' } := I1.kept (t' := s1.toks) hk
        exact ⟨s1.heap.objs.size + 4, [s1.heap.objs.size + 4, s1.heap.objs.size + 2, s1.heap.objs.size + 3, s1.heap.objs.size, s1.heap.objs.size + 1], _, _, H1, rfl, I2,
          turn_zipM (zip_sep2 (fp1 := [a]) (fp2 := [b]) (fun c hc => by rw [List.mem_singleton.mp hc]; exact la) (fun c hc => by rw [List.mem_singleton.mp hc]; exact lb)) (Nat.ne_of_lt la) (Nat.ne_of_lt (Nat.lt_succ_of_lt lb)), ⟨hz, hTI, ⟨_, _, hTO⟩, ⟨_, h1, rfl, rfl⟩, ⟨_, h2, rfl, rfl⟩⟩, fresh5, q⟩
      · obtain ⟨its, rv, p1, _⟩ := I1.tuple hqx
        obtain ⟨its2, rv2, p2, _⟩ := I1.tuple hqy
        obtain ⟨o1, ho1, _⟩ := id p1
        obtain ⟨o2, ho2, _⟩ := id p2
        refine RZ.call_zipT (show s1.heap.IsTuple a its.toArray from p1) (show s1.heap.IsTuple b its2.toArray from p2) fun h' hz hTI hTO h1 h2 hsz hk => wpAny_pyIter_zip hz ?_
        have I2 : Inv X pins σ H1 { s1 with heap := h' } := I1.kept (t' := s1.toks) hk
        exact ⟨s1.heap.objs.size + 4, _, _, _, H1, rfl, I2, RZ.turn_zipT (PySem.W.ktu_apart s1.heap.objs.size a b (Heap.lt_size ho1) (Heap.lt_size ho2)), ⟨hz, hTI, ⟨_, _, hTO⟩, h1, h2⟩, fresh5, q⟩
/-- a tuple and a list in pairs -/
def gZM (xs : List PV) (n : Nat) : PIt := fun i S => match S[n]? with
  | some c => match c.items with
    | some ys => match xs[i]?, ys[i]? with
      | some x, some y => some (some (.tup [x, y]))
      | _, _ => if i = min xs.length ys.length then some none else none
    | none => none
  | none => none
theorem it_zipM {K : PySem.W.Frag} {ι : List Addr} {H : Hp} {a b : Addr} {n : Nat} {xs : List PV} {us : List V} (ha : SqT K H a us) (hb : ι[n]? = some b) (ra : RVs K ι H xs us) : PItOk K (ItzM K a b) (gZM xs n) ι H := by
  intro ι1 H1 S i e rs
  have ha1 := e.sqT ha
  have ra1 := ra.mono e
  have hb1 := e.pre n b hb
  have key : ∀ {r : Option PV}, gZM xs n i S = some r → ∃ ys vs, SqL K H1 b vs ∧ RVs K ι1 H1 ys vs ∧ ((∃ x y, xs[i]? = some x ∧ ys[i]? = some y ∧ r = some (.tup [x, y])) ∨ (i = min xs.length ys.length ∧ r = none)) := fun {r} h => by
    unfold gZM at h
    split at h
    · rename_i c hc
      split at h
      · rename_i ys hx
        obtain ⟨vs, hv, q⟩ := at_seq rs hc hx hb1
        refine ⟨ys, vs, hv, q, ?_⟩
        split at h
        · rename_i x y h1 h2
          exact .inl ⟨x, y, h1, h2, (Option.some.inj h).symm⟩
        · split at h
          · rename_i hi
            exact .inr ⟨hi, (Option.some.inj h).symm⟩
          · cases h
      · cases h
    · cases h
  refine ⟨fun h => ?_, fun x h => ?_⟩
  · obtain ⟨ys, vs, hv, q, ⟨x, y, _, _, z⟩ | ⟨z, _⟩⟩ := key h
    · cases z
    · exact ⟨us, vs, ha1, hv, by rw [← ra1.length, ← q.length]; exact z⟩
  · obtain ⟨ys, vs, hv, q, ⟨x', y', hx, hy, z⟩ | ⟨_, z⟩⟩ := key h
    · cases z
      obtain ⟨u, h1, h2⟩ := ra1.get hx
      obtain ⟨v, h3, h4⟩ := q.get hy
      refine ⟨⟨us, vs, u, v, ha1, hv, h1, h3⟩, fun v' H' w => ?_⟩
      obtain ⟨T, p, p', rfl, hT, rfl, hp, hq⟩ := w
      have e1 := hp us ha1
      have e2 := hq vs hv
      rw [h1] at e1; cases e1
      rw [h3] at e2; cases e2
      have E : Ext ι1 ι1 H1 (upd H1 T (.tup [u, v])) := ext_tup hT
      exact ⟨E, rs.tup hT, .tup (SqT.of upd_same) (.cons (h2.mono E) (.cons (h4.mono E) .nil))⟩
    · cases z
def wZipM (w : WA) : WI := fun env S P => w env S fun xs S1 => match xs with
  | [.tup ys, .tup zs] => P (gZT ys zs) S1
  | [.tup ys, .ref n] => (∃ c zs, S1[n]? = some c ∧ c.items = some zs) ∧ P (gZM ys n) S1
  | _ => False
theorem ri_zipM {X : Cx} {e e2 : Expr} {w : WA} {p pos tpos : Pos} {elts : List Expr} {kk : Nat} (hg : Gl X "zip") (hm : X.mg "zip" = none) (ha : RA X [e, e2] w)
    (hs : starEach [e, e2] X.env = (false, eval e X.env) :: starEach [e2] X.env := by rfl) (hpl : (backTo pos (starEach [e2] X.env)).any (·.1) = false := by rfl) :
    RI X (.Tuple elts kk tpos) (.Call (.Name "zip" p) [e, e2] [] pos) (wZipM w) := by
  refine ⟨PI.weak (pi_zipM hg hm ha.pa hs hpl) fun σ H R ⟨ι, env, S, P, re, rs, hw, hP⟩ => ⟨ι, env, S, _, re, rs, hw, fun xs S1 hx ι1 H1 vs e1 rs1 rx => ?_⟩⟩
  split at hx
  · obtain ⟨u, v, rfl, q1, q2⟩ := rvs2 rx
    obtain ⟨a, us, rfl, hT, qr⟩ := tup_of q1
    obtain ⟨b, ws, rfl, hT2, qr2⟩ := tup_of q2
    exact ⟨a, b, us, ws, rfl, .inr ⟨hT, hT2, hP _ _ hx ι1 H1 _ e1 rs1 (it_zipT hT hT2 qr qr2)⟩⟩
  · obtain ⟨u, v, rfl, q1, q2⟩ := rvs2 rx
    obtain ⟨a, us, rfl, hT, qr⟩ := tup_of q1
    obtain ⟨b, rfl, hb⟩ := ref_of q2
    obtain ⟨⟨c, ys, hc, hi⟩, hp⟩ := hx
    obtain ⟨ws, hw, _⟩ := at_seq rs1 hc hi hb
    exact ⟨a, b, us, ws, rfl, .inl ⟨hT, hw, hP _ _ hp ι1 H1 _ e1 rs1 (it_zipM hT hb qr)⟩⟩
  · exact hx.elim
end Lt
set_option Elab.async false
set_option linter.all false
set_option maxRecDepth 100000
/-! Lt14: repr of anything plain, texts. -/
namespace Lt
open PySem PySem.Spec PyProof.Rows L2
def bReprA : FB
  | [x], S => match toD 66 S x with
    | some d => if d.hasDict = false ∧ d.showable = true ∧ d.depth ≤ 60 ∧ d.shown.length ≤ sizeLine then some (.str d.shown, S) else none
    | none => none
  | _, _ => none
theorem call_bReprA {X : Cx} (hg : X.A.guards = some []) (hu : X.A.units + 64 < cLine) : CallR X (.builtin "repr") (rB X.K bReprA) := by
  intro pins s σ H vs us Q I r ⟨ι, S, xs, P, rs, rx, hf, hP⟩
  unfold bReprA at hf
  split at hf
  · rename_i x S0
    obtain ⟨v, rfl, q⟩ := rvs1 rx
    obtain ⟨u, rfl, ru⟩ := vals1 r
    split at hf
    · rename_i d hd
      obtain ⟨⟨c2, c3, c4, c5⟩, h⟩ := opt_ite hf
      have big : isDisplay d = true → wpAny (model X.prog X.w) X.A (call (.builtin "repr") [u]) (EP X pins σ Q) X.xe s := fun c1 => by
        obtain ⟨as, r1⟩ := Dp.reads I d v u (dp_of rs _ _ _ _ hd c2 q) ru
        obtain ⟨a, rfl⟩ := isRef_of_reads r1 c1
        refine repr_of_reads' r1 c3 (PyData.noDict_hsm c2) hg (by omega) (fun _ _ e => e) (fun h' u tk hk => ?_) c5
        exact ⟨.str d.shown, H, I.kept hk, ⟨u, rfl⟩, hP _ _ h ι H _ .refl rs (.str _)⟩
      have fin : ∀ tk, EP X pins σ Q (.str d.shown tk) { s with toks := s.toks + 1 } := fun tk => ⟨.str d.shown, H, I.tok _, ⟨_, rfl⟩, hP _ _ h ι H _ .refl rs (.str _)⟩
      cases q with
      | non =>
        cases hd
        cases (show u = Value.none from ru)
        exact PySem.P.repr_of_none (fin _)
      | bl b =>
        cases hd
        cases (show u = Value.bool b from ru)
        exact PySem.P.repr_of_bool (fin _)
      | int i =>
        cases hd
        obtain ⟨t, rfl⟩ := ru
        exact PySem.P.repr_of_int (by simpa [PyData.showable] using c3) (fin _)
      | str y =>
        cases hd
        obtain ⟨t, rfl⟩ := ru
        exact PySem.P.repr_of_str (fin _) c5
      | ty n => cases hd
      | tup _ _ =>
        refine big ?_
        obtain ⟨ds, -, rfl⟩ := Option.map_eq_some_iff.mp (show (optAll (toD 65 S) _).map _ = some d from hd)
        rfl
      | ref ha =>
        refine big ?_
        unfold toD at hd
        simp only at hd
        split at hd
        · obtain ⟨ds, -, rfl⟩ := Option.map_eq_some_iff.mp hd; rfl
        · obtain ⟨ds, -, rfl⟩ := Option.map_eq_some_iff.mp hd; rfl
        · obtain ⟨ds, -, rfl⟩ := Option.map_eq_some_iff.mp hd
          simp [PyData.hasDict] at c2
        · cases hd
    · exact hf.elim
  · exact hf.elim
/-! ### texts -/
def allStr : List PV → Option (List Str)
  | [] => some []
  | .str x :: r => (allStr r).map fun ys => x :: ys
  | _ :: _ => none
theorem allStr_of {K : PySem.W.Frag} {ι : List Addr} {H : Hp} : ∀ {xs : List PV} {vs : List V} {ys : List Str}, allStr xs = some ys → RVs K ι H xs vs → vs = ys.map V.str
  | [], _, _, h, .nil => by cases h; rfl
  | x :: xs, _, ys, h, .cons r t => by
    cases x with
    | str y =>
      obtain ⟨zs, h1, rfl⟩ := Option.map_eq_some_iff.mp (show (allStr xs).map _ = some ys from h)
      cases str_of r
      rw [allStr_of h1 t]; rfl
    | _ => cases h
theorem rvs_strs {K : PySem.W.Frag} {ι : List Addr} {H : Hp} : ∀ ys : List Str, RVs K ι H (ys.map PV.str) (ys.map V.str)
  | [] => .nil
  | y :: ys => .cons (.str y) (rvs_strs ys)
section
variable {X : Cx}
def mJoin : FM := fun x args S => match x, args with
  | .str a, [y] => match seqOf y S with
    | some xs => match allStr xs with
      | some ys => if (ys.map (·.length)).sum + ys.length * a.length ≤ 16777216 then some (.str (Txt.join a ys), S) else none
      | none => none
    | none => none
  | _, _ => none
theorem mt_mJoin : MtR X "str.join" (rM X.K mJoin) := by
  intro pins s σ H u us v vs Q I ru rus ⟨ι, S, x, xs, P, rs, rx, rxs, hf, hP⟩
  unfold mJoin at hf
  split at hf
  · rename_i a y
    cases str_of rx
    obtain ⟨w, rfl, q⟩ := rvs1 rxs
    split at hf
    · rename_i zs hz
      obtain ⟨p, ws, rfl, hp, qz⟩ := seqOf_of rs q hz
      split at hf
      · rename_i ys hy
        have e := allStr_of hy qz
        subst e
        obtain ⟨c, h⟩ := opt_ite hf
        refine L2.mt_join pins s σ H _ _ _ _ Q I ru rus ⟨a, p, ys, rfl, rfl, ?_, c, hP _ _ h ι H _ .refl rs (.str _)⟩
        exact hp
      · exact hf.elim
    · exact hf.elim
  · exact hf.elim
def mSplit : FM := fun x args S => match x, args with
  | .str a, [.str b] => if (b.length == 0) = false ∧ a.length + 2 ≤ sizeLine then some (.ref S.length, S ++ [.lst ((Txt.split a b).map .str)]) else none
  | _, _ => none
theorem mt_mSplit : MtR X "str.split" (rM X.K mSplit) := by
  intro pins s σ H u us v vs Q I ru rus ⟨ι, S, x, xs, P, rs, rx, rxs, hf, hP⟩
  unfold mSplit at hf
  split at hf
  · rename_i a b
    cases str_of rx
    obtain ⟨w, rfl, q⟩ := rvs1 rxs
    cases str_of q
    obtain ⟨⟨c1, c2⟩, h⟩ := opt_ite hf
    exact L2.mt_split pins s σ H _ _ _ _ Q I ru rus ⟨a, b, rfl, rfl, c1, c2, fun p hp => new_lst rs (rvs_strs _) hP h p hp⟩
  · exact hf.elim
/-! f-strings -/
def wFmt (w : W) : W := fun env S P => w env S fun x S1 => match x with
  | .str y => y.length ≤ sizeLine ∧ P (.str y) S1
  | .int i => i.natAbs.log2 < 1920 ∧ P (.str (toString i)) S1
  | _ => False
theorem re_fmt {e : Expr} {w : W} {pos : Pos} (h : RE X e w) : RE X (.FormattedValue e (-1) none pos) (wFmt w) := by
  refine ⟨PE.weak (pe_fmt h.pe) fun σ H Q ⟨ι, env, S, P, re, rs, hw, hP⟩ => ⟨ι, env, S, _, re, rs, hw, fun x S1 hx ι1 H1 v e1 rs1 rx => ?_⟩⟩
  split at hx
  · cases str_of rx
    exact .inl ⟨_, rfl, hx.1, hP _ _ hx.2 ι1 H1 _ e1 rs1 (.str _)⟩
  · cases int_of rx
    exact .inr ⟨_, rfl, hx.1, hP _ _ hx.2 ι1 H1 _ e1 rs1 (.str _)⟩
  · exact hx.elim
def wJs : List W → Str → PEnv → Store → (Str → Store → Prop) → Prop
  | [], acc, _, S, P => P acc S
  | w :: ws, acc, env, S, P => w env S fun x S1 => match x with
    | .str y => (acc ++ y).length ≤ sizeLine ∧ wJs ws (acc ++ y) env S1 P
    | _ => False
def wJoined (ws : List W) : W := fun env S P => wJs ws Str.empty env S fun out S1 => P (.str out) S1
inductive RJ (X : Cx) : List Expr → List W → Prop
  | nil : RJ X [] []
  | cons {e : Expr} {w : W} {es : List Expr} {ws : List W} : RE X e w → RJ X es ws → RJ X (e :: es) (w :: ws)
theorem pj_of {es : List Expr} {ws : List W} (h : RJ X es ws) : PJ X es (ws.map (tW X.K)) := by
  induction h with
  | nil => exact .nil
  | cons h _ ih => exact .cons h.pe ih
theorem tJs_of {K : PySem.W.Frag} {σ : LSt} : ∀ (ws : List W) (acc : Str) (ι : List Addr) (env : PEnv) (S : Store) (H : Hp) (P : Str → Store → Prop) (Q : Str → Hp → Prop), REnv K ι H env σ → RS K ι H S → wJs ws acc env S P →
    (∀ out S', P out S' → ∀ ι' H', Ext ι ι' H H' → RS K ι' H' S' → Q out H') → tJs (ws.map (tW K)) acc σ H Q
  | [], acc, ι, env, S, H, P, Q, re, rs, h, hP => hP _ _ h ι H .refl rs
  | w :: ws, acc, ι, env, S, H, P, Q, re, rs, h, hP => by
    refine ⟨ι, env, S, _, re, rs, h, fun x S1 hx ι1 H1 v e1 rs1 rx => ?_⟩
    split at hx
    · cases str_of rx
      exact ⟨_, rfl, hx.1, tJs_of ws _ ι1 env S1 H1 P Q (re.mono e1) rs1 hx.2 fun out S' ho ι' H' e' rs' => hP out S' ho ι' H' (e1.trans e') rs'⟩
    · exact hx.elim
theorem re_joined {v1 v2 : Expr} {rest : List Expr} {ws : List W} {pos : Pos} (h : RJ X (v1 :: v2 :: rest) ws) : RE X (.JoinedStr (v1 :: v2 :: rest) pos) (wJoined ws) :=
  ⟨PE.weak (pe_joined (pj_of h)) fun σ H Q ⟨ι, env, S, P, re, rs, hw, hP⟩ => tJs_of ws _ ι env S H _ _ re rs hw fun out S' ho ι' H' e' rs' => hP _ _ ho ι' H' _ e' rs' (.str _)⟩
theorem re_joined1 {e : Expr} {w : W} {pos : Pos} (h : RE X e w) : RE X (.JoinedStr [e] pos) w := ⟨pe_joined1 h.pe⟩
/-- what is never reached -/
def wNo : WS := fun _ _ _ => False
theorem js_no {st : Stmt} : JS X st wNo := ⟨⟨fun pins s σ H D I ⟨ι, env, S, P, re, rs, hw, hP⟩ => hw.elim⟩⟩
end
end Lt
set_option Elab.async false
set_option linter.all false
set_option maxRecDepth 100000
/-! Lt15: the text's own constants. -/
namespace Lt
open PySem PySem.Spec PyProof.Rows L2
def all2 {α β γ : Type} (f : α → β → Option γ) : List α → List β → Option (List γ)
  | [], [] => some []
  | x :: xs, y :: ys => match f x y, all2 f xs ys with
    | some z, some zs => some (z :: zs)
    | _, _ => none
  | _, _ => none
def rvK (K : PySem.W.Frag) : Nat → PV → Value → Option V
  | 0, _, _ => none
  | n + 1, x, u => match x, u with
    | .int i, .int j _ => if i = j then some (.int i) else none
    | .str y, .str z _ => if y = z then some (.str y) else none
    | .bl b, .bool c => if b = c then some (.bl b) else none
    | .non, .none => some .non
    | .tup xs, .ref a => match K.lookup a with
      | some o => match o.cls, o.data with
        | .type c, .seq its _ => if c = "tuple" ∧ its.size ≤ sizeLine then (all2 (rvK K n) xs its.toList).map fun _ => .ref a else none
        | _, _ => none
      | none => none
    | _, _ => none
theorem all2_of {K : PySem.W.Frag} {f : PV → Value → Option V} (hf : ∀ x u v, f x u = some v → RelV v u ∧ ∀ ι H, RV K ι H x v) : ∀ {xs : List PV} {us : List Value} {vs : List V}, all2 f xs us = some vs → Vals vs us ∧ ∀ ι H, RVs K ι H xs vs
  | [], [], vs, h => by cases h; exact ⟨.nil, fun _ _ => .nil⟩
  | [], _ :: _, vs, h => by cases h
  | _ :: _, [], vs, h => by cases h
  | x :: xs, u :: us, vs, h => by
    unfold all2 at h
    split at h
    · rename_i z zs h1 h2
      cases h
      obtain ⟨a1, a2⟩ := hf x u z h1
      obtain ⟨b1, b2⟩ := all2_of hf h2
      exact ⟨.cons a1 b1, fun ι H => .cons (a2 ι H) (b2 ι H)⟩
    · cases h
theorem rvK_of {K : PySem.W.Frag} : ∀ (n : Nat) (x : PV) (u : Value) (v : V), rvK K n x u = some v → RelV v u ∧ ∀ ι H, RV K ι H x v
  | 0, _, _, _, h => by cases h
  | n + 1, x, u, v, h => by
    unfold rvK at h
    split at h
    · obtain ⟨rfl, e⟩ := ite_some' h; cases e; exact ⟨⟨_, rfl⟩, fun _ _ => .int _⟩
    · obtain ⟨rfl, e⟩ := ite_some' h; cases e; exact ⟨⟨_, rfl⟩, fun _ _ => .str _⟩
    · obtain ⟨rfl, e⟩ := ite_some' h; cases e; exact ⟨rfl, fun _ _ => .bl _⟩
    · cases h; exact ⟨rfl, fun _ _ => .non⟩
    · split at h
      · rename_i o ho
        split at h
        · rename_i c its m hc hd
          obtain ⟨⟨rfl, hz⟩, e⟩ := ite_some2 h
          obtain ⟨us, hu, rfl⟩ := Option.map_eq_some_iff.mp e
          obtain ⟨r1, r2⟩ := all2_of (rvK_of n) hu
          exact ⟨rfl, fun ι H => .tup (.inr ⟨o, its, m, ho, hc, hd, hz, r1⟩) (r2 ι H)⟩
        · cases h
      · cases h
    · cases h
def gcB (K : PySem.W.Frag) (x : Str) (c : PV) : Bool := match PySem.W.nsIn K mainGlobals x with
  | some (some u) => (rvK K 9 c u).isSome
  | _ => false
theorem gc_of {K : PySem.W.Frag} {mg : Str → Option Value} {h : Heap} {x : Str} {c : PV} (X : K.In h) (G : h.Ns mainGlobals mg) (e : gcB K x c = true) : ∀ {Y : Cx}, Y.K = K → Y.mg = mg → GC Y x c := by
  intro Y h1 h2
  unfold gcB at e
  split at e
  · rename_i u hu
    obtain ⟨v, hv⟩ := Option.isSome_iff_exists.mp e
    obtain ⟨r1, r2⟩ := rvK_of _ _ _ _ hv
    exact ⟨u, v, by rw [h2]; exact PySem.W.mg_of X G hu, r1, by rw [h1]; exact r2⟩
  · cases e
end Lt
set_option Elab.async false
set_option linter.all false
set_option maxRecDepth 100000
/-! Lt16: f(). -/
namespace Lt
open PySem PySem.Spec PyProof.Rows L2
theorem re_callee0 {X : Cx} {x : Str} {ps : List Str} {st : Stmt} {k : Nat} {c : Con} {p pos : Pos} (C : Callee X.prog X.w X.K X.mg X.base x ps st k c) (hr : Room k X.A) (hgd : X.A.guards = some [])
    (hx : Passes CX0 X E0) (hg : Gl X x := by rfl) (hdb : (x == ("__debug__" : Str)) = false := by decide) : RE X (.Call (.Name x p) [] [] pos) (wF c wNil) := by
  obtain ⟨f, fd, F, hm, hk, hb, _⟩ := C.ex
  refine ⟨⟨fun pins s σ H Q I ⟨ι, env, S, P, re, rs, hw, hP⟩ => ?_⟩⟩
  refine wpAny_Call_Name_kw (ld_glob I hg hm ?_ hdb)
  have q : spC X.K c [] H Q E0 := spC_of (ι1 := ι) .refl rs .nil hP hw
  have hl : (([] : List Value) ++ []).length = ps.length := F.len _ _ _ _ q
  have hb' := hb s [] I.kIn hl
  exact PySem.W.callWith_K0 I.kIn hk (run_con (args := ⟨[], []⟩) F hr hgd hx I hb' .nil q)
end Lt
set_option Elab.async false
set_option linter.all false
set_option maxRecDepth 100000
set_option maxHeartbeats 4000000
namespace Lw
open PySem PySem.Spec PyProof.Rows L2 Lt
def topS (i : Nat) : Stmt := PySem.Challenge.pw_keptmarks_k14_whole_texts_of_books.main.body.getD i (.Pass ⟨0, 0, 0, 0⟩)
abbrev c_ENTRIES : PV := .tup [.tup [.str "readers", .tup [.str "none", .str "perhaps", .str "sure"]], .tup [.str "further", .tup [.str "none", .str "perhaps", .str "sure"]], .tup [.str "stop", .tup [.str "marked", .str "unraised", .str "never"]], .tup [.str "perhaps", .tup [.str "answer", .str "check", .str "work"]], .tup [.str "sure", .tup [.str "answer", .str "check", .str "work"]], .tup [.str "check", .tup [.str "values", .str "mark"]], .tup [.str "change", .tup [.str "none", .str "sure"]], .tup [.str "write", .tup [.str "first", .str "last", .str "between"]], .tup [.str "strike", .tup [.str "ahead", .str "behind", .str "unless"]], .tup [.str "enter", .tup [.str "ahead", .str "behind"]], .tup [.str "old", .tup [.str "struck", .str "kept"]], .tup [.str "hands", .tup [.str "one", .str "any"]]]
/-- what the text finds at its names -/
structure Txt (K : PySem.W.Frag) (mg : Str → Option Value) : Prop where
  n_abs : mg "abs" = none
  n_enumerate : mg "enumerate" = none
  n_int : mg "int" = none
  n_isinstance : mg "isinstance" = none
  n_len : mg "len" = none
  n_range : mg "range" = none
  n_repr : mg "repr" = none
  n_str : mg "str" = none
  n_tuple : mg "tuple" = none
  n_zip : mg "zip" = none
  c_ENTRIES : ∀ {X : Cx}, X.K = K → X.mg = mg → GC X "ENTRIES" c_ENTRIES
abbrev s_book_text : Stmt := topS 5
abbrev N_book_text : List Str := ["book", "entry", "word"]
abbrev P_book_text : List Str := ["book"]
abbrev s_read_book : Stmt := topS 6
abbrev N_read_book : List Str := ["value", "lines", "book", "place", "name", "words", "word"]
abbrev P_read_book : List Str := ["value"]
abbrev s_entry_line : Stmt := topS 7
abbrev N_entry_line : List Str := ["name", "word"]
abbrev P_entry_line : List Str := ["name", "word"]
abbrev s_read_word : Stmt := topS 8
abbrev N_read_word : List Str := ["line", "name", "words", "word"]
abbrev P_read_word : List Str := ["line", "name", "words"]
abbrev s_law_deck : Stmt := topS 10
abbrev N_law_deck : List Str := ["script", "deck", "cell", "whole", "state"]
abbrev P_law_deck : List Str := ["script"]
abbrev s_law_draw : Stmt := topS 11
abbrev N_law_draw : List Str := ["deck", "many", "one", "two", "whole"]
abbrev P_law_draw : List Str := ["deck", "many"]
abbrev s_law_pick : Stmt := topS 12
abbrev N_law_pick : List Str := ["deck", "items"]
abbrev P_law_pick : List Str := ["deck", "items"]
abbrev s_law_entries : Stmt := topS 13
abbrev N_law_entries : List Str := ["marks", "looks", "found"]
abbrev P_law_entries : List Str := []
abbrev s_law_book : Stmt := topS 14
abbrev N_law_book : List Str := ["deck", "name", "words"]
abbrev P_law_book : List Str := ["deck"]
abbrev s_law_text : Stmt := topS 15
abbrev N_law_text : List Str := ["book", "word", "name", "words"]
abbrev P_law_text : List Str := ["book"]
abbrev s_law_turned : Stmt := topS 16
abbrev N_law_turned : List Str := ["deck", "book", "spot", "words", "word"]
abbrev P_law_turned : List Str := ["deck", "book"]
abbrev s_law : Stmt := topS 17
abbrev N_law : List Str := ["script", "deck", "some", "turn", "known", "texts", "place", "book", "one", "text", "found", "other", "name", "words"]
abbrev P_law : List Str := ["script"]
/-! book_text -/
theorem sc_book_text : FnScope N_book_text P_book_text (defScope s_book_text) := ⟨rfl, rfl, rfl, by decide +kernel, rfl, by decide +kernel, by decide +kernel⟩
def b_book_text (c_entry_line : Con) : WS :=
  (wRet (wM "str" mJoin (wC (.str "\n")) (wCons (wLc (wZipM (wCons (wC c_ENTRIES) (wCons (wVar 0) wNil))) (gT (gsC (gN 1) (gsC (gN 2) gsN))) wYes (wF c_entry_line (wCons (wOp fIx (wVar 1) (wC (.int 0))) (wCons (wVar 2) wNil))) [1, 2]) wNil)))
theorem jb_book_text {P : Program} {w : World} {K : PySem.W.Frag} {mg : Str → Option Value} {base : Heap} (T : Txt K mg) {k : Nat} {c_entry_line : Con} {k_entry_line : Nat} (C_entry_line : Callee P w K mg base "entry_line" P_entry_line s_entry_line k_entry_line c_entry_line) (l_entry_line : k_entry_line ≤ k)
    (f : Addr) (cdv : Value) (A : Around) (outer : List Env) (s : Shared) (H : Hp) (E : XK) (hr : Room k (A.deeper (envOfC "book_text" (defScope s_book_text) s.heap.objs.size f cdv))) (hgd : A.guards = some []) :
    JB (cxOf CX0 P w K mg base N_book_text "book_text" (defScope s_book_text) f cdv A outer s H E).nox (defBody s_book_text) (b_book_text c_entry_line) := by
  have scND := sc_book_text.nd
  exact (jb_one (js_ret (re_m PySem.F.plainAttrs_str PySem.F.slot_str_join PySem.F.type_str_join mt_mJoin re_str (ra_cons (re_lc (own := [("entry", 1), ("word", 2)]) rfl scND (ri_zipM rfl T.n_zip (ra_cons (re_glob (T.c_ENTRIES rfl rfl) rfl) (ra_cons (re_var 0) ra_nil))) (blkOk_by (N := N_book_text) (sc := defScope s_book_text) (by decide +kernel)) (by decide) (fun _ _ _ _ _ => (rg_tup rfl (rgs_cons (rg_name 1 scND) (rgs_cons (rg_name 2 scND) rgs_nil)))) (fun _ _ _ _ _ => rts_nil) (fun _ _ _ _ _ => (re_callee C_entry_line (hr.mono l_entry_line) hgd (ra_cons (re_ix (re_var 1) re_int) (ra_cons (re_var 2) ra_nil)) pass0))) ra_nil))))
/-! read_book -/
theorem sc_read_book : FnScope N_read_book P_read_book (defScope s_read_book) := ⟨rfl, rfl, rfl, by decide +kernel, rfl, by decide +kernel, by decide +kernel⟩
def b_read_book (c_read_word : Con) : WS :=
  (wSq (wIfS (wNot (wTru (wCall bIsi (wCons (wVar 0) (wCons (wC (.ty "str")) wNil))))) wNo wNx)
    (wSq (wSet 1 (wM "str" mSplit (wVar 0) (wCons (wC (.str "\n")) wNil)))
    (wSq (wSet 2 (wLst wNil))
    (wSq (wFor (wEnumA (wCons (wC c_ENTRIES) wNil)) (gT (gsC (gN 3) (gsC (gT (gsC (gN 4) (gsC (gN 5) gsN))) gsN))) (wSq (wSet 6 (wIf (wB (wOp fLt (wVar 3) (wCall bLen (wCons (wVar 1) wNil)))) (wF c_read_word (wCons (wOp fIx (wVar 1) (wVar 3)) (wCons (wVar 4) (wCons (wVar 5) wNil)))) (wC .non)))
    (wSq (wIfS (wB (wOp fIs (wVar 6) (wC .non))) wNo wNx)
    (wDrop (wM "list" (onL gAppend) (wVar 2) (wCons (wVar 6) wNil))))))
    (wSq (wIfS (wB (wOp fGt (wCall bLen (wCons (wVar 1) wNil)) (wCall bLen (wCons (wC c_ENTRIES) wNil)))) wNo wNx)
    (wRet (wCall bTuple (wCons (wVar 2) wNil))))))))
theorem jb_read_book {P : Program} {w : World} {K : PySem.W.Frag} {mg : Str → Option Value} {base : Heap} (T : Txt K mg) {k : Nat} {c_read_word : Con} {k_read_word : Nat} (C_read_word : Callee P w K mg base "read_word" P_read_word s_read_word k_read_word c_read_word) (l_read_word : k_read_word ≤ k)
    (f : Addr) (cdv : Value) (A : Around) (outer : List Env) (s : Shared) (H : Hp) (E : XK) (hr : Room k (A.deeper (envOfC "read_book" (defScope s_read_book) s.heap.objs.size f cdv))) (hgd : A.guards = some []) :
    JB (cxOf CX0 P w K mg base N_read_book "read_book" (defScope s_read_book) f cdv A outer s H E).nox (defBody s_read_book) (b_read_book c_read_word) := by
  have scND := sc_read_book.nd
  exact (jb_cons (js_if (rt_not (rt_tru (re_callB call_bIsi rfl T.n_isinstance bt_isinstance (ra_cons (re_var 0) (ra_cons (re_type (T := "str") rfl T.n_str bt_str) ra_nil))))) (jb_one js_no) jb_nil)
    (jb_cons (js_set 1 scND (re_m PySem.F.plainAttrs_str PySem.F.slot_str_split PySem.F.type_str_split mt_mSplit (re_var 0) (ra_cons re_str ra_nil)))
    (jb_cons (js_set 2 scND (re_lst ra_nil))
    (jb_cons (js_for PassesOwn.never rfl (ri_enumA rfl T.n_enumerate (ra_cons (re_glob (T.c_ENTRIES rfl rfl) rfl) ra_nil)) (rg_tup rfl (rgs_cons (rg_name 3 scND) (rgs_cons (rg_tup rfl (rgs_cons (rg_name 4 scND) (rgs_cons (rg_name 5 scND) rgs_nil))) rgs_nil))) (jb_cons (js_set 6 scND (re_if (rt_cmp op_fLt (re_var 3) (re_callB call_bLen rfl T.n_len bt_len (ra_cons (re_var 1) ra_nil)) (by rfl)) (re_callee C_read_word (hr.mono l_read_word) hgd (ra_cons (re_ix (re_var 1) (re_var 3)) (ra_cons (re_var 4) (ra_cons (re_var 5) ra_nil))) pass0) re_non))
    (jb_cons (js_if (rt_cmp op_fIs (re_var 6) re_non (by rfl)) (jb_one js_no) jb_nil)
    (jb_one (js_expr (re_m PySem.F.plainAttrs_list PySem.F.slot_list_append PySem.F.type_list_append mt_gAppend (re_var 2) (ra_cons (re_var 6) ra_nil)))))))
    (jb_cons (js_if (rt_cmp op_fGt (re_callB call_bLen rfl T.n_len bt_len (ra_cons (re_var 1) ra_nil)) (re_callB call_bLen rfl T.n_len bt_len (ra_cons (re_glob (T.c_ENTRIES rfl rfl) rfl) ra_nil)) (by rfl)) (jb_one js_no) jb_nil)
    (jb_one (js_ret (re_callTy call_bTuple rfl T.n_tuple bt_tuple (ra_cons (re_var 2) ra_nil)))))))))
/-! entry_line -/
theorem sc_entry_line : FnScope N_entry_line P_entry_line (defScope s_entry_line) := ⟨rfl, rfl, rfl, by decide +kernel, rfl, by decide +kernel, by decide +kernel⟩
def b_entry_line : WS :=
  (wRet (wJoined [(wFmt (wVar 0)), (wC (.str " ")), (wFmt (wVar 1))]))
theorem jb_entry_line {P : Program} {w : World} {K : PySem.W.Frag} {mg : Str → Option Value} {base : Heap} (T : Txt K mg) {k : Nat}
    (f : Addr) (cdv : Value) (A : Around) (outer : List Env) (s : Shared) (H : Hp) (E : XK) (hr : Room k (A.deeper (envOfC "entry_line" (defScope s_entry_line) s.heap.objs.size f cdv))) (hgd : A.guards = some []) :
    JB (cxOf CX0 P w K mg base N_entry_line "entry_line" (defScope s_entry_line) f cdv A outer s H E).nox (defBody s_entry_line) (b_entry_line) := by
  have scND := sc_entry_line.nd
  exact (jb_one (js_ret (re_joined (RJ.cons (re_fmt (re_var 0)) (RJ.cons re_str (RJ.cons (re_fmt (re_var 1)) RJ.nil))))))
/-! read_word -/
theorem sc_read_word : FnScope N_read_word P_read_word (defScope s_read_word) := ⟨rfl, rfl, rfl, by decide +kernel, rfl, by decide +kernel, by decide +kernel⟩
def b_read_word (c_entry_line : Con) : WS :=
  (wSq (wFor (wSeqI (wVar 2)) (gN 3) (wIfS (wB (wOp fEq (wVar 0) (wF c_entry_line (wCons (wVar 1) (wCons (wVar 3) wNil))))) (wRet (wVar 3)) wNx))
    (wRet (wC .non)))
theorem jb_read_word {P : Program} {w : World} {K : PySem.W.Frag} {mg : Str → Option Value} {base : Heap} (T : Txt K mg) {k : Nat} {c_entry_line : Con} {k_entry_line : Nat} (C_entry_line : Callee P w K mg base "entry_line" P_entry_line s_entry_line k_entry_line c_entry_line) (l_entry_line : k_entry_line ≤ k)
    (f : Addr) (cdv : Value) (A : Around) (outer : List Env) (s : Shared) (H : Hp) (E : XK) (hr : Room k (A.deeper (envOfC "read_word" (defScope s_read_word) s.heap.objs.size f cdv))) (hgd : A.guards = some []) :
    JB (cxOf CX0 P w K mg base N_read_word "read_word" (defScope s_read_word) f cdv A outer s H E).nox (defBody s_read_word) (b_read_word c_entry_line) := by
  have scND := sc_read_word.nd
  exact (jb_cons (js_for PassesOwn.never rfl (ri_seq (re_var 2)) (rg_name 3 scND) (jb_one (js_if (rt_cmp (op_fEq hr.units) (re_var 0) (re_callee C_entry_line (hr.mono l_entry_line) hgd (ra_cons (re_var 1) (ra_cons (re_var 3) ra_nil)) pass0) (by rfl)) (jb_one (js_ret (re_var 3))) jb_nil)))
    (jb_one (js_ret re_non)))
/-! _law_deck -/
theorem sc_law_deck : FnScope N_law_deck P_law_deck (defScope s_law_deck) := ⟨rfl, rfl, rfl, by decide +kernel, rfl, by decide +kernel, by decide +kernel⟩
def b_law_deck : WS :=
  (wSq (wSet 1 (wDict [((.inr "deep"), (wLst wNil)), ((.inr "state"), (wOp fAdd (wC (.int 1572314)) (wCall bLen (wCons (wSl (wVar 0) wNoP (wP (wC (.int 63)))) wNil))))]))
    (wSq (wFor (wSeqI (wSl (wVar 0) wNoP (wP (wC (.int 63))))) (gN 2) (wSq (wSet 3 (wCall bAbs (wCons (wVar 2) wNil)))
    (wSq (wIfS (wB (wOp fGe (wVar 3) (wOp (fI gPow) (wC (.int 10)) (wC (.int 18))))) (wDPut (wVar 1) (wC (.str "deep")) (wOp fAdd (wLst (wCons (wVar 3) wNil)) (wOp fGet (wVar 1) (wC (.str "deep"))))) wNx)
    (wSq (wSet 4 (wOp fAdd (wOp (fI gMul) (wOp fAdd (wOp fAdd (wOp fAdd (wOp fGet (wVar 1) (wC (.str "state"))) (wOp (fI gMul) (wC (.int 2)) (wVar 3))) (wCall bInt (wCons (wOp fLt (wVar 2) (wC (.int 0))) wNil))) (wC (.int 1))) (wC (.int 1181783497276652981))) (wC (.int 521288629))))
    (wDPut (wVar 1) (wC (.str "state")) (wOp (fI gMod) (wCall bInt (wCons (wVar 4) wNil)) (wC (.int 2305843009213693951))))))))
    (wRet (wVar 1))))
theorem jb_law_deck {P : Program} {w : World} {K : PySem.W.Frag} {mg : Str → Option Value} {base : Heap} (T : Txt K mg) {k : Nat}
    (f : Addr) (cdv : Value) (A : Around) (outer : List Env) (s : Shared) (H : Hp) (E : XK) (hr : Room k (A.deeper (envOfC "_law_deck" (defScope s_law_deck) s.heap.objs.size f cdv))) (hgd : A.guards = some []) :
    JB (cxOf CX0 P w K mg base N_law_deck "_law_deck" (defScope s_law_deck) f cdv A outer s H E).nox (defBody s_law_deck) (b_law_deck) := by
  have scND := sc_law_deck.nd
  exact (jb_cons (js_set 1 scND (re_dict (RPs.cons (k := (.inr "deep")) (re_lst ra_nil) (RPs.cons (k := (.inr "state")) (re_bin op_fAdd re_int (re_callB call_bLen rfl T.n_len bt_len (ra_cons (re_slice (re_var 0) ro_none (ro_some re_int)) ra_nil))) RPs.nil))))
    (jb_cons (js_for PassesOwn.never rfl (ri_seq (re_slice (re_var 0) ro_none (ro_some re_int))) (rg_name 2 scND) (jb_cons (js_set 3 scND (re_callB call_bAbs rfl T.n_abs bt_abs (ra_cons (re_var 2) ra_nil)))
    (jb_cons (js_if (rt_cmp op_fGe (re_var 3) (re_bin op_fPow re_int re_int) (by rfl)) (jb_one (js_dput (hu_of hr) (re_bin op_fAdd (re_lst (ra_cons (re_var 3) ra_nil)) (re_dget (hu_of hr) (re_var 1) re_str)) (re_var 1) re_str)) jb_nil)
    (jb_cons (js_set 4 scND (re_bin op_fAdd (re_bin op_fMul (re_bin op_fAdd (re_bin op_fAdd (re_bin op_fAdd (re_dget (hu_of hr) (re_var 1) re_str) (re_bin op_fMul re_int (re_var 3))) (re_callTy call_bInt rfl T.n_int bt_int (ra_cons (re_cmp op_fLt (re_var 2) re_int (by rfl)) ra_nil))) re_int) re_int) re_int))
    (jb_one (js_dput (hu_of hr) (re_bin op_fMod (re_callTy call_bInt rfl T.n_int bt_int (ra_cons (re_var 4) ra_nil)) re_int) (re_var 1) re_str))))))
    (jb_one (js_ret (re_var 1)))))
/-! _law_draw -/
theorem sc_law_draw : FnScope N_law_draw P_law_draw (defScope s_law_draw) := ⟨rfl, rfl, rfl, by decide +kernel, rfl, by decide +kernel, by decide +kernel⟩
def b_law_draw : WS :=
  (wSq (wIfS (wB (wOp fLt (wVar 1) (wC (.int 2)))) (wRet (wC (.int 0))) wNx)
    (wSq (wIfS (wB (wOp fNe (wOp fGet (wVar 0) (wC (.str "deep"))) (wLst wNil))) (wSq (wSet 4 (wM0 "list" (onL gPop) (wOp fGet (wVar 0) (wC (.str "deep")))))
    (wSq (wIfS (wB (wOp fGe (wVar 4) (wVar 1))) (wDrop (wM "list" (onL gAppend) (wOp fGet (wVar 0) (wC (.str "deep"))) (wCons (wOp (fI gDiv) (wVar 4) (wVar 1)) wNil))) wNx)
    (wRet (wOp (fI gMod) (wCall bInt (wCons (wVar 4) wNil)) (wVar 1))))) wNx)
    (wSq (wSet 2 (wOp (fI gMod) (wCall bInt (wCons (wOp fAdd (wOp (fI gMul) (wOp fGet (wVar 0) (wC (.str "state"))) (wC (.int 1181783497276652981))) (wC (.int 88172645463325))) wNil)) (wC (.int 2305843009213693951))))
    (wSq (wDPut (wVar 0) (wC (.str "state")) (wVar 2))
    (wSq (wSet 3 (wOp (fI gMod) (wCall bInt (wCons (wOp fAdd (wOp fAdd (wOp (fI gMul) (wVar 2) (wVar 2)) (wOp (fI gMul) (wC (.int 374761393)) (wVar 2))) (wC (.int 11))) wNil)) (wC (.int 2305843009213693921))))
    (wRet (wOp (fI gMod) (wCall bInt (wCons (wOp (fI gDiv) (wVar 3) (wC (.int 1048576))) wNil)) (wVar 1))))))))
theorem jb_law_draw {P : Program} {w : World} {K : PySem.W.Frag} {mg : Str → Option Value} {base : Heap} (T : Txt K mg) {k : Nat}
    (f : Addr) (cdv : Value) (A : Around) (outer : List Env) (s : Shared) (H : Hp) (E : XK) (hr : Room k (A.deeper (envOfC "_law_draw" (defScope s_law_draw) s.heap.objs.size f cdv))) (hgd : A.guards = some []) :
    JB (cxOf CX0 P w K mg base N_law_draw "_law_draw" (defScope s_law_draw) f cdv A outer s H E).nox (defBody s_law_draw) (b_law_draw) := by
  have scND := sc_law_draw.nd
  exact (jb_cons (js_if (rt_cmp op_fLt (re_var 1) re_int (by rfl)) (jb_one (js_ret re_int)) jb_nil)
    (jb_cons (js_if (rt_cmp (op_fNe hr.units) (re_dget (hu_of hr) (re_var 0) re_str) (re_lst ra_nil) (by rfl)) (jb_cons (js_set 4 scND (re_m0 PySem.F.plainAttrs_list PySem.F.slot_list_pop PySem.F.type_list_pop mt_gPop (re_dget (hu_of hr) (re_var 0) re_str)))
    (jb_cons (js_if (rt_cmp op_fGe (re_var 4) (re_var 1) (by rfl)) (jb_one (js_expr (re_m PySem.F.plainAttrs_list PySem.F.slot_list_append PySem.F.type_list_append mt_gAppend (re_dget (hu_of hr) (re_var 0) re_str) (ra_cons (re_bin op_fDiv (re_var 4) (re_var 1)) ra_nil)))) jb_nil)
    (jb_one (js_ret (re_bin op_fMod (re_callTy call_bInt rfl T.n_int bt_int (ra_cons (re_var 4) ra_nil)) (re_var 1)))))) jb_nil)
    (jb_cons (js_set 2 scND (re_bin op_fMod (re_callTy call_bInt rfl T.n_int bt_int (ra_cons (re_bin op_fAdd (re_bin op_fMul (re_dget (hu_of hr) (re_var 0) re_str) re_int) re_int) ra_nil)) re_int))
    (jb_cons (js_dput (hu_of hr) (re_var 2) (re_var 0) re_str)
    (jb_cons (js_set 3 scND (re_bin op_fMod (re_callTy call_bInt rfl T.n_int bt_int (ra_cons (re_bin op_fAdd (re_bin op_fAdd (re_bin op_fMul (re_var 2) (re_var 2)) (re_bin op_fMul re_int (re_var 2))) re_int) ra_nil)) re_int))
    (jb_one (js_ret (re_bin op_fMod (re_callTy call_bInt rfl T.n_int bt_int (ra_cons (re_bin op_fDiv (re_var 3) re_int) ra_nil)) (re_var 1)))))))))
/-! _law_pick -/
theorem sc_law_pick : FnScope N_law_pick P_law_pick (defScope s_law_pick) := ⟨rfl, rfl, rfl, by decide +kernel, rfl, by decide +kernel, by decide +kernel⟩
def b_law_pick (c_law_draw : Con) : WS :=
  (wRet (wOp fIx (wVar 1) (wF c_law_draw (wCons (wVar 0) (wCons (wCall bLen (wCons (wVar 1) wNil)) wNil)))))
theorem jb_law_pick {P : Program} {w : World} {K : PySem.W.Frag} {mg : Str → Option Value} {base : Heap} (T : Txt K mg) {k : Nat} {c_law_draw : Con} {k_law_draw : Nat} (C_law_draw : Callee P w K mg base "_law_draw" P_law_draw s_law_draw k_law_draw c_law_draw) (l_law_draw : k_law_draw ≤ k)
    (f : Addr) (cdv : Value) (A : Around) (outer : List Env) (s : Shared) (H : Hp) (E : XK) (hr : Room k (A.deeper (envOfC "_law_pick" (defScope s_law_pick) s.heap.objs.size f cdv))) (hgd : A.guards = some []) :
    JB (cxOf CX0 P w K mg base N_law_pick "_law_pick" (defScope s_law_pick) f cdv A outer s H E).nox (defBody s_law_pick) (b_law_pick c_law_draw) := by
  have scND := sc_law_pick.nd
  exact (jb_one (js_ret (re_ix (re_var 1) (re_callee C_law_draw (hr.mono l_law_draw) hgd (ra_cons (re_var 0) (ra_cons (re_callB call_bLen rfl T.n_len bt_len (ra_cons (re_var 1) ra_nil)) ra_nil)) pass0))))
/-! _law_entries -/
theorem sc_law_entries : FnScope N_law_entries P_law_entries (defScope s_law_entries) := ⟨rfl, rfl, rfl, by decide +kernel, rfl, by decide +kernel, by decide +kernel⟩
def b_law_entries : WS :=
  (wSq (wPar 0 1 (wCons (wLst (wCons (wC (.str "none")) (wCons (wC (.str "perhaps")) (wCons (wC (.str "sure")) wNil)))) (wCons (wLst (wCons (wC (.str "answer")) (wCons (wC (.str "check")) (wCons (wC (.str "work")) wNil)))) wNil)))
    (wSq (wSet 2 (wLst (wCons (wTup (wCons (wC (.str "readers")) (wCons (wVar 0) wNil))) (wCons (wTup (wCons (wC (.str "further")) (wCons (wVar 0) wNil))) (wCons (wTup (wCons (wC (.str "stop")) (wCons (wLst (wCons (wC (.str "marked")) (wCons (wC (.str "unraised")) (wCons (wC (.str "never")) wNil)))) wNil))) (wCons (wTup (wCons (wC (.str "perhaps")) (wCons (wVar 1) wNil))) wNil))))))
    (wSq (wSet 2 (wOp fAdd (wVar 2) (wLst (wCons (wTup (wCons (wC (.str "sure")) (wCons (wVar 1) wNil))) (wCons (wTup (wCons (wC (.str "check")) (wCons (wLst (wCons (wC (.str "values")) (wCons (wC (.str "mark")) wNil))) wNil))) (wCons (wTup (wCons (wC (.str "change")) (wCons (wLst (wCons (wC (.str "none")) (wCons (wC (.str "sure")) wNil))) wNil))) wNil))))))
    (wSq (wSet 2 (wOp fAdd (wVar 2) (wLst (wCons (wTup (wCons (wC (.str "write")) (wCons (wLst (wCons (wC (.str "first")) (wCons (wC (.str "last")) (wCons (wC (.str "between")) wNil)))) wNil))) (wCons (wTup (wCons (wC (.str "strike")) (wCons (wLst (wCons (wC (.str "ahead")) (wCons (wC (.str "behind")) (wCons (wC (.str "unless")) wNil)))) wNil))) wNil)))))
    (wRet (wOp fAdd (wVar 2) (wLst (wCons (wTup (wCons (wC (.str "enter")) (wCons (wLst (wCons (wC (.str "ahead")) (wCons (wC (.str "behind")) wNil))) wNil))) (wCons (wTup (wCons (wC (.str "old")) (wCons (wLst (wCons (wC (.str "struck")) (wCons (wC (.str "kept")) wNil))) wNil))) (wCons (wTup (wCons (wC (.str "hands")) (wCons (wLst (wCons (wC (.str "one")) (wCons (wC (.str "any")) wNil))) wNil))) wNil))))))))))
theorem jb_law_entries {P : Program} {w : World} {K : PySem.W.Frag} {mg : Str → Option Value} {base : Heap} (T : Txt K mg) {k : Nat}
    (f : Addr) (cdv : Value) (A : Around) (outer : List Env) (s : Shared) (H : Hp) (E : XK) (hr : Room k (A.deeper (envOfC "_law_entries" (defScope s_law_entries) s.heap.objs.size f cdv))) (hgd : A.guards = some []) :
    JB (cxOf CX0 P w K mg base N_law_entries "_law_entries" (defScope s_law_entries) f cdv A outer s H E).nox (defBody s_law_entries) (b_law_entries) := by
  have scND := sc_law_entries.nd
  exact (jb_cons (js_par 0 1 rfl scND (ra_cons (re_lst (ra_cons re_str (ra_cons re_str (ra_cons re_str ra_nil)))) (ra_cons (re_lst (ra_cons re_str (ra_cons re_str (ra_cons re_str ra_nil)))) ra_nil)))
    (jb_cons (js_set 2 scND (re_lst (ra_cons (re_tup (ra_cons re_str (ra_cons (re_var 0) ra_nil))) (ra_cons (re_tup (ra_cons re_str (ra_cons (re_var 0) ra_nil))) (ra_cons (re_tup (ra_cons re_str (ra_cons (re_lst (ra_cons re_str (ra_cons re_str (ra_cons re_str ra_nil)))) ra_nil))) (ra_cons (re_tup (ra_cons re_str (ra_cons (re_var 1) ra_nil))) ra_nil))))))
    (jb_cons (js_set 2 scND (re_bin op_fAdd (re_var 2) (re_lst (ra_cons (re_tup (ra_cons re_str (ra_cons (re_var 1) ra_nil))) (ra_cons (re_tup (ra_cons re_str (ra_cons (re_lst (ra_cons re_str (ra_cons re_str ra_nil))) ra_nil))) (ra_cons (re_tup (ra_cons re_str (ra_cons (re_lst (ra_cons re_str (ra_cons re_str ra_nil))) ra_nil))) ra_nil))))))
    (jb_cons (js_set 2 scND (re_bin op_fAdd (re_var 2) (re_lst (ra_cons (re_tup (ra_cons re_str (ra_cons (re_lst (ra_cons re_str (ra_cons re_str (ra_cons re_str ra_nil)))) ra_nil))) (ra_cons (re_tup (ra_cons re_str (ra_cons (re_lst (ra_cons re_str (ra_cons re_str (ra_cons re_str ra_nil)))) ra_nil))) ra_nil)))))
    (jb_one (js_ret (re_bin op_fAdd (re_var 2) (re_lst (ra_cons (re_tup (ra_cons re_str (ra_cons (re_lst (ra_cons re_str (ra_cons re_str ra_nil))) ra_nil))) (ra_cons (re_tup (ra_cons re_str (ra_cons (re_lst (ra_cons re_str (ra_cons re_str ra_nil))) ra_nil))) (ra_cons (re_tup (ra_cons re_str (ra_cons (re_lst (ra_cons re_str (ra_cons re_str ra_nil))) ra_nil))) ra_nil)))))))))))
/-! _law_book -/
theorem sc_law_book : FnScope N_law_book P_law_book (defScope s_law_book) := ⟨rfl, rfl, rfl, by decide +kernel, rfl, by decide +kernel, by decide +kernel⟩
def b_law_book (c_law_entries : Con) (c_law_pick : Con) : WS :=
  (wRet (wCall bTuple (wCons (wLc (wSeqI (wF c_law_entries wNil)) (gT (gsC (gN 1) (gsC (gN 2) gsN))) wYes (wF c_law_pick (wCons (wVar 0) (wCons (wVar 2) wNil))) [1, 2]) wNil)))
theorem jb_law_book {P : Program} {w : World} {K : PySem.W.Frag} {mg : Str → Option Value} {base : Heap} (T : Txt K mg) {k : Nat} {c_law_entries : Con} {k_law_entries : Nat} (C_law_entries : Callee P w K mg base "_law_entries" P_law_entries s_law_entries k_law_entries c_law_entries) (l_law_entries : k_law_entries ≤ k) {c_law_pick : Con} {k_law_pick : Nat} (C_law_pick : Callee P w K mg base "_law_pick" P_law_pick s_law_pick k_law_pick c_law_pick) (l_law_pick : k_law_pick ≤ k)
    (f : Addr) (cdv : Value) (A : Around) (outer : List Env) (s : Shared) (H : Hp) (E : XK) (hr : Room k (A.deeper (envOfC "_law_book" (defScope s_law_book) s.heap.objs.size f cdv))) (hgd : A.guards = some []) :
    JB (cxOf CX0 P w K mg base N_law_book "_law_book" (defScope s_law_book) f cdv A outer s H E).nox (defBody s_law_book) (b_law_book c_law_entries c_law_pick) := by
  have scND := sc_law_book.nd
  exact (jb_one (js_ret (re_callTy call_bTuple rfl T.n_tuple bt_tuple (ra_cons (re_lc (own := [("name", 1), ("words", 2)]) rfl scND (ri_seq (re_callee0 C_law_entries (hr.mono l_law_entries) hgd pass0)) (blkOk_by (N := N_law_book) (sc := defScope s_law_book) (by decide +kernel)) (by decide) (fun _ _ _ _ _ => (rg_tup rfl (rgs_cons (rg_name 1 scND) (rgs_cons (rg_name 2 scND) rgs_nil)))) (fun _ _ _ _ _ => rts_nil) (fun _ _ _ _ _ => (re_callee C_law_pick (hr.mono l_law_pick) hgd (ra_cons (re_var 0) (ra_cons (re_var 2) ra_nil)) pass0))) ra_nil))))
/-! _law_text -/
theorem sc_law_text : FnScope N_law_text P_law_text (defScope s_law_text) := ⟨rfl, rfl, rfl, by decide +kernel, rfl, by decide +kernel, by decide +kernel⟩
def b_law_text (c_law_entries : Con) : WS :=
  (wRet (wM "str" mJoin (wC (.str "\n")) (wCons (wLc (wZipM (wCons (wVar 0) (wCons (wF c_law_entries wNil) wNil))) (gT (gsC (gN 1) (gsC (gT (gsC (gN 2) (gsC (gN 3) gsN))) gsN))) wYes (wOp fAdd (wOp fAdd (wVar 2) (wC (.str " "))) (wVar 1)) [1, 2, 3]) wNil)))
theorem jb_law_text {P : Program} {w : World} {K : PySem.W.Frag} {mg : Str → Option Value} {base : Heap} (T : Txt K mg) {k : Nat} {c_law_entries : Con} {k_law_entries : Nat} (C_law_entries : Callee P w K mg base "_law_entries" P_law_entries s_law_entries k_law_entries c_law_entries) (l_law_entries : k_law_entries ≤ k)
    (f : Addr) (cdv : Value) (A : Around) (outer : List Env) (s : Shared) (H : Hp) (E : XK) (hr : Room k (A.deeper (envOfC "_law_text" (defScope s_law_text) s.heap.objs.size f cdv))) (hgd : A.guards = some []) :
    JB (cxOf CX0 P w K mg base N_law_text "_law_text" (defScope s_law_text) f cdv A outer s H E).nox (defBody s_law_text) (b_law_text c_law_entries) := by
  have scND := sc_law_text.nd
  exact (jb_one (js_ret (re_m PySem.F.plainAttrs_str PySem.F.slot_str_join PySem.F.type_str_join mt_mJoin re_str (ra_cons (re_lc (own := [("word", 1), ("name", 2), ("words", 3)]) rfl scND (ri_zipM rfl T.n_zip (ra_cons (re_var 0) (ra_cons (re_callee0 C_law_entries (hr.mono l_law_entries) hgd pass0) ra_nil))) (blkOk_by (N := N_law_text) (sc := defScope s_law_text) (by decide +kernel)) (by decide) (fun _ _ _ _ _ => (rg_tup rfl (rgs_cons (rg_name 1 scND) (rgs_cons (rg_tup rfl (rgs_cons (rg_name 2 scND) (rgs_cons (rg_name 3 scND) rgs_nil))) rgs_nil)))) (fun _ _ _ _ _ => rts_nil) (fun _ _ _ _ _ => (re_bin op_fAdd (re_bin op_fAdd (re_var 2) re_str) (re_var 1)))) ra_nil))))
/-! _law_turned -/
theorem sc_law_turned : FnScope N_law_turned P_law_turned (defScope s_law_turned) := ⟨rfl, rfl, rfl, by decide +kernel, rfl, by decide +kernel, by decide +kernel⟩
def b_law_turned (c_law_draw : Con) (c_law_entries : Con) (c_law_pick : Con) : WS :=
  (wSq (wSet 2 (wF c_law_draw (wCons (wVar 0) (wCons (wC (.int 12)) wNil))))
    (wSq (wSet 3 (wLc (wSeqI (wOp fIx (wOp fIx (wF c_law_entries wNil) (wVar 2)) (wC (.int 1)))) (gN 4) (wB (wOp fNe (wVar 4) (wOp fIx (wVar 1) (wVar 2)))) (wVar 4) [4]))
    (wRet (wOp fAdd (wOp fAdd (wSl (wVar 1) wNoP (wP (wVar 2))) (wTup (wCons (wF c_law_pick (wCons (wVar 0) (wCons (wVar 3) wNil))) wNil))) (wSl (wVar 1) (wP (wOp fAdd (wVar 2) (wC (.int 1)))) wNoP)))))
theorem jb_law_turned {P : Program} {w : World} {K : PySem.W.Frag} {mg : Str → Option Value} {base : Heap} (T : Txt K mg) {k : Nat} {c_law_draw : Con} {k_law_draw : Nat} (C_law_draw : Callee P w K mg base "_law_draw" P_law_draw s_law_draw k_law_draw c_law_draw) (l_law_draw : k_law_draw ≤ k) {c_law_entries : Con} {k_law_entries : Nat} (C_law_entries : Callee P w K mg base "_law_entries" P_law_entries s_law_entries k_law_entries c_law_entries) (l_law_entries : k_law_entries ≤ k) {c_law_pick : Con} {k_law_pick : Nat} (C_law_pick : Callee P w K mg base "_law_pick" P_law_pick s_law_pick k_law_pick c_law_pick) (l_law_pick : k_law_pick ≤ k)
    (f : Addr) (cdv : Value) (A : Around) (outer : List Env) (s : Shared) (H : Hp) (E : XK) (hr : Room k (A.deeper (envOfC "_law_turned" (defScope s_law_turned) s.heap.objs.size f cdv))) (hgd : A.guards = some []) :
    JB (cxOf CX0 P w K mg base N_law_turned "_law_turned" (defScope s_law_turned) f cdv A outer s H E).nox (defBody s_law_turned) (b_law_turned c_law_draw c_law_entries c_law_pick) := by
  have scND := sc_law_turned.nd
  exact (jb_cons (js_set 2 scND (re_callee C_law_draw (hr.mono l_law_draw) hgd (ra_cons (re_var 0) (ra_cons re_int ra_nil)) pass0))
    (jb_cons (js_setLc 3 (own := [("word", 4)]) rfl scND (ri_seq (re_ix (re_ix (re_callee0 C_law_entries (hr.mono l_law_entries) hgd pass0) (re_var 2)) re_int)) (blkOk_by (N := N_law_turned) (sc := defScope s_law_turned) (by decide +kernel)) (by decide) (sw_true rfl rfl rfl (by decide +kernel)) (fun _ _ _ _ _ => (rg_name 4 scND)) (fun _ _ _ _ _ => (rts_one (rt_cmp (op_fNe hr.units) (re_var 4) (re_ix (re_var 1) (re_var 2)) (by rfl)))) (fun _ _ _ _ _ => (re_var 4)))
    (jb_one (js_ret (re_bin op_fAdd (re_bin op_fAdd (re_slice (re_var 1) ro_none (ro_some (re_var 2))) (re_tup (ra_cons (re_callee C_law_pick (hr.mono l_law_pick) hgd (ra_cons (re_var 0) (ra_cons (re_var 3) ra_nil)) pass0) ra_nil))) (re_slice (re_var 1) (ro_some (re_bin op_fAdd (re_var 2) re_int)) ro_none))))))
/-! law -/
theorem sc_law : FnScope N_law P_law (defScope s_law) := ⟨rfl, rfl, rfl, by decide +kernel, rfl, by decide +kernel, by decide +kernel⟩
def b_law (c_law_deck : Con) (c_law_entries : Con) (c_law_book : Con) (c_law_turned : Con) (c_book_text : Con) (c_law_text : Con) (c_read_book : Con) : WS :=
  (wSq (wSet 1 (wF c_law_deck (wCons (wVar 0) wNil)))
    (wSq (wSet 2 (wLst (wCons (wCall bTuple (wCons (wLc (wSeqI (wF c_law_entries wNil)) (gT (gsC (gN 12) (gsC (gN 13) gsN))) wYes (wOp fIx (wVar 13) (wC (.int 0))) [12, 13]) wNil)) (wCons (wCall bTuple (wCons (wLc (wSeqI (wF c_law_entries wNil)) (gT (gsC (gN 12) (gsC (gN 13) gsN))) wYes (wOp fIx (wVar 13) (wNeg (wC (.int 1)))) [12, 13]) wNil)) wNil))))
    (wSq (wFor (wR1 (wCons (wC (.int 8)) wNil)) (gN 3) (wSq (wSet 7 (wF c_law_book (wCons (wVar 1) wNil)))
    (wSet 2 (wOp fAdd (wVar 2) (wLst (wCons (wVar 7) (wCons (wF c_law_turned (wCons (wVar 1) (wCons (wVar 7) wNil))) wNil)))))))
    (wSq (wPar 4 5 (wCons (wCall bReprA (wCons (wVar 2) wNil)) (wCons (wLst wNil) wNil)))
    (wSq (wFor (wEnumA (wCons (wVar 2) wNil)) (gT (gsC (gN 6) (gsC (gN 7) gsN))) (wSq (wSet 9 (wIf (wB (wOp fEq (wOp (fI gMod) (wVar 6) (wC (.int 5))) (wC (.int 1)))) (wFK c_book_text 1 [0] (wCons (wVar 7) wNil)) (wF c_book_text (wCons (wVar 7) wNil))))
    (wSq (wIfS (wOrT (wB (wOp fNe (wCall bReprA (wCons (wVar 9) wNil)) (wCall bReprA (wCons (wF c_law_text (wCons (wVar 7) wNil)) wNil)))) (wB (wOp fNe (wCall bReprA (wCons (wF c_book_text (wCons (wVar 7) wNil)) wNil)) (wCall bReprA (wCons (wVar 9) wNil))))) (wRet (wC (.bl false))) wNx)
    (wSq (wSet 10 (wIf (wB (wOp fEq (wOp (fI gMod) (wVar 6) (wC (.int 5))) (wC (.int 2)))) (wFK c_read_book 1 [0] (wCons (wVar 9) wNil)) (wF c_read_book (wCons (wVar 9) wNil))))
    (wSq (wIfS (wOrT (wB (wOp fNe (wCall bReprA (wCons (wVar 10) wNil)) (wCall bReprA (wCons (wVar 7) wNil)))) (wB (wOp fNe (wCall bReprA (wCons (wF c_read_book (wCons (wF c_law_text (wCons (wVar 7) wNil)) wNil)) wNil)) (wCall bReprA (wCons (wVar 7) wNil))))) (wRet (wC (.bl false))) wNx)
    (wDrop (wM "list" (onL gAppend) (wVar 5) (wCons (wVar 9) wNil))))))))
    (wSq (wFor (wR1 (wCons (wCall bLen (wCons (wVar 2) wNil)) wNil)) (gN 8) (wFor (wR1 (wCons (wVar 8) wNil)) (gN 11) (wIfS (wB (wOp fNe (wOp fEq (wOp fIx (wVar 2) (wVar 8)) (wOp fIx (wVar 2) (wVar 11))) (wOp fEq (wOp fIx (wVar 5) (wVar 8)) (wOp fIx (wVar 5) (wVar 11))))) (wRet (wC (.bl false))) wNx)))
    (wRet (wOp fEq (wCall bReprA (wCons (wVar 2) wNil)) (wVar 4)))))))))
theorem jb_law {P : Program} {w : World} {K : PySem.W.Frag} {mg : Str → Option Value} {base : Heap} (T : Txt K mg) {k : Nat} {c_law_deck : Con} {k_law_deck : Nat} (C_law_deck : Callee P w K mg base "_law_deck" P_law_deck s_law_deck k_law_deck c_law_deck) (l_law_deck : k_law_deck ≤ k) {c_law_entries : Con} {k_law_entries : Nat} (C_law_entries : Callee P w K mg base "_law_entries" P_law_entries s_law_entries k_law_entries c_law_entries) (l_law_entries : k_law_entries ≤ k) {c_law_book : Con} {k_law_book : Nat} (C_law_book : Callee P w K mg base "_law_book" P_law_book s_law_book k_law_book c_law_book) (l_law_book : k_law_book ≤ k) {c_law_turned : Con} {k_law_turned : Nat} (C_law_turned : Callee P w K mg base "_law_turned" P_law_turned s_law_turned k_law_turned c_law_turned) (l_law_turned : k_law_turned ≤ k) {c_book_text : Con} {k_book_text : Nat} (C_book_text : Callee P w K mg base "book_text" P_book_text s_book_text k_book_text c_book_text) (l_book_text : k_book_text ≤ k) {c_law_text : Con} {k_law_text : Nat} (C_law_text : Callee P w K mg base "_law_text" P_law_text s_law_text k_law_text c_law_text) (l_law_text : k_law_text ≤ k) {c_read_book : Con} {k_read_book : Nat} (C_read_book : Callee P w K mg base "read_book" P_read_book s_read_book k_read_book c_read_book) (l_read_book : k_read_book ≤ k)
    (f : Addr) (cdv : Value) (A : Around) (outer : List Env) (s : Shared) (H : Hp) (E : XK) (hr : Room k (A.deeper (envOfC "law" (defScope s_law) s.heap.objs.size f cdv))) (hgd : A.guards = some []) :
    JB (cxOf CX0 P w K mg base N_law "law" (defScope s_law) f cdv A outer s H E).nox (defBody s_law) (b_law c_law_deck c_law_entries c_law_book c_law_turned c_book_text c_law_text c_read_book) := by
  have scND := sc_law.nd
  exact (jb_cons (js_set 1 scND (re_callee C_law_deck (hr.mono l_law_deck) hgd (ra_cons (re_var 0) ra_nil) pass0))
    (jb_cons (js_set 2 scND (re_lst (ra_cons (re_callTy call_bTuple rfl T.n_tuple bt_tuple (ra_cons (re_lc (own := [("name", 12), ("words", 13)]) rfl scND (ri_seq (re_callee0 C_law_entries (hr.mono l_law_entries) hgd pass0)) (blkOk_by (N := N_law) (sc := defScope s_law) (by decide +kernel)) (by decide) (fun _ _ _ _ _ => (rg_tup rfl (rgs_cons (rg_name 12 scND) (rgs_cons (rg_name 13 scND) rgs_nil)))) (fun _ _ _ _ _ => rts_nil) (fun _ _ _ _ _ => (re_ix (re_var 13) re_int))) ra_nil)) (ra_cons (re_callTy call_bTuple rfl T.n_tuple bt_tuple (ra_cons (re_lc (own := [("name", 12), ("words", 13)]) rfl scND (ri_seq (re_callee0 C_law_entries (hr.mono l_law_entries) hgd pass0)) (blkOk_by (N := N_law) (sc := defScope s_law) (by decide +kernel)) (by decide) (fun _ _ _ _ _ => (rg_tup rfl (rgs_cons (rg_name 12 scND) (rgs_cons (rg_name 13 scND) rgs_nil)))) (fun _ _ _ _ _ => rts_nil) (fun _ _ _ _ _ => (re_ix (re_var 13) (re_neg re_int)))) ra_nil)) ra_nil))))
    (jb_cons (js_for PassesOwn.never rfl (ri_range1 rfl T.n_range (ra_cons re_int ra_nil)) (rg_name 3 scND) (jb_cons (js_set 7 scND (re_callee C_law_book (hr.mono l_law_book) hgd (ra_cons (re_var 1) ra_nil) pass0))
    (jb_one (js_set 2 scND (re_bin op_fAdd (re_var 2) (re_lst (ra_cons (re_var 7) (ra_cons (re_callee C_law_turned (hr.mono l_law_turned) hgd (ra_cons (re_var 1) (ra_cons (re_var 7) ra_nil)) pass0) ra_nil))))))))
    (jb_cons (js_par 4 5 rfl scND (ra_cons (re_callB (call_bReprA hgd hr.units) rfl T.n_repr bt_repr (ra_cons (re_var 2) ra_nil)) (ra_cons (re_lst ra_nil) ra_nil)))
    (jb_cons (js_for PassesOwn.never rfl (ri_enumA rfl T.n_enumerate (ra_cons (re_var 2) ra_nil)) (rg_tup rfl (rgs_cons (rg_name 6 scND) (rgs_cons (rg_name 7 scND) rgs_nil))) (jb_cons (js_set 9 scND (re_if (rt_cmp (op_fEq hr.units) (re_bin op_fMod (re_var 6) re_int) re_int (by rfl)) (re_calleeK (ks := ["book"]) (is := [0]) C_book_text (hr.mono l_book_text) hgd (rk_cons (re_var 7) rk_nil) (fun _ _ _ _ _ _ ws hl => match ws, hl with | [_], _ => rfl) pass0) (re_callee C_book_text (hr.mono l_book_text) hgd (ra_cons (re_var 7) ra_nil) pass0)))
    (jb_cons (js_if (RW.rt (rw_or (rt_cmp (op_fNe hr.units) (re_callB (call_bReprA hgd hr.units) rfl T.n_repr bt_repr (ra_cons (re_var 9) ra_nil)) (re_callB (call_bReprA hgd hr.units) rfl T.n_repr bt_repr (ra_cons (re_callee C_law_text (hr.mono l_law_text) hgd (ra_cons (re_var 7) ra_nil) pass0) ra_nil)) (by rfl)) (rw_or1 (rt_cmp (op_fNe hr.units) (re_callB (call_bReprA hgd hr.units) rfl T.n_repr bt_repr (ra_cons (re_callee C_book_text (hr.mono l_book_text) hgd (ra_cons (re_var 7) ra_nil) pass0) ra_nil)) (re_callB (call_bReprA hgd hr.units) rfl T.n_repr bt_repr (ra_cons (re_var 9) ra_nil)) (by rfl))))) (jb_one (js_ret re_bl)) jb_nil)
    (jb_cons (js_set 10 scND (re_if (rt_cmp (op_fEq hr.units) (re_bin op_fMod (re_var 6) re_int) re_int (by rfl)) (re_calleeK (ks := ["value"]) (is := [0]) C_read_book (hr.mono l_read_book) hgd (rk_cons (re_var 9) rk_nil) (fun _ _ _ _ _ _ ws hl => match ws, hl with | [_], _ => rfl) pass0) (re_callee C_read_book (hr.mono l_read_book) hgd (ra_cons (re_var 9) ra_nil) pass0)))
    (jb_cons (js_if (RW.rt (rw_or (rt_cmp (op_fNe hr.units) (re_callB (call_bReprA hgd hr.units) rfl T.n_repr bt_repr (ra_cons (re_var 10) ra_nil)) (re_callB (call_bReprA hgd hr.units) rfl T.n_repr bt_repr (ra_cons (re_var 7) ra_nil)) (by rfl)) (rw_or1 (rt_cmp (op_fNe hr.units) (re_callB (call_bReprA hgd hr.units) rfl T.n_repr bt_repr (ra_cons (re_callee C_read_book (hr.mono l_read_book) hgd (ra_cons (re_callee C_law_text (hr.mono l_law_text) hgd (ra_cons (re_var 7) ra_nil) pass0) ra_nil) pass0) ra_nil)) (re_callB (call_bReprA hgd hr.units) rfl T.n_repr bt_repr (ra_cons (re_var 7) ra_nil)) (by rfl))))) (jb_one (js_ret re_bl)) jb_nil)
    (jb_one (js_expr (re_m PySem.F.plainAttrs_list PySem.F.slot_list_append PySem.F.type_list_append mt_gAppend (re_var 5) (ra_cons (re_var 9) ra_nil)))))))))
    (jb_cons (js_for PassesOwn.never rfl (ri_range1 rfl T.n_range (ra_cons (re_callB call_bLen rfl T.n_len bt_len (ra_cons (re_var 2) ra_nil)) ra_nil)) (rg_name 8 scND) (jb_one (js_for PassesOwn.never rfl (ri_range1 rfl T.n_range (ra_cons (re_var 8) ra_nil)) (rg_name 11 scND) (jb_one (js_if (rt_cmp (op_fNe hr.units) (re_cmp (op_fEq hr.units) (re_ix (re_var 2) (re_var 8)) (re_ix (re_var 2) (re_var 11)) (by rfl)) (re_cmp (op_fEq hr.units) (re_ix (re_var 5) (re_var 8)) (re_ix (re_var 5) (re_var 11)) (by rfl)) (by rfl)) (jb_one (js_ret re_bl)) jb_nil)))))
    (jb_one (js_ret (re_cmp (op_fEq hr.units) (re_callB (call_bReprA hgd hr.units) rfl T.n_repr bt_repr (ra_cons (re_var 2) ra_nil)) (re_var 4) (by rfl))))))))))
/-- every def of the text, as it stands behind the top -/
structure Defs (K : PySem.W.Frag) (mg : Str → Option Value) : Prop where
  T : Txt K mg
  d_book_text : Def K mg "book_text" P_book_text s_book_text
  d_read_book : Def K mg "read_book" P_read_book s_read_book
  d_entry_line : Def K mg "entry_line" P_entry_line s_entry_line
  d_read_word : Def K mg "read_word" P_read_word s_read_word
  d_law_deck : Def K mg "_law_deck" P_law_deck s_law_deck
  d_law_draw : Def K mg "_law_draw" P_law_draw s_law_draw
  d_law_pick : Def K mg "_law_pick" P_law_pick s_law_pick
  d_law_entries : Def K mg "_law_entries" P_law_entries s_law_entries
  d_law_book : Def K mg "_law_book" P_law_book s_law_book
  d_law_text : Def K mg "_law_text" P_law_text s_law_text
  d_law_turned : Def K mg "_law_turned" P_law_turned s_law_turned
  d_law : Def K mg "law" P_law s_law
theorem defs_mk {K : PySem.W.Frag} {mg : Str → Option Value} {h : Heap} (X : K.In h) (G : h.Ns mainGlobals mg)
    {f_book_text f_read_book f_entry_line f_read_word f_law_deck f_law_draw f_law_pick f_law_entries f_law_book f_law_text f_law_turned f_law : Addr} {od_book_text an_book_text od_read_book an_read_book od_entry_line an_entry_line od_read_word an_read_word od_law_deck an_law_deck od_law_draw an_law_draw od_law_pick an_law_pick od_law_entries an_law_entries od_law_book an_law_book od_law_text an_law_text od_law_turned an_law_turned od_law an_law : Option Addr} {sl_book_text sl_read_book sl_entry_line sl_read_word sl_law_deck sl_law_draw sl_law_pick sl_law_entries sl_law_book sl_law_text sl_law_turned sl_law : Array (Option Value)} {oc_book_text kV_book_text dc_book_text pm_book_text cd_book_text ct_book_text oc_read_book kV_read_book dc_read_book pm_read_book cd_read_book ct_read_book oc_entry_line kV_entry_line dc_entry_line pm_entry_line cd_entry_line ct_entry_line oc_read_word kV_read_word dc_read_word pm_read_word cd_read_word ct_read_word oc_law_deck kV_law_deck dc_law_deck pm_law_deck cd_law_deck ct_law_deck oc_law_draw kV_law_draw dc_law_draw pm_law_draw cd_law_draw ct_law_draw oc_law_pick kV_law_pick dc_law_pick pm_law_pick cd_law_pick ct_law_pick oc_law_entries kV_law_entries dc_law_entries pm_law_entries cd_law_entries ct_law_entries oc_law_book kV_law_book dc_law_book pm_law_book cd_law_book ct_law_book oc_law_text kV_law_text dc_law_text pm_law_text cd_law_text ct_law_text oc_law_turned kV_law_turned dc_law_turned pm_law_turned cd_law_turned ct_law_turned oc_law kV_law dc_law pm_law cd_law ct_law : Value}
    (a_book_text : PySem.W.nsIn K mainGlobals "book_text" = some (some (.ref f_book_text))) (l_book_text : K.lookup f_book_text = some ⟨oc_book_text, od_book_text, .func (PySem.W.fnOf "book_text" "book_text" (defArgs s_book_text) (defBody s_book_text) (defScope s_book_text) .none kV_book_text dc_book_text pm_book_text an_book_text cd_book_text ct_book_text), sl_book_text⟩) (e_book_text : PySem.W.codeIn K cd_book_text "book_text" = true) (k_book_text : PySem.W.keepIn K (.ref f_book_text) = true)
    (a_read_book : PySem.W.nsIn K mainGlobals "read_book" = some (some (.ref f_read_book))) (l_read_book : K.lookup f_read_book = some ⟨oc_read_book, od_read_book, .func (PySem.W.fnOf "read_book" "read_book" (defArgs s_read_book) (defBody s_read_book) (defScope s_read_book) .none kV_read_book dc_read_book pm_read_book an_read_book cd_read_book ct_read_book), sl_read_book⟩) (e_read_book : PySem.W.codeIn K cd_read_book "read_book" = true) (k_read_book : PySem.W.keepIn K (.ref f_read_book) = true)
    (a_entry_line : PySem.W.nsIn K mainGlobals "entry_line" = some (some (.ref f_entry_line))) (l_entry_line : K.lookup f_entry_line = some ⟨oc_entry_line, od_entry_line, .func (PySem.W.fnOf "entry_line" "entry_line" (defArgs s_entry_line) (defBody s_entry_line) (defScope s_entry_line) .none kV_entry_line dc_entry_line pm_entry_line an_entry_line cd_entry_line ct_entry_line), sl_entry_line⟩) (e_entry_line : PySem.W.codeIn K cd_entry_line "entry_line" = true) (k_entry_line : PySem.W.keepIn K (.ref f_entry_line) = true)
    (a_read_word : PySem.W.nsIn K mainGlobals "read_word" = some (some (.ref f_read_word))) (l_read_word : K.lookup f_read_word = some ⟨oc_read_word, od_read_word, .func (PySem.W.fnOf "read_word" "read_word" (defArgs s_read_word) (defBody s_read_word) (defScope s_read_word) .none kV_read_word dc_read_word pm_read_word an_read_word cd_read_word ct_read_word), sl_read_word⟩) (e_read_word : PySem.W.codeIn K cd_read_word "read_word" = true) (k_read_word : PySem.W.keepIn K (.ref f_read_word) = true)
    (a_law_deck : PySem.W.nsIn K mainGlobals "_law_deck" = some (some (.ref f_law_deck))) (l_law_deck : K.lookup f_law_deck = some ⟨oc_law_deck, od_law_deck, .func (PySem.W.fnOf "_law_deck" "_law_deck" (defArgs s_law_deck) (defBody s_law_deck) (defScope s_law_deck) .none kV_law_deck dc_law_deck pm_law_deck an_law_deck cd_law_deck ct_law_deck), sl_law_deck⟩) (e_law_deck : PySem.W.codeIn K cd_law_deck "_law_deck" = true) (k_law_deck : PySem.W.keepIn K (.ref f_law_deck) = true)
    (a_law_draw : PySem.W.nsIn K mainGlobals "_law_draw" = some (some (.ref f_law_draw))) (l_law_draw : K.lookup f_law_draw = some ⟨oc_law_draw, od_law_draw, .func (PySem.W.fnOf "_law_draw" "_law_draw" (defArgs s_law_draw) (defBody s_law_draw) (defScope s_law_draw) .none kV_law_draw dc_law_draw pm_law_draw an_law_draw cd_law_draw ct_law_draw), sl_law_draw⟩) (e_law_draw : PySem.W.codeIn K cd_law_draw "_law_draw" = true) (k_law_draw : PySem.W.keepIn K (.ref f_law_draw) = true)
    (a_law_pick : PySem.W.nsIn K mainGlobals "_law_pick" = some (some (.ref f_law_pick))) (l_law_pick : K.lookup f_law_pick = some ⟨oc_law_pick, od_law_pick, .func (PySem.W.fnOf "_law_pick" "_law_pick" (defArgs s_law_pick) (defBody s_law_pick) (defScope s_law_pick) .none kV_law_pick dc_law_pick pm_law_pick an_law_pick cd_law_pick ct_law_pick), sl_law_pick⟩) (e_law_pick : PySem.W.codeIn K cd_law_pick "_law_pick" = true) (k_law_pick : PySem.W.keepIn K (.ref f_law_pick) = true)
    (a_law_entries : PySem.W.nsIn K mainGlobals "_law_entries" = some (some (.ref f_law_entries))) (l_law_entries : K.lookup f_law_entries = some ⟨oc_law_entries, od_law_entries, .func (PySem.W.fnOf "_law_entries" "_law_entries" (defArgs s_law_entries) (defBody s_law_entries) (defScope s_law_entries) .none kV_law_entries dc_law_entries pm_law_entries an_law_entries cd_law_entries ct_law_entries), sl_law_entries⟩) (e_law_entries : PySem.W.codeIn K cd_law_entries "_law_entries" = true) (k_law_entries : PySem.W.keepIn K (.ref f_law_entries) = true)
    (a_law_book : PySem.W.nsIn K mainGlobals "_law_book" = some (some (.ref f_law_book))) (l_law_book : K.lookup f_law_book = some ⟨oc_law_book, od_law_book, .func (PySem.W.fnOf "_law_book" "_law_book" (defArgs s_law_book) (defBody s_law_book) (defScope s_law_book) .none kV_law_book dc_law_book pm_law_book an_law_book cd_law_book ct_law_book), sl_law_book⟩) (e_law_book : PySem.W.codeIn K cd_law_book "_law_book" = true) (k_law_book : PySem.W.keepIn K (.ref f_law_book) = true)
    (a_law_text : PySem.W.nsIn K mainGlobals "_law_text" = some (some (.ref f_law_text))) (l_law_text : K.lookup f_law_text = some ⟨oc_law_text, od_law_text, .func (PySem.W.fnOf "_law_text" "_law_text" (defArgs s_law_text) (defBody s_law_text) (defScope s_law_text) .none kV_law_text dc_law_text pm_law_text an_law_text cd_law_text ct_law_text), sl_law_text⟩) (e_law_text : PySem.W.codeIn K cd_law_text "_law_text" = true) (k_law_text : PySem.W.keepIn K (.ref f_law_text) = true)
    (a_law_turned : PySem.W.nsIn K mainGlobals "_law_turned" = some (some (.ref f_law_turned))) (l_law_turned : K.lookup f_law_turned = some ⟨oc_law_turned, od_law_turned, .func (PySem.W.fnOf "_law_turned" "_law_turned" (defArgs s_law_turned) (defBody s_law_turned) (defScope s_law_turned) .none kV_law_turned dc_law_turned pm_law_turned an_law_turned cd_law_turned ct_law_turned), sl_law_turned⟩) (e_law_turned : PySem.W.codeIn K cd_law_turned "_law_turned" = true) (k_law_turned : PySem.W.keepIn K (.ref f_law_turned) = true)
    (a_law : PySem.W.nsIn K mainGlobals "law" = some (some (.ref f_law))) (l_law : K.lookup f_law = some ⟨oc_law, od_law, .func (PySem.W.fnOf "law" "law" (defArgs s_law) (defBody s_law) (defScope s_law) .none kV_law dc_law pm_law an_law cd_law ct_law), sl_law⟩) (e_law : PySem.W.codeIn K cd_law "law" = true) (k_law : PySem.W.keepIn K (.ref f_law) = true)
    (z_abs : PySem.W.nsIn K mainGlobals "abs" = some none)
    (z_enumerate : PySem.W.nsIn K mainGlobals "enumerate" = some none)
    (z_int : PySem.W.nsIn K mainGlobals "int" = some none)
    (z_isinstance : PySem.W.nsIn K mainGlobals "isinstance" = some none)
    (z_len : PySem.W.nsIn K mainGlobals "len" = some none)
    (z_range : PySem.W.nsIn K mainGlobals "range" = some none)
    (z_repr : PySem.W.nsIn K mainGlobals "repr" = some none)
    (z_str : PySem.W.nsIn K mainGlobals "str" = some none)
    (z_tuple : PySem.W.nsIn K mainGlobals "tuple" = some none)
    (z_zip : PySem.W.nsIn K mainGlobals "zip" = some none)
    (g_ENTRIES : gcB K "ENTRIES" c_ENTRIES = true) : Defs K mg where
  T := { n_abs := PySem.W.mg_none_of X G z_abs, n_enumerate := PySem.W.mg_none_of X G z_enumerate, n_int := PySem.W.mg_none_of X G z_int, n_isinstance := PySem.W.mg_none_of X G z_isinstance, n_len := PySem.W.mg_none_of X G z_len, n_range := PySem.W.mg_none_of X G z_range, n_repr := PySem.W.mg_none_of X G z_repr, n_str := PySem.W.mg_none_of X G z_str, n_tuple := PySem.W.mg_none_of X G z_tuple, n_zip := PySem.W.mg_none_of X G z_zip, c_ENTRIES := gc_of X G g_ENTRIES }
  d_book_text := def_mk X G a_book_text l_book_text e_book_text k_book_text fun _ _ _ _ _ _ us hl => match us, hl with | [_], _ => rfl
  d_read_book := def_mk X G a_read_book l_read_book e_read_book k_read_book fun _ _ _ _ _ _ us hl => match us, hl with | [_], _ => rfl
  d_entry_line := def_mk X G a_entry_line l_entry_line e_entry_line k_entry_line fun _ _ _ _ _ _ us hl => match us, hl with | [_, _], _ => rfl
  d_read_word := def_mk X G a_read_word l_read_word e_read_word k_read_word fun _ _ _ _ _ _ us hl => match us, hl with | [_, _, _], _ => rfl
  d_law_deck := def_mk X G a_law_deck l_law_deck e_law_deck k_law_deck fun _ _ _ _ _ _ us hl => match us, hl with | [_], _ => rfl
  d_law_draw := def_mk X G a_law_draw l_law_draw e_law_draw k_law_draw fun _ _ _ _ _ _ us hl => match us, hl with | [_, _], _ => rfl
  d_law_pick := def_mk X G a_law_pick l_law_pick e_law_pick k_law_pick fun _ _ _ _ _ _ us hl => match us, hl with | [_, _], _ => rfl
  d_law_entries := def_mk X G a_law_entries l_law_entries e_law_entries k_law_entries fun _ _ _ _ _ _ us hl => match us, hl with | [], _ => rfl
  d_law_book := def_mk X G a_law_book l_law_book e_law_book k_law_book fun _ _ _ _ _ _ us hl => match us, hl with | [_], _ => rfl
  d_law_text := def_mk X G a_law_text l_law_text e_law_text k_law_text fun _ _ _ _ _ _ us hl => match us, hl with | [_], _ => rfl
  d_law_turned := def_mk X G a_law_turned l_law_turned e_law_turned k_law_turned fun _ _ _ _ _ _ us hl => match us, hl with | [_, _], _ => rfl
  d_law := def_mk X G a_law l_law e_law k_law fun _ _ _ _ _ _ us hl => match us, hl with | [_], _ => rfl
end Lw
set_option Elab.async false
set_option linter.all false
set_option maxRecDepth 100000
set_option maxHeartbeats 1000000
namespace Lw
open PySem PySem.Spec PyProof.Rows L2 Lt
abbrev iN (v : Nat) : PV := .int v
theorem keyOf_str (x : Str) : keyOf (.str x) = some (.inr x) := rfl
theorem bInt_b (b : Bool) (S : Store) : bInt [.bl b] S = some (.int (if b then 1 else 0), S) := rfl
theorem take_snoc {α : Type} {xs : List α} {i : Nat} {x : α} (h : xs[i]? = some x) : xs.take (i + 1) = xs.take i ++ [x] := by
  rw [List.take_succ, h]; rfl
theorem bMin_ii (i j : Int) (S : Store) : bMin [.int i, .int j] S = some (.int (if j < i then j else i), S) := rfl
theorem bInt_i (i : Int) (S : Store) : bInt [.int i] S = some (.int i, S) := rfl
theorem fEq_ii (i j : Int) (S : Store) : fEq (.int i) (.int j) S = some (.bl (decide (i = j)), S) := rfl
theorem fNe_ii (i j : Int) (S : Store) : fNe (.int i) (.int j) S = some (.bl (!decide (i = j)), S) := rfl
theorem bIsi_tt (xs : List PV) (S : Store) : bIsi [.tup xs, .ty "tuple"] S = some (.bl true, S) := rfl
theorem bIsi_it (i : Int) (S : Store) : bIsi [.int i, .ty "tuple"] S = some (.bl false, S) := rfl
theorem tru_b (b : Bool) (S : Store) : tru (.bl b) S = some b := rfl
theorem onL_ok {g : List PV → List PV → Option (List PV × PV)} {n : Nat} {xs args ys : List PV} {z : PV} {S : Store} (h : S[n]? = some (.lst xs)) (hg : g xs args = some (ys, z)) : onL g (.ref n) args S = some (z, S.set n (.lst ys)) := by
  show (match S[n]? with
    | some (Cell.lst xs) => (g xs args).map fun (r : List PV × PV) => (r.2, S.set n (Cell.lst r.1))
    | _ => none) = _
  rw [h]
  show (g xs args).map _ = _
  rw [hg]; rfl
theorem app_ok {n : Nat} {xs : List PV} {y : PV} {S : Store} (h : S[n]? = some (.lst xs)) (hl : xs.length < 16777216) : onL gAppend (.ref n) [y] S = some (.non, S.set n (.lst (xs ++ [y]))) :=
  onL_ok h (if_pos (sl_lt hl))
theorem ty_l {n : Nat} {c : Cell} {xs : List PV} {S : Store} (h : S[n]? = some c) (hx : c.items = some xs) : tyOk "list" (.ref n) S := .inl ⟨rfl, c, xs, h, hx⟩
theorem bTup_l {n : Nat} {c : Cell} {xs : List PV} {S : Store} (hc : S[n]? = some c) (hx : c.items = some xs) : bTuple [.ref n] S = some (.tup xs, S) := by
  show (seqOf (.ref n) S).map _ = _
  rw [seqOf_l hc hx]; rfl
theorem bList_l {n : Nat} {c : Cell} {xs : List PV} {S : Store} (hc : S[n]? = some c) (hx : c.items = some xs) : bList [.ref n] S = some (.ref S.length, S ++ [.lst xs]) := by
  show (seqOf (.ref n) S).map _ = _
  rw [seqOf_l hc hx]; rfl
theorem bList_t {xs : List PV} {S : Store} : bList [.tup xs] S = some (.ref S.length, S ++ [.lst xs]) := rfl

/-- what was made since does not count -/
theorem Kp.out {M M' : List Nat} {S S' : Store} {c : Cell} (a : Kp M (S ++ [c]) S') (h : ∀ n ∈ M, n ∈ M' ∨ S.length ≤ n) : Kp M' S S' :=
  ⟨by have := a.le; simp at this; omega, fun n d hn e => a.at_ n d (fun z => by
    rcases h n z with q | q
    · exact hn q
    · have := lt_of_at e; omega) (at_old e)⟩
theorem opt_go (r : PV × Store) (Q : PQ) : opt (some r) Q = Q r.1 r.2 := by
  obtain ⟨a, b⟩ := r
  exact opt_some _ _
theorem cutP_int (ns : List Int) (lo hi : Option Int) : ∃ ms : List Int, cutP (ns.map PV.int) lo hi = ms.map .int ∧ ms.length ≤ ns.length :=
  ⟨_, by unfold cutP; rw [← List.map_drop, ← List.map_take], by simp; omega⟩
theorem fSl_l {n : Nat} {c : Cell} {xs : List PV} {lo hi : Option Int} {S : Store} (h : S[n]? = some c) (hx : c.items = some xs) : fSl (.ref n) lo hi S = some (.ref S.length, S ++ [.lst (cutP xs lo hi)]) := by
  unfold fSl
  simp only [h, hx]
theorem eGL {n i : Nat} {c : Cell} {xs : List PV} {S : Store} (h : S[n]? = some c) (hx : c.items = some xs) : gL n i S = some xs[i]? := by
  unfold gL
  simp only [h, hx]
theorem at_int {ns : List Int} {i : Nat} {v : Int} (h : ns[i]? = some v) : (ns.map PV.int)[i]? = some (.int v) := by rw [List.getElem?_map, h]; rfl
theorem fAdd_ll' {n m : Nat} {xs ys : List PV} {S : Store} (h1 : S[n]? = some (.lst xs)) (h2 : S[m]? = some (.lst ys)) (h : xs.length + ys.length ≤ 16777216) : fAdd (.ref n) (.ref m) S = some (.ref S.length, S ++ [.lst (xs ++ ys)]) := fAdd_ll h1 h2 h
theorem seqI_go {n : Nat} {c : Cell} {xs : List PV} {S : Store} (h : S[n]? = some c) (hx : c.items = some xs) {R : Prop} (hR : R) : (∃ c xs, S[n]? = some c ∧ c.items = some xs) ∧ R := ⟨⟨c, xs, h, hx⟩, hR⟩
theorem eR2 {lo : Int} {n : Nat} {i : Nat} {S : Store} {x : PV} (h : i < n) (e : x = .int (lo + i)) : gR lo n i S = some (some x) := by
  unfold gR; rw [if_pos h, e]
theorem eR0 {lo : Int} {n : Nat} {S : Store} : gR lo n n S = some none := by
  unfold gR; rw [if_neg (Nat.lt_irrefl n)]
theorem mod_nat (z : Int) {m : Nat} (h : 0 < m) : ∃ d : Nat, d < m ∧ z % (m : Int) = (d : Int) := by
  refine ⟨(z % (m : Int)).toNat, ?_, ?_⟩
  · have := Int.emod_nonneg z (show (m : Int) ≠ 0 by omega)
    have := Int.emod_lt_of_pos z (show (0 : Int) < m by omega)
    omega
  · have := Int.emod_nonneg z (show (m : Int) ≠ 0 by omega)
    omega
theorem ty_l' {n : Nat} {xs : List PV} {S : Store} (h : S[n]? = some (.lst xs)) : tyOk "list" (.ref n) S := ty_l h rfl
theorem pop_at {xs : List PV} {i : Nat} {y : PV} (h : xs[i]? = some y) (hl : xs.length < 2 ^ 60) : gPop xs [.int i] = some (xs.eraseIdx i, y) := by
  have hi : i < xs.length := (List.getElem?_eq_some_iff.mp h).1
  have e : seqIndex? (i : Int) xs.length = some i := by
    unfold seqIndex?
    have : ¬ ((i : Int) < 0) := by omega
    simp only [this, if_false]
    rw [if_pos (by simp; omega)]
    rfl
  unfold gPop
  dsimp only
  rw [if_pos ⟨by omega, by omega⟩]
  simp only [e, h, Option.map_some]
theorem ins0 {xs : List PV} {y : PV} (h : xs.length < 16777216) : gInsert xs [.int 0, y] = some (y :: xs, .non) := by
  unfold gInsert
  dsimp only
  rw [if_pos ⟨sl_lt h, by omega, by omega⟩]
  rfl
local macro_rules | `(tactic| walk_at "go") => `(tactic| try simp only [wSq, wSet, wRet, wDrop, wAsg, wPar, wNx, wIfS, wVar, wC, wOp, wCons, wNil, wB, wNot, wTup, wLst, wCall, wM, wOrT, wAndT, wIf, wNeg, wSl, wNoP, wP, wTru, wSeqI, wR1, wR2, wFor, wWhile, wYes, wDPut, wF, wFK, wEnum, wEnumA, wZipM, wM0, wJoined, wJs, wFmt, wNo, perm, List.getD_cons_zero, List.getD_cons_succ, bInt_b, keyOf_str, wDict, wPairs, wLc, wipeP, decide_true, decide_false, Bool.not_true, Bool.not_false, List.isEmpty_nil, List.isEmpty_cons,
  gN, gT, gsC, gsN, Option.bind_some, Option.map_some, List.getElem?_cons_zero, List.getElem?_cons_succ, List.set_cons_zero, List.set_cons_succ, List.map_cons, List.map_nil, List.length_cons, List.length_nil, List.replicate_succ, List.replicate_zero, List.append_nil, List.nil_append, List.cons_append,
  fAdd_ii, fI_ii, Lt.gSub, Lt.gB, opt_go, bMin_ii, bInt_i, bLen_t, fEq_ii, fNe_ii, tru_b, bIsi_tt, bIsi_it])

local macro_rules | `(tactic| walk_at "num") => `(tactic| (walk_at "go"; try simp (disch := first | omega | decide) only [gMul_l, gMul_r, gDiv_ok, gMod_ok, gPow_1018, Option.map_some, opt_go, fI_ii, fAdd_ii, bInt_i]); walk_at "go")

/-! deck -/
abbrev dkd (f : Nat) (st : Int) : List (Key × PV) := [(.inr "deep", .ref f), (.inr "state", .int st)]
section
variable {j f : Nat} {st : Int} {S : Store} (h : S[j]? = some (.dic (dkd f st)))
include h
theorem g_deep : fGet (.ref j) (.str "deep") S = some (.ref f, S) := fGet_ok (k := .inr "deep") rfl h rfl
theorem g_state : fGet (.ref j) (.str "state") S = some (.int st, S) := fGet_ok (k := .inr "state") rfl h rfl
end
theorem dk_state (f : Nat) (st u : Int) : putP (dkd f st) (.inr "state") (.int u) = dkd f u := rfl
theorem dk_deep (f g : Nat) (st : Int) : putP (dkd f st) (.inr "deep") (.ref g) = dkd g st := rfl
def Dk (j f : Nat) (S : Store) : Prop := f ≠ j ∧ ∃ (st : Int) (fs : List Int), S[j]? = some (.dic (dkd f st)) ∧ S[f]? = some (.lst (fs.map .int)) ∧ fs.length ≤ 63
theorem Dk.kept {j f : Nat} {S S' : Store} (h : Dk j f S) (k : Kp [] S S') : Dk j f S' := by
  obtain ⟨h1, st, fs, a, b, c⟩ := h
  exact ⟨h1, st, fs, k.at_ _ _ (by simp) a, k.at_ _ _ (by simp) b, c⟩
theorem Dk.push {j f : Nat} {S : Store} {c : Cell} (h : Dk j f S) : Dk j f (S ++ [c]) := h.kept .push
theorem Dk.set {j f n : Nat} {S : Store} {c : Cell} (h : Dk j f S) (h1 : n ≠ j) (h2 : n ≠ f) : Dk j f (S.set n c) := by
  obtain ⟨g1, st, fs, a, b, d⟩ := h
  exact ⟨g1, st, fs, at_set_ne h1 a, at_set_ne h2 b, d⟩
theorem Dk.lt {j f : Nat} {S : Store} (h : Dk j f S) : j < S.length ∧ f < S.length := by
  obtain ⟨g1, st, fs, a, b, d⟩ := h
  exact ⟨lt_of_at a, lt_of_at b⟩
def cDr : Con := conG (G := Nat × Nat × Nat) (fun g xs S => xs = [.ref g.1, iN g.2.2] ∧ Dk g.1 g.2.1 S ∧ 0 < g.2.2 ∧ g.2.2 < 1000000)
  (fun g xs S x S' => ∃ d : Nat, d < g.2.2 ∧ x = iN d ∧ Dk g.1 g.2.1 S' ∧ Kp [g.1, g.2.1] S S')
theorem popL {xs : List Int} {z : Int} : gPop ((xs ++ [z]).map PV.int) [] = some (xs.map .int, .int z) := by
  unfold gPop
  simp
theorem pl_law_draw (xs : List PV) (S0 : Store) (P : PQ) (h : cDr xs S0 P) : b_law_draw (xs.map some ++ List.replicate (N_law_draw.length - xs.length) none) S0 ⟨fun _ S' => P .non S', P, fun _ _ => False, fun _ _ => False⟩ := by
  obtain ⟨⟨j, f, many⟩, ⟨rfl, hj, hm, hm2⟩, hP⟩ := h
  dsimp only at *
  have hj0 := hj
  obtain ⟨n1, st, fs, a, b, c⟩ := hj
  unfold b_law_draw
  walk_at "go"
  by_cases h2 : many < 2
  · rw [decide_eq_true (by omega)]
    walk_at "go"
    exact hP _ _ ⟨0, hm, rfl, hj0, .refl⟩
  rw [decide_eq_false (by omega)]
  walk_at "go"
  rw [g_deep a]
  walk_at "go"
  refine ⟨sl_le (by decide), ?_⟩
  rw [fNe_ints_nil (at_old b) (at_new _ _)]
  walk_at "go"
  rcases List.eq_nil_or_concat fs with rfl | ⟨zs, z, rfl⟩
  · walk_at "go"
    rw [g_state (at_old a)]
    walk_at "num"
    generalize hone : (st * 1181783497276652981 + 88172645463325) % 2305843009213693951 = one
    simp only [at_old a]
    refine ⟨sl_lt (Nat.le_of_ble_eq_true rfl), ?_⟩
    rw [dk_state]
    have a' : (List.set (S0 ++ [Cell.lst []]) j (.dic (dkd f one)))[j]? = some (.dic (dkd f one)) := at_set (at_old a)
    have b' : (List.set (S0 ++ [Cell.lst []]) j (.dic (dkd f one)))[f]? = some (.lst (([] : List Int).map .int)) := at_set_ne n1.symm (at_old b)
    have fin : ∀ z : Int, P (.int (z % (many : Int))) (List.set (S0 ++ [Cell.lst []]) j (.dic (dkd f one))) := fun z => by
      obtain ⟨dd, hd, ed⟩ := mod_nat z hm
      rw [ed]
      exact hP _ _ ⟨dd, hd, rfl, ⟨n1, one, [], a', b', by decide⟩, Kp.push.trans (.set (by simp))⟩
    exact fin _
  · rw [List.concat_eq_append] at b c
    have ne : (zs.concat z).isEmpty = false := by cases zs <;> rfl
    rw [ne]
    walk_at "go"
    rw [g_deep (at_old a)]
    walk_at "go"
    refine ⟨ty_l' (at_old b), ?_⟩
    rw [onL_ok (at_old b) popL]
    walk_at "go"
    have b1 : (List.set (S0 ++ [Cell.lst []]) f (.lst (zs.map .int)))[f]? = some (.lst (zs.map .int)) := at_set (at_old b)
    have a1 : (List.set (S0 ++ [Cell.lst []]) f (.lst (zs.map .int)))[j]? = some (.dic (dkd f st)) := at_set_ne n1 (at_old a)
    obtain ⟨dd, hd, ed⟩ := mod_nat z hm
    by_cases hz : (many : Int) ≤ z
    · rw [decide_eq_true hz]
      walk_at "go"
      rw [g_deep a1]
      walk_at "go"
      refine ⟨ty_l' b1, ?_⟩
      walk_at "num"
      rw [app_ok b1 (by simp at c ⊢; omega)]
      walk_at "num"
      rw [ed]
      refine hP _ _ ⟨dd, hd, rfl, ⟨n1, st, zs ++ [z / (many : Int)], at_set_ne n1 a1, by rw [at_set b1]; simp, by simp at c ⊢; omega⟩, (Kp.push.trans (.set (by simp))).trans (.set (by simp))⟩
    · rw [decide_eq_false hz]
      walk_at "num"
      rw [ed]
      exact hP _ _ ⟨dd, hd, rfl, ⟨n1, st, zs, a1, b1, by simp at c; omega⟩, Kp.push.trans (.set (by simp))⟩
def cPk : Con := conG (G := Nat × Nat × Nat × List PV) (fun g xs S => xs = [.ref g.1, .ref g.2.2.1] ∧ Dk g.1 g.2.1 S ∧ S[g.2.2.1]? = some (.lst g.2.2.2) ∧ 0 < g.2.2.2.length ∧ g.2.2.2.length < 1000000 ∧ g.2.2.1 ≠ g.1 ∧ g.2.2.1 ≠ g.2.1)
  (fun g xs S x S' => x ∈ g.2.2.2 ∧ Dk g.1 g.2.1 S' ∧ Kp [g.1, g.2.1] S S')
theorem pl_law_pick (xs : List PV) (S0 : Store) (P : PQ) (h : cPk xs S0 P) : b_law_pick cDr (xs.map some ++ List.replicate (N_law_pick.length - xs.length) none) S0 ⟨fun _ S' => P .non S', P, fun _ _ => False, fun _ _ => False⟩ := by
  obtain ⟨⟨j, f, m, ys⟩, ⟨rfl, hj, hm, h1, h2, h3, h4⟩, hP⟩ := h
  dsimp only at *
  unfold b_law_pick
  walk_at "go"
  rw [bLen_l hm rfl]
  walk_at "go"
  refine con_g (j, f, ys.length) ⟨rfl, hj, h1, h2⟩ ?_
  rintro x S1 ⟨d, hd, rfl, hj1, k1⟩
  dsimp only at *
  have hm1 := k1.at_ _ _ (by simp [h3, h4]) hm
  have hy : ys[d]? = some ys[d] := List.getElem?_eq_getElem hd
  rw [fIx_l hm1 rfl hy]
  exact hP _ _ ⟨List.getElem_mem hd, hj1, k1⟩
end Lw
set_option Elab.async false
set_option linter.all false
set_option maxRecDepth 100000
set_option maxHeartbeats 1000000
namespace Lw
open PySem PySem.Spec PyProof.Rows L2 Lt
local macro_rules | `(tactic| walk_at "go") => `(tactic| try simp only [wSq, wSet, wRet, wDrop, wAsg, wPar, wNx, wIfS, wVar, wC, wOp, wCons, wNil, wB, wNot, wTup, wLst, wCall, wM, wOrT, wAndT, wIf, wNeg, wSl, wNoP, wP, wTru, wSeqI, wR1, wR2, wFor, wWhile, wYes, wDPut, wF, wFK, wEnum, wEnumA, wZipM, wM0, wJoined, wJs, wFmt, wNo, perm, List.getD_cons_zero, List.getD_cons_succ, bInt_b, keyOf_str, wDict, wPairs, wLc, wipeP, decide_true, decide_false, Bool.not_true, Bool.not_false, List.isEmpty_nil, List.isEmpty_cons,
  gN, gT, gsC, gsN, Option.bind_some, Option.map_some, List.getElem?_cons_zero, List.getElem?_cons_succ, List.set_cons_zero, List.set_cons_succ, List.map_cons, List.map_nil, List.length_cons, List.length_nil, List.replicate_succ, List.replicate_zero, List.append_nil, List.nil_append, List.cons_append,
  fAdd_ii, fI_ii, Lt.gSub, Lt.gB, opt_go, bMin_ii, bInt_i, bLen_t, fEq_ii, fNe_ii, tru_b, bIsi_tt, bIsi_it])

local macro_rules | `(tactic| walk_at "num") => `(tactic| (walk_at "go"; try simp (disch := first | omega | decide) only [gMul_l, gMul_r, gDiv_ok, gMod_ok, gPow_1018, Option.map_some, opt_go, fI_ii, fAdd_ii, bInt_i]); walk_at "go")
def cDk : Con := conG (G := List Int) (fun g xs S => xs = [.ref 0] ∧ S[0]? = some (.ro (g.map .int)) ∧ g.length ≤ 63)
  (fun g xs S x S' => ∃ j f, x = .ref j ∧ Dk j f S')
theorem bAbs_i (i : Int) (S : Store) : bAbs [.int i] S = some (.int (if i < 0 then -i else i), S) := rfl
theorem dk_fold (f : Nat) (st : Int) : ([(.inr "deep", .ref f), (.inr "state", .int st)] : List (Key × PV)).foldl (fun acc kv => putP acc kv.1 kv.2) [] = dkd f st := rfl
theorem pl_law_deck (xs : List PV) (S0 : Store) (P : PQ) (h : cDk xs S0 P) : b_law_deck (xs.map some ++ List.replicate (N_law_deck.length - xs.length) none) S0 ⟨fun _ S' => P .non S', P, fun _ _ => False, fun _ _ => False⟩ := by
  obtain ⟨ns, ⟨rfl, h0, hl⟩, hP⟩ := h
  dsimp only at *
  unfold b_law_deck
  walk_at "go"
  refine ⟨sl_le (by decide), ?_⟩
  rw [fSl_l (at_old (at_old h0)) rfl]
  walk_at "go"
  obtain ⟨ms, em, lm⟩ := cutP_int ns none (some 63)
  rw [em, bLen_l (at_new _ _) rfl]
  walk_at "num"
  refine ⟨at_old (at_old (at_new _ _)), by decide, ?_⟩
  have e1 : (S0 ++ [Cell.dic []]).length = S0.length + 1 := by simp
  rw [e1, dk_fold]
  have d0 : (S0 ++ [Cell.dic []] ++ [Cell.lst []] ++ [Cell.lst (ms.map PV.int)])[S0.length]? = some (.dic []) := at_old (at_old (at_new _ _))
  have f0 : (S0 ++ [Cell.dic []] ++ [Cell.lst []] ++ [Cell.lst (ms.map PV.int)])[S0.length + 1]? = some (.lst []) := by
    have := at_old (c := .lst (ms.map PV.int)) (at_new (S0 ++ [Cell.dic []]) (.lst []))
    rwa [e1] at this
  have n0 := at_old (c := .lst (ms.map PV.int)) (at_old (c := .lst []) (at_old (c := .dic []) h0))
  generalize (S0 ++ [Cell.dic []] ++ [Cell.lst []] ++ [Cell.lst (ms.map PV.int)]) = S1 at *
  have a1 := at_set (c := .dic (dkd (S0.length + 1) (1572314 + ((ms.map PV.int).length : Nat)))) d0
  have a2 := at_set_ne (c := .dic (dkd (S0.length + 1) (1572314 + ((ms.map PV.int).length : Nat)))) (show S0.length ≠ S0.length + 1 by omega) f0
  have hS0 : 0 < S0.length := lt_of_at h0
  have a3 := at_set_ne (c := .dic (dkd (S0.length + 1) (1572314 + ((ms.map PV.int).length : Nat)))) (show S0.length ≠ 0 by omega) n0
  rw [fSl_l a3 rfl, em]
  walk_at "go"
  refine seqI_go (at_new _ _) rfl ?_
  have a4 := at_old (c := .lst (ms.map PV.int)) a1
  have a5 := at_old (c := .lst (ms.map PV.int)) a2
  have a6 := at_new (List.set S1 S0.length (.dic (dkd (S0.length + 1) (1572314 + ((ms.map PV.int).length : Nat))))) (.lst (ms.map PV.int))
  have hq : (List.set S1 S0.length (.dic (dkd (S0.length + 1) (1572314 + ((ms.map PV.int).length : Nat))))).length ≠ S0.length := by
    have := lt_of_at d0
    simp
    omega
  generalize (1572314 + ((ms.map PV.int).length : Nat) : Int) = st0 at *
  generalize (List.set S1 S0.length (.dic (dkd (S0.length + 1) st0))).length = q at *
  generalize (List.set S1 S0.length (.dic (dkd (S0.length + 1) st0)) ++ [Cell.lst (ms.map PV.int)]) = S2 at *
  generalize hj : S0.length = j at *
  refine loop_inv (n := ms.length) (fun i env S => ∃ e2 e3 e4 f st fs, env = [some (.ref 0), some (.ref j), e2, e3, e4] ∧ f ≠ j ∧ S[j]? = some (.dic (dkd f st)) ∧ S[f]? = some (.lst ((fs : List Int).map .int)) ∧ fs.length ≤ i ∧ S[q]? = some (.lst (ms.map .int))) ?_ ?_ ⟨none, none, none, j + 1, st0, [], rfl, by omega, a4, a5, Nat.le_refl _, a6⟩
  · rintro i env S hi ⟨e2, e3, e4, f, st, fs, rfl, n1, p1, p2, p3, p4⟩
    have hm : ms[i]? = some ms[i] := List.getElem?_eq_getElem hi
    refine ⟨.int ms[i], _, (eGL p4 rfl).trans (congrArg some (at_int hm)), rfl, fun D' hnx _ _ _ => ?_⟩
    generalize ms[i] = v
    walk_at "go"
    rw [bAbs_i]
    generalize (if v < 0 then -v else v) = u
    walk_at "num"
    have fin : ∀ (f : Nat) (fs : List Int) (S : Store), f ≠ j → S[j]? = some (.dic (dkd f st)) → S[f]? = some (.lst (fs.map .int)) → fs.length ≤ i + 1 → S[q]? = some (.lst (ms.map .int)) →
        (wSq (wSet 4 (wOp fAdd (wOp (fI Lt.gMul) (wOp fAdd (wOp fAdd (wOp fAdd (wOp fGet (wVar 1) (wC (.str "state"))) (wOp (fI Lt.gMul) (wC (.int 2)) (wVar 3))) (wCall bInt (wCons (wOp fLt (wVar 2) (wC (.int 0))) wNil))) (wC (.int 1))) (wC (.int 1181783497276652981))) (wC (.int 521288629))))
    (wDPut (wVar 1) (wC (.str "state")) (wOp (fI Lt.gMod) (wCall bInt (wCons (wVar 4) wNil)) (wC (.int 2305843009213693951))))) [some (.ref 0), some (.ref j), some (.int v), some (.int u), e4] S D' := fun f fs S n1 p1 p2 p3 p4 => by
      walk_at "go"
      rw [g_state p1]
      walk_at "num"
      simp only [p1]
      refine ⟨sl_lt (Nat.le_of_ble_eq_true rfl), ?_⟩
      rw [dk_state]
      exact hnx _ _ ⟨_, _, _, f, _, fs, rfl, n1, at_set p1, at_set_ne n1.symm p2, p3, at_set_ne hq.symm p4⟩
    by_cases hz : 1000000000000000000 ≤ u
    · rw [decide_eq_true hz]
      walk_at "go"
      refine ⟨sl_le (by decide), ?_⟩
      rw [g_deep (at_old p1)]
      walk_at "go"
      rw [fAdd_ll' (at_new _ _) (at_old p2) (by simp; omega)]
      walk_at "go"
      simp only [at_old (at_old p1)]
      refine ⟨sl_lt (Nat.le_of_ble_eq_true rfl), ?_⟩
      rw [dk_deep]
      have hjl := lt_of_at p1
      have w1 : (S ++ [Cell.lst [PV.int u]]).length = S.length + 1 := by simp
      have := fin (S.length + 1) (u :: fs) (List.set (S ++ [Cell.lst [PV.int u]] ++ [Cell.lst ([PV.int u] ++ fs.map PV.int)]) j (.dic (dkd (S.length + 1) st))) (by omega) (at_set (at_old (at_old p1))) (at_set_ne (by omega) (by rw [← w1]; exact at_new _ _)) (by simp; omega) (at_set_ne hq.symm (at_old (at_old p4)))
      rw [w1]
      walk_at "go"
      walk_at "go"
      exact this
    · rw [decide_eq_false hz]
      walk_at "go"
      have := fin f fs S n1 p1 p2 (by omega) p4
      walk_at "go"
      exact this
  · rintro env S ⟨e2, e3, e4, f, st, fs, rfl, n1, p1, p2, p3, p4⟩
    refine ⟨(eGL p4 rfl).trans (congrArg some (by simp)), ?_⟩
    walk_at "go"
    exact hP _ _ ⟨j, f, rfl, n1, st, fs, p1, p2, by omega⟩
end Lw
set_option Elab.async false
set_option linter.all false
set_option maxRecDepth 100000
set_option maxHeartbeats 1000000
namespace Lw
open PySem PySem.Spec PyProof.Rows L2 Lt
local macro_rules | `(tactic| walk_at "go") => `(tactic| try simp only [wSq, wSet, wRet, wDrop, wAsg, wPar, wNx, wIfS, wVar, wC, wOp, wCons, wNil, wB, wNot, wTup, wLst, wCall, wM, wOrT, wAndT, wIf, wNeg, wSl, wNoP, wP, wTru, wSeqI, wR1, wR2, wFor, wWhile, wYes, wDPut, wF, wFK, wEnum, wEnumA, wZipM, wM0, wJoined, wJs, wFmt, wNo, perm, List.getD_cons_zero, List.getD_cons_succ, bInt_b, keyOf_str, wDict, wPairs, wLc, wipeP, decide_true, decide_false, Bool.not_true, Bool.not_false, List.isEmpty_nil, List.isEmpty_cons,
  gN, gT, gsC, gsN, Option.bind_some, Option.map_some, List.getElem?_cons_zero, List.getElem?_cons_succ, List.set_cons_zero, List.set_cons_succ, List.map_cons, List.map_nil, List.length_cons, List.length_nil, List.replicate_succ, List.replicate_zero, List.append_nil, List.nil_append, List.cons_append,
  fAdd_ii, fI_ii, Lt.gSub, Lt.gB, opt_go, bMin_ii, bInt_i, bLen_t, fEq_ii, fNe_ii, tru_b, bIsi_tt, bIsi_it])

/-! entries -/
def ents : List (Str × List Str) := [("readers", ["none", "perhaps", "sure"]), ("further", ["none", "perhaps", "sure"]), ("stop", ["marked", "unraised", "never"]), ("perhaps", ["answer", "check", "work"]), ("sure", ["answer", "check", "work"]), ("check", ["values", "mark"]), ("change", ["none", "sure"]), ("write", ["first", "last", "between"]), ("strike", ["ahead", "behind", "unless"]), ("enter", ["ahead", "behind"]), ("old", ["struck", "kept"]), ("hands", ["one", "any"])]
abbrev eP (e : Str × List Str) : PV := .tup [.str e.1, .tup (e.2.map .str)]
theorem c_ents : c_ENTRIES = .tup (ents.map eP) := rfl
def EntOk (lo : Nat) (S : Store) (es : List PV) : Prop := es.length = 12 ∧ ∀ (i : Nat) (e : Str × List Str), ents[i]? = some e → ∃ w, es[i]? = some (.tup [.str e.1, .ref w]) ∧ lo ≤ w ∧ S[w]? = some (.lst (e.2.map .str))
def cEn : Con := conG (G := Unit) (fun _ xs S => xs = []) (fun _ xs S x S' => Kp [] S S' ∧ ∃ m es, x = .ref m ∧ S.length ≤ m ∧ S'[m]? = some (.lst es) ∧ EntOk S.length S' es)
theorem at_app (S0 L : Store) (k : Nat) : (S0 ++ L)[S0.length + k]? = L[k]? := by rw [List.getElem?_append_right (Nat.le_add_right _ _), Nat.add_sub_cancel_left]
theorem at_app0 (S0 L : Store) : (S0 ++ L)[S0.length]? = L[0]? := at_app S0 L 0
theorem Kp.apps {M : List Nat} (S0 L : Store) : Kp M S0 (S0 ++ L) := ⟨by simp, fun n c _ e => by rw [List.getElem?_append_left (lt_of_at e)]; exact e⟩
theorem opt_add {n m : Nat} {xs ys : List PV} {S : Store} {Q : PQ} (h1 : S[n]? = some (.lst xs)) (h2 : S[m]? = some (.lst ys)) (h : xs.length + ys.length ≤ 1000) (k : Q (.ref S.length) (S ++ [.lst (xs ++ ys)])) : opt (fAdd (.ref n) (.ref m) S) Q := by
  rw [fAdd_ll' h1 h2 (by omega)]
  exact k
local macro_rules | `(tactic| walk_at "flat") => `(tactic| simp only [List.append_assoc, List.cons_append, List.nil_append, List.length_append, List.length_cons, List.length_nil, Nat.zero_add, Nat.add_assoc, Nat.reduceAdd])
theorem pl_law_entries (xs : List PV) (S0 : Store) (P : PQ) (h : cEn xs S0 P) : b_law_entries (xs.map some ++ List.replicate (N_law_entries.length - xs.length) none) S0 ⟨fun _ S' => P .non S', P, fun _ _ => False, fun _ _ => False⟩ := by
  obtain ⟨_, rfl, hP⟩ := h
  unfold b_law_entries
  walk_at "go"
  simp only [List.append_assoc, List.cons_append, List.nil_append, List.length_append, List.length_cons, List.length_nil, Nat.zero_add, Nat.reduceAdd]
  refine ⟨sl_le (by decide), sl_le (by decide), sl_le (by decide), sl_le (by decide), sl_le (by decide), sl_le (by decide), sl_le (by decide), sl_le (by decide), sl_le (by decide), sl_le (by decide), sl_le (by decide), sl_le (by decide), ?_⟩
  refine ⟨sl_le (by decide), sl_le (by decide), ?_⟩
  refine opt_add ((at_app _ _ 3).trans rfl) ((at_app _ _ 6).trans rfl) (Nat.le_of_ble_eq_true rfl) ?_
  refine ⟨sl_le (by decide), sl_le (by decide), sl_le (by decide), sl_le (by decide), sl_le (by decide), ?_⟩
  walk_at "flat"
  refine opt_add ((at_app _ _ 7).trans rfl) ((at_app _ _ 10).trans rfl) (Nat.le_of_ble_eq_true rfl) ?_
  refine ⟨sl_le (by decide), sl_le (by decide), sl_le (by decide), sl_le (by decide), sl_le (by decide), sl_le (by decide), sl_le (by decide), ?_⟩
  walk_at "flat"
  refine opt_add ((at_app _ _ 11).trans rfl) ((at_app _ _ 15).trans rfl) (Nat.le_of_ble_eq_true rfl) ?_
  walk_at "flat"
  refine hP _ _ ⟨Kp.apps _ _, S0.length + 16, _, rfl, by omega, (at_app _ _ 16).trans rfl, rfl, fun i e he => ?_⟩
  match i, he with
  | 0, he => cases he; exact ⟨_, rfl, by omega, (at_app0 _ _).trans rfl⟩
  | 1, he => cases he; exact ⟨_, rfl, by omega, (at_app0 _ _).trans rfl⟩
  | 2, he => cases he; exact ⟨_, rfl, by omega, (at_app _ _ 2).trans rfl⟩
  | 3, he => cases he; exact ⟨_, rfl, by omega, (at_app _ _ 1).trans rfl⟩
  | 4, he => cases he; exact ⟨_, rfl, by omega, (at_app _ _ 1).trans rfl⟩
  | 5, he => cases he; exact ⟨_, rfl, by omega, (at_app _ _ 4).trans rfl⟩
  | 6, he => cases he; exact ⟨_, rfl, by omega, (at_app _ _ 5).trans rfl⟩
  | 7, he => cases he; exact ⟨_, rfl, by omega, (at_app _ _ 8).trans rfl⟩
  | 8, he => cases he; exact ⟨_, rfl, by omega, (at_app _ _ 9).trans rfl⟩
  | 9, he => cases he; exact ⟨_, rfl, by omega, (at_app _ _ 12).trans rfl⟩
  | 10, he => cases he; exact ⟨_, rfl, by omega, (at_app _ _ 13).trans rfl⟩
  | 11, he => cases he; exact ⟨_, rfl, by omega, (at_app _ _ 14).trans rfl⟩
  | i + 12, he => exact absurd he (by simp [ents])
end Lw
set_option Elab.async false
set_option linter.all false
set_option maxRecDepth 100000
set_option maxHeartbeats 1000000
namespace Lw
open PySem PySem.Spec PyProof.Rows L2 Lt
local macro_rules | `(tactic| walk_at "go") => `(tactic| try simp only [wSq, wSet, wRet, wDrop, wAsg, wPar, wNx, wIfS, wVar, wC, wOp, wCons, wNil, wB, wNot, wTup, wLst, wCall, wM, wOrT, wAndT, wIf, wNeg, wSl, wNoP, wP, wTru, wSeqI, wR1, wR2, wFor, wWhile, wYes, wDPut, wF, wFK, wEnum, wEnumA, wZipM, wM0, wJoined, wJs, wFmt, wNo, perm, List.getD_cons_zero, List.getD_cons_succ, bInt_b, keyOf_str, wDict, wPairs, wLc, wipeP, decide_true, decide_false, Bool.not_true, Bool.not_false, List.isEmpty_nil, List.isEmpty_cons,
  gN, gT, gsC, gsN, Option.bind_some, Option.map_some, List.getElem?_cons_zero, List.getElem?_cons_succ, List.set_cons_zero, List.set_cons_succ, List.map_cons, List.map_nil, List.length_cons, List.length_nil, List.replicate_succ, List.replicate_zero, List.append_nil, List.nil_append, List.cons_append,
  fAdd_ii, fI_ii, Lt.gSub, Lt.gB, opt_go, bMin_ii, bInt_i, bLen_t, fEq_ii, fNe_ii, tru_b, bIsi_tt, bIsi_it])

local macro_rules | `(tactic| walk_at "flat") => `(tactic| simp only [List.append_assoc, List.cons_append, List.nil_append, List.length_append, List.length_cons, List.length_nil, Nat.zero_add, Nat.add_assoc, Nat.reduceAdd])
/-! books -/
def Bk (b : List Str) : Prop := b.length = 12 ∧ ∀ (i : Nat) (e : Str × List Str) (w : Str), ents[i]? = some e → b[i]? = some w → w ∈ e.2
abbrev bP (b : List Str) : PV := .tup (b.map .str)
def lineOf (x y : Str) : Str := x ++ " " ++ y
theorem empty_app (x : Str) : Str.empty ++ x = x := by
  obtain ⟨a⟩ := x
  show (⟨#[] ++ a⟩ : Str) = ⟨a⟩
  rw [Array.empty_append]
def cEl : Con := conG (G := Str × Str) (fun g xs S => xs = [.str g.1, .str g.2] ∧ g.1.length ≤ 1000 ∧ g.2.length ≤ 1000) (fun g xs S x S' => S' = S ∧ x = .str (lineOf g.1 g.2))
theorem pl_entry_line (xs : List PV) (S0 : Store) (P : PQ) (h : cEl xs S0 P) : b_entry_line (xs.map some ++ List.replicate (N_entry_line.length - xs.length) none) S0 ⟨fun _ S' => P .non S', P, fun _ _ => False, fun _ _ => False⟩ := by
  obtain ⟨⟨x, y⟩, ⟨rfl, h1, h2⟩, hP⟩ := h
  dsimp only at *
  unfold b_entry_line
  walk_at "go"
  rw [empty_app]
  have e1 : ((" " : String) : Str).length = 1 := rfl
  refine ⟨sl_le (by omega), sl_le (by omega), sl_le (by rw [strLen_append, e1]; omega), sl_le (by omega), sl_le (by rw [strLen_append, strLen_append, e1]; omega), ?_⟩
  exact hP _ _ ⟨rfl, rfl⟩
def cBk : Con := conG (G := Nat × Nat) (fun g xs S => xs = [.ref g.1] ∧ Dk g.1 g.2 S) (fun g xs S x S' => ∃ b, x = bP b ∧ Bk b ∧ Dk g.1 g.2 S' ∧ Kp [g.1, g.2] S S')
theorem at_str {ys : List Str} {i : Nat} {w : Str} (h : ys[i]? = some w) : (ys.map PV.str)[i]? = some (.str w) := by rw [List.getElem?_map, h]; rfl
theorem ents_at {i : Nat} (h : i < 12) : ∃ e, ents[i]? = some e := ⟨_, List.getElem?_eq_getElem h⟩
theorem ents_words {i : Nat} {e : Str × List Str} (h : ents[i]? = some e) : 0 < e.2.length ∧ e.2.length ≤ 3 ∧ e.1.length ≤ 10 ∧ ∀ w ∈ e.2, w.length ≤ 10 := by
  have key : ∀ e ∈ ents, 0 < e.2.length ∧ e.2.length ≤ 3 ∧ e.1.length ≤ 10 ∧ ∀ w ∈ e.2, w.length ≤ 10 := by decide
  exact key e (List.mem_of_getElem? h)
theorem pl_law_book (xs : List PV) (S0 : Store) (P : PQ) (h : cBk xs S0 P) : b_law_book cEn cPk (xs.map some ++ List.replicate (N_law_book.length - xs.length) none) S0 ⟨fun _ S' => P .non S', P, fun _ _ => False, fun _ _ => False⟩ := by
  obtain ⟨⟨j, f⟩, ⟨rfl, hj⟩, hP⟩ := h
  dsimp only at *
  unfold b_law_book
  walk_at "go"
  refine con_g () rfl ?_
  rintro x S1 ⟨k1, m, es, rfl, lm, hm, hen, hes⟩
  walk_at "go"
  refine seqI_go hm rfl ?_
  obtain ⟨l1, l2⟩ := hj.lt
  have dl := k1.le
  refine lc_inv (n := 12) (fun i S => ∃ ys : List Str, S[S1.length]? = some (.lst (ys.map .str)) ∧ ys.length = i ∧ (∀ (k : Nat) (e : Str × List Str) (w : Str), ents[k]? = some e → ys[k]? = some w → w ∈ e.2) ∧ Dk j f S ∧ Kp [j, f] S1 S) ?_ ?_ ⟨[], at_new _ _, rfl, fun k e w _ hw => by simp at hw, (hj.kept k1).push, .push⟩
  · rintro i S hi ⟨ys, p1, p2, p3, p4, p5⟩
    obtain ⟨e, he⟩ := ents_at hi
    obtain ⟨w, hw1, hw2, hw3⟩ := hes i e he
    obtain ⟨w1, w2, -, -⟩ := ents_words he
    have hm1 := p5.at_ _ _ (by simp; omega) hm
    refine ⟨.tup [.str e.1, .ref w], _, (eGL hm1 rfl).trans (congrArg some hw1), rfl, fun Qt Qe hq _ ht => ?_⟩
    walk_at "go"
    refine ht _ ?_
    walk_at "go"
    refine con_g (j, f, w, e.2.map .str) ⟨rfl, p4, p5.at_ _ _ (by simp; omega) hw3, by show 0 < (e.2.map PV.str).length; simpa using w1, by show (e.2.map PV.str).length < 1000000; simp; omega, by show w ≠ j; omega, by show w ≠ f; omega⟩ ?_
    rintro x S' ⟨hx, q1, q2⟩
    dsimp only at *
    obtain ⟨z, hz, rfl⟩ := List.mem_map.mp hx
    have p1' := q2.at_ _ _ (by simp; omega) p1
    refine hq _ _ _ p1' (sl_lt (by simp; omega)) ⟨ys ++ [z], by rw [at_set p1']; simp, by simp [p2], fun k e' w' he' hw' => ?_, q1.set (by omega) (by omega), (p5.trans q2).set_new (Nat.le_refl _)⟩
    by_cases hk : k < ys.length
    · rw [List.getElem?_append_left hk] at hw'
      exact p3 k e' w' he' hw'
    · rw [List.getElem?_append_right (by omega)] at hw'
      cases ek : k - ys.length with
      | zero =>
        rw [ek] at hw'
        cases hw'
        rw [show k = i by omega, he] at he'
        cases he'
        exact hz
      | succ t => rw [ek] at hw'; simp at hw'
  rintro S ⟨ys, p1, p2, p3, p4, p5⟩
  refine ⟨(eGL (p5.at_ _ _ (by simp; omega) hm) rfl).trans (congrArg some (List.getElem?_eq_none (by omega))), ?_⟩
  walk_at "go"
  rw [bTup_l p1 rfl]
  exact hP _ _ ⟨ys, rfl, ⟨p2, p3⟩, p4, (k1.sub (by simp)).trans p5⟩
/-! texts -/
def linesOf (b : List Str) : List Str := List.zipWith (fun e w => lineOf e.1 w) ents b
def textOf (b : List Str) : Str := Txt.join "\n" (linesOf b)
end Lw
set_option Elab.async false
set_option linter.all false
set_option maxRecDepth 100000
set_option maxHeartbeats 1000000
namespace Lw
open PySem PySem.Spec PyProof.Rows L2 Lt
local macro_rules | `(tactic| walk_at "go") => `(tactic| try simp only [wSq, wSet, wRet, wDrop, wAsg, wPar, wNx, wIfS, wVar, wC, wOp, wCons, wNil, wB, wNot, wTup, wLst, wCall, wM, wOrT, wAndT, wIf, wNeg, wSl, wNoP, wP, wTru, wSeqI, wR1, wR2, wFor, wWhile, wYes, wDPut, wF, wFK, wEnum, wEnumA, wZipM, wM0, wJoined, wJs, wFmt, wNo, perm, List.getD_cons_zero, List.getD_cons_succ, bInt_b, keyOf_str, wDict, wPairs, wLc, wipeP, decide_true, decide_false, Bool.not_true, Bool.not_false, List.isEmpty_nil, List.isEmpty_cons,
  gN, gT, gsC, gsN, Option.bind_some, Option.map_some, List.getElem?_cons_zero, List.getElem?_cons_succ, List.set_cons_zero, List.set_cons_succ, List.map_cons, List.map_nil, List.length_cons, List.length_nil, List.replicate_succ, List.replicate_zero, List.append_nil, List.nil_append, List.cons_append,
  fAdd_ii, fI_ii, Lt.gSub, Lt.gB, opt_go, bMin_ii, bInt_i, bLen_t, fEq_ii, fNe_ii, tru_b, bIsi_tt, bIsi_it])

local macro_rules | `(tactic| walk_at "flat") => `(tactic| simp only [List.append_assoc, List.cons_append, List.nil_append, List.length_append, List.length_cons, List.length_nil, Nat.zero_add, Nat.add_assoc, Nat.reduceAdd])
theorem lines_at {b : List Str} {i : Nat} {e : Str × List Str} {w : Str} (he : ents[i]? = some e) (hw : b[i]? = some w) : (linesOf b)[i]? = some (lineOf e.1 w) := by
  unfold linesOf
  rw [List.getElem?_zipWith, he, hw]
theorem lines_len {b : List Str} (h : Bk b) : (linesOf b).length = 12 := by
  unfold linesOf
  rw [List.length_zipWith, h.1]
  rfl
theorem Bk.at_ {b : List Str} (h : Bk b) {i : Nat} (hi : i < 12) : ∃ e w, ents[i]? = some e ∧ b[i]? = some w ∧ w ∈ e.2 := by
  obtain ⟨e, he⟩ := ents_at hi
  have hl : i < b.length := by rw [h.1]; exact hi
  have hw : b[i]? = some b[i] := List.getElem?_eq_getElem hl
  exact ⟨e, _, he, hw, h.2 i e _ he hw⟩
theorem line_len {i : Nat} {e : Str × List Str} {w : Str} (he : ents[i]? = some e) (hw : w ∈ e.2) : (lineOf e.1 w).length ≤ 21 := by
  obtain ⟨-, -, h1, h2⟩ := ents_words he
  have := h2 w hw
  have e1 : ((" " : String) : Str).length = 1 := rfl
  unfold lineOf
  rw [strLen_append, strLen_append, e1]
  omega
theorem allStr_map : ∀ ys : List Str, allStr (ys.map .str) = some ys
  | [] => rfl
  | y :: ys => by
    show (allStr (ys.map .str)).map _ = _
    rw [allStr_map ys]; rfl
theorem sum_bd : ∀ {ys : List Str}, (∀ y ∈ ys, y.length ≤ 21) → (ys.map (·.length)).sum ≤ ys.length * 21
  | [], _ => Nat.le_refl _
  | y :: ys, h => by
    have := sum_bd (ys := ys) fun z hz => h z (List.mem_cons_of_mem _ hz)
    have := h y (by simp)
    simp only [List.map_cons, List.sum_cons, List.length_cons, Nat.succ_mul]
    omega
theorem lines_bd {b : List Str} (h : Bk b) : ∀ y ∈ linesOf b, y.length ≤ 21 := fun y hy => by
  obtain ⟨i, hi⟩ := List.mem_iff_getElem?.mp hy
  have hl := (List.getElem?_eq_some_iff.mp hi).1
  rw [lines_len h] at hl
  obtain ⟨e, w, he, hw, hm⟩ := h.at_ hl
  rw [lines_at he hw] at hi
  cases hi
  exact line_len he hm
theorem join_ok {b : List Str} (h : Bk b) {d : Nat} {S : Store} (hd : S[d]? = some (.lst ((linesOf b).map .str))) : mJoin (.str "\n") [.ref d] S = some (.str (textOf b), S) := by
  unfold mJoin
  simp only [seqOf_l hd rfl, allStr_map]
  have h1 := sum_bd (lines_bd h)
  have h2 := lines_len h
  have e1 : ((("\n" : String) : Str)).length = 1 := rfl
  rw [if_pos (by rw [e1]; omega)]
  rfl
def cBT : Con := conG (G := List Str) (fun b xs S => xs = [bP b] ∧ Bk b) (fun b xs S x S' => Kp [] S S' ∧ x = .str (textOf b))
theorem gZT_at {xs ys : List PV} {i : Nat} {x y : PV} {S : Store} (h1 : xs[i]? = some x) (h2 : ys[i]? = some y) : gZT xs ys i S = some (some (.tup [x, y])) := by unfold gZT; rw [h1, h2]
theorem gZT_end {xs ys : List PV} {i : Nat} {S : Store} (h1 : xs[i]? = none) : gZT xs ys i S = some none := by unfold gZT; rw [h1]
theorem ixe (e : Str × List Str) (S : Store) : fIx (eP e) (.int 0) S = some (.str e.1, S) := fIx_t (j := 0) rfl
theorem pl_book_text (xs : List PV) (S0 : Store) (P : PQ) (h : cBT xs S0 P) : b_book_text cEl (xs.map some ++ List.replicate (N_book_text.length - xs.length) none) S0 ⟨fun _ S' => P .non S', P, fun _ _ => False, fun _ _ => False⟩ := by
  obtain ⟨b, ⟨rfl, hb⟩, hP⟩ := h
  unfold b_book_text
  rw [c_ents]
  walk_at "go"
  refine ⟨rfl, ?_⟩
  refine lc_inv (n := 12) (fun i S => S[S0.length]? = some (.lst (((linesOf b).take i).map .str)) ∧ Kp [] S0 S) ?_ ?_ ⟨at_new _ _, .push⟩
  · rintro i S hi ⟨p1, p2⟩
    obtain ⟨e, w, he, hw, hm⟩ := hb.at_ hi
    obtain ⟨-, -, g1, g2⟩ := ents_words he
    have g3 := g2 w hm
    refine ⟨.tup [eP e, .str w], _, gZT_at (by rw [List.getElem?_map, he]; rfl) (at_str hw), rfl, fun Qt Qe hq _ ht => ?_⟩
    walk_at "go"
    refine ht _ ?_
    walk_at "go"
    rw [ixe]
    walk_at "go"
    refine con_g (e.1, w) ⟨rfl, by show e.1.length ≤ 1000; omega, by show w.length ≤ 1000; omega⟩ ?_
    rintro x S' ⟨rfl, rfl⟩
    refine hq _ _ _ p1 (sl_lt (by simp; omega)) ⟨?_, p2.set_new (Nat.le_refl _)⟩
    rw [at_set p1, List.take_succ, lines_at he hw]
    simp
  rintro S ⟨p1, p2⟩
  refine ⟨gZT_end (by rw [List.getElem?_map]; rfl), ?_⟩
  rw [List.take_of_length_le (by rw [lines_len hb]; exact Nat.le_refl _)] at p1
  rw [join_ok hb p1]
  exact hP _ _ ⟨p2, rfl⟩
def cLT : Con := conG (G := List Str) (fun b xs S => xs = [bP b] ∧ Bk b) (fun b xs S x S' => Kp [] S S' ∧ x = .str (textOf b))
theorem fAdd_ss {x y : Str} {S : Store} (h : x.length + y.length ≤ 16777216) : fAdd (.str x) (.str y) S = some (.str (x ++ y), S) := cut_ok h
theorem gZM_at {xs ys : List PV} {n i : Nat} {x y : PV} {S : Store} (h : S[n]? = some (.lst ys)) (h1 : xs[i]? = some x) (h2 : ys[i]? = some y) : gZM xs n i S = some (some (.tup [x, y])) := by
  unfold gZM
  simp only [h, Cell.items, h1, h2]
theorem gZM_end {xs ys : List PV} {n i : Nat} {S : Store} (h : S[n]? = some (.lst ys)) (h1 : xs.length = i) (h2 : ys.length = i) : gZM xs n i S = some none := by
  unfold gZM
  simp only [h, Cell.items, List.getElem?_eq_none (Nat.le_of_eq h1)]
  rw [if_pos (by omega)]
theorem pl_law_text (xs : List PV) (S0 : Store) (P : PQ) (h : cLT xs S0 P) : b_law_text cEn (xs.map some ++ List.replicate (N_law_text.length - xs.length) none) S0 ⟨fun _ S' => P .non S', P, fun _ _ => False, fun _ _ => False⟩ := by
  obtain ⟨b, ⟨rfl, hb⟩, hP⟩ := h
  unfold b_law_text
  walk_at "go"
  refine ⟨rfl, ?_⟩
  refine con_g () rfl ?_
  rintro x S1 ⟨k1, m, es, rfl, lm, hm, hen, hes⟩
  walk_at "go"
  refine seqI_go hm rfl ?_
  refine lc_inv (n := 12) (fun i S => S[S1.length]? = some (.lst (((linesOf b).take i).map .str)) ∧ Kp [] S1 S) ?_ ?_ ⟨at_new _ _, .push⟩
  · rintro i S hi ⟨p1, p2⟩
    obtain ⟨e, w, he, hw, hm'⟩ := hb.at_ hi
    obtain ⟨-, -, g1, g2⟩ := ents_words he
    have g3 := g2 w hm'
    obtain ⟨v, hv1, hv2, hv3⟩ := hes i e he
    refine ⟨.tup [.str w, .tup [.str e.1, .ref v]], _, gZM_at (p2.at_ _ _ (by simp) hm) (at_str hw) hv1, rfl, fun Qt Qe hq _ ht => ?_⟩
    walk_at "go"
    refine ht _ ?_
    walk_at "go"
    have e1 : ((" " : String) : Str).length = 1 := rfl
    rw [fAdd_ss (by omega)]
    walk_at "go"
    rw [fAdd_ss (by rw [strLen_append, e1]; omega)]
    walk_at "go"
    refine hq _ _ _ p1 (sl_lt (by simp; omega)) ⟨?_, p2.set_new (Nat.le_refl _)⟩
    rw [at_set p1, List.take_succ, lines_at he hw]
    simp [lineOf]
  rintro S ⟨p1, p2⟩
  refine ⟨gZM_end (p2.at_ _ _ (by simp) hm) (by rw [List.length_map]; exact hb.1) hen, ?_⟩
  rw [List.take_of_length_le (by rw [lines_len hb]; exact Nat.le_refl _)] at p1
  rw [join_ok hb p1]
  exact hP _ _ ⟨k1.trans p2, rfl⟩
end Lw
set_option Elab.async false
set_option linter.all false
set_option maxRecDepth 100000
set_option maxHeartbeats 1000000
namespace Lw
open PySem PySem.Spec PyProof.Rows L2 Lt
open TL (tl tl_append ext_tl)
local macro_rules | `(tactic| walk_at "go") => `(tactic| try simp only [wSq, wSet, wRet, wDrop, wAsg, wPar, wNx, wIfS, wVar, wC, wOp, wCons, wNil, wB, wNot, wTup, wLst, wCall, wM, wOrT, wAndT, wIf, wNeg, wSl, wNoP, wP, wTru, wSeqI, wR1, wR2, wFor, wWhile, wYes, wDPut, wF, wFK, wEnum, wEnumA, wZipM, wM0, wJoined, wJs, wFmt, wNo, perm, List.getD_cons_zero, List.getD_cons_succ, bInt_b, keyOf_str, wDict, wPairs, wLc, wipeP, decide_true, decide_false, Bool.not_true, Bool.not_false, List.isEmpty_nil, List.isEmpty_cons,
  gN, gT, gsC, gsN, Option.bind_some, Option.map_some, List.getElem?_cons_zero, List.getElem?_cons_succ, List.set_cons_zero, List.set_cons_succ, List.map_cons, List.map_nil, List.length_cons, List.length_nil, List.replicate_succ, List.replicate_zero, List.append_nil, List.nil_append, List.cons_append,
  fAdd_ii, fI_ii, Lt.gSub, Lt.gB, opt_go, bMin_ii, bInt_i, bLen_t, fEq_ii, fNe_ii, tru_b, bIsi_tt, bIsi_it])

local macro_rules | `(tactic| walk_at "flat") => `(tactic| simp only [List.append_assoc, List.cons_append, List.nil_append, List.length_append, List.length_cons, List.length_nil, Nat.zero_add, Nat.add_assoc, Nat.reduceAdd])
/-! reading -/
theorem app_inj {x y z : Str} (h : x ++ y = x ++ z) : y = z := by
  have := congrArg tl h
  rw [tl_append, tl_append] at this
  exact ext_tl (List.append_cancel_left this)
theorem line_inj {x y z : Str} (h : lineOf x y = lineOf x z) : y = z := app_inj (x := x ++ " ") h
theorem fEq_ss (x y : Str) (S : Store) : fEq (.str x) (.str y) S = some (.bl (decide (x = y)), S) := rfl
def cRW : Con := conG (G := Nat × (Str × List Str) × Str) (fun g xs S => xs = [.str (lineOf g.2.1.1 g.2.2), .str g.2.1.1, .tup (g.2.1.2.map .str)] ∧ ents[g.1]? = some g.2.1 ∧ g.2.2 ∈ g.2.1.2) (fun g xs S x S' => S' = S ∧ x = .str g.2.2)
theorem pl_read_word (xs : List PV) (S0 : Store) (P : PQ) (h : cRW xs S0 P) : b_read_word cEl (xs.map some ++ List.replicate (N_read_word.length - xs.length) none) S0 ⟨fun _ S' => P .non S', P, fun _ _ => False, fun _ _ => False⟩ := by
  obtain ⟨⟨i, e, w⟩, ⟨rfl, he, hw⟩, hP⟩ := h
  dsimp only at *
  obtain ⟨-, -, g1, g2⟩ := ents_words he
  unfold b_read_word
  walk_at "go"
  refine loop_inv (n := e.2.length) (fun k env S => S = S0 ∧ ∃ e3, env = [some (.str (lineOf e.1 w)), some (.str e.1), some (.tup (e.2.map .str)), e3] ∧ ∀ u ∈ e.2.take k, u ≠ w) ?_ ?_ ⟨rfl, none, rfl, fun u hu => by simp at hu⟩
  · rintro k env S hk ⟨rfl, e3, rfl, hn⟩
    have hu : e.2[k]? = some e.2[k] := List.getElem?_eq_getElem hk
    generalize hv : e.2[k] = v at hu
    have hvm : v ∈ e.2 := List.mem_of_getElem? hu
    have g3 := g2 v hvm
    refine ⟨.str v, _, congrArg some (at_str hu), rfl, fun D' hnx _ hrt _ => ?_⟩
    walk_at "go"
    refine con_g (e.1, v) ⟨rfl, by show e.1.length ≤ 1000; omega, by show v.length ≤ 1000; omega⟩ ?_
    rintro x S' ⟨rfl, rfl⟩
    rw [fEq_ss]
    walk_at "go"
    by_cases q : w = v
    · subst q
      rw [decide_eq_true rfl]
      walk_at "go"
      rw [hrt]
      exact hP _ _ ⟨rfl, rfl⟩
    · rw [decide_eq_false (fun z => q (line_inj z))]
      walk_at "go"
      refine hnx _ _ ⟨rfl, _, rfl, fun u hu' => ?_⟩
      rw [take_snoc hu, List.mem_append, List.mem_singleton] at hu'
      rcases hu' with hu' | rfl
      · exact hn u hu'
      · exact Ne.symm q
  · rintro env S ⟨rfl, e3, rfl, hn⟩
    rw [List.take_length] at hn
    exact (hn w hw rfl).elim
theorem no_nl {i : Nat} {e : Str × List Str} {w : Str} (he : ents[i]? = some e) (hw : w ∈ e.2) : 10 ∉ tl (lineOf e.1 w) := by
  have key : ∀ e ∈ ents, ∀ w ∈ e.2, 10 ∉ tl (lineOf e.1 w) := by decide +kernel
  exact key e (List.mem_of_getElem? he) w hw
theorem split_text {b : List Str} (h : Bk b) : Txt.split (textOf b) "\n" = linesOf b := by
  refine TL.split_join (s := 10) (S := []) rfl (by decide +kernel) (fun z => by have := lines_len h; rw [z] at this; cases this) fun p hp => ?_
  obtain ⟨i, hi⟩ := List.mem_iff_getElem?.mp hp
  have hl := (List.getElem?_eq_some_iff.mp hi).1
  rw [lines_len h] at hl
  obtain ⟨e, w, he, hw, hm⟩ := h.at_ hl
  rw [lines_at he hw] at hi
  cases hi
  exact no_nl he hm
theorem text_len {b : List Str} (h : Bk b) : (textOf b).length ≤ 1000 := by
  have h1 := sum_bd (lines_bd h)
  have h2 := lines_len h
  have := StrLaws.join_length_le "\n" (linesOf b)
  have e1 : ((("\n" : String) : Str)).length = 1 := rfl
  unfold textOf
  rw [TL.join_eq]
  rw [e1] at this
  omega
def cRd : Con := conG (G := List Str) (fun b xs S => xs = [.str (textOf b)] ∧ Bk b) (fun b xs S x S' => Kp [] S S' ∧ x = bP b)
theorem bIsi_str (x : Str) (S : Store) : bIsi [.str x, .ty "str"] S = some (.bl true, S) := rfl
theorem fIs_sn (x : Str) (S : Store) : fIs (.str x) .non S = some (.bl false, S) := rfl
theorem gET_at {xs : List PV} {i : Nat} {x : PV} {S : Store} (h : xs[i]? = some x) : gET xs i S = some (some (.tup [.int (i : Nat), x])) := by
  unfold gET
  rw [if_pos (List.getElem?_eq_some_iff.mp h).1, h]; rfl
theorem gET_end {xs : List PV} {S : Store} : gET xs xs.length S = some none := by
  unfold gET
  rw [if_neg (Nat.lt_irrefl _), if_pos rfl]
theorem split_ok {x : Str} {S : Store} (h : x.length + 2 ≤ 16777216) : mSplit (.str x) [.str "\n"] S = some (.ref S.length, S ++ [.lst ((Txt.split x "\n").map .str)]) := if_pos ⟨rfl, sl_le h⟩
theorem pl_read_book (xs : List PV) (S0 : Store) (P : PQ) (h : cRd xs S0 P) : b_read_book cRW (xs.map some ++ List.replicate (N_read_book.length - xs.length) none) S0 ⟨fun _ S' => P .non S', P, fun _ _ => False, fun _ _ => False⟩ := by
  obtain ⟨b, ⟨rfl, hb⟩, hP⟩ := h
  unfold b_read_book
  rw [c_ents]
  walk_at "go"
  rw [bIsi_str]
  walk_at "go"
  have tl1 := text_len hb
  refine ⟨rfl, ?_⟩
  rw [split_ok (by omega), split_text hb]
  walk_at "go"
  refine ⟨sl_le (by decide), ?_⟩
  have e1 : (S0 ++ [Cell.lst ((linesOf b).map PV.str)]).length = S0.length + 1 := by simp
  rw [e1]
  have a1 := at_old (c := .lst []) (at_new S0 (.lst ((linesOf b).map PV.str)))
  have a2 : (S0 ++ [Cell.lst ((linesOf b).map PV.str)] ++ [Cell.lst []])[S0.length + 1]? = some (.lst []) := by rw [← e1]; exact at_new _ _
  have kk : Kp [] S0 (S0 ++ [Cell.lst ((linesOf b).map PV.str)] ++ [Cell.lst []]) := Kp.push.trans .push
  generalize (S0 ++ [Cell.lst ((linesOf b).map PV.str)] ++ [Cell.lst []]) = S1 at *
  refine loop_inv (n := 12) (fun i env S => ∃ e3 e4 e5 e6, env = [some (.str (textOf b)), some (.ref S0.length), some (.ref (S0.length + 1)), e3, e4, e5, e6] ∧ S[S0.length]? = some (.lst ((linesOf b).map .str)) ∧ S[S0.length + 1]? = some (.lst ((b.take i).map .str)) ∧ Kp [] S0 S) ?_ ?_ ⟨none, none, none, none, rfl, a1, a2, kk⟩
  · rintro i env S hi ⟨e3, e4, e5, e6, rfl, p1, p2, p3⟩
    obtain ⟨e, w, he, hw, hm⟩ := hb.at_ hi
    refine ⟨.tup [.int (i : Nat), eP e], _, gET_at (by rw [List.getElem?_map, he]; rfl), rfl, fun D' hnx _ _ _ => ?_⟩
    walk_at "go"
    rw [bLen_l p1 rfl]
    walk_at "go"
    rw [decide_eq_true (by rw [List.length_map, lines_len hb]; omega)]
    walk_at "go"
    rw [fIx_l p1 rfl (at_str (lines_at he hw))]
    walk_at "go"
    refine con_g (i, e, w) ⟨rfl, he, hm⟩ ?_
    rintro x S' ⟨rfl, rfl⟩
    dsimp only
    rw [fIs_sn]
    walk_at "go"
    refine ⟨ty_l' p2, ?_⟩
    rw [app_ok p2 (by simp; omega)]
    walk_at "go"
    refine hnx _ _ ⟨_, _, _, _, rfl, at_set_ne (by omega) p1, ?_, p3.set_new (Nat.le_succ _)⟩
    rw [at_set p2, take_snoc hw]
    simp
  · rintro env S ⟨e3, e4, e5, e6, rfl, p1, p2, p3⟩
    refine ⟨gET_end (xs := ents.map eP), ?_⟩
    walk_at "go"
    rw [bLen_l p1 rfl]
    walk_at "go"
    rw [decide_eq_false (by rw [List.length_map, List.length_map, lines_len hb]; decide)]
    walk_at "go"
    rw [List.take_of_length_le (by rw [hb.1]; exact Nat.le_refl _)] at p2
    rw [bTup_l p2 rfl]
    exact hP _ _ ⟨p3, rfl⟩
end Lw
set_option Elab.async false
set_option linter.all false
set_option maxRecDepth 100000
set_option maxHeartbeats 1000000
namespace Lw
open PySem PySem.Spec PyProof.Rows L2 Lt
open TL (tl tl_append ext_tl)
local macro_rules | `(tactic| walk_at "go") => `(tactic| try simp only [wSq, wSet, wRet, wDrop, wAsg, wPar, wNx, wIfS, wVar, wC, wOp, wCons, wNil, wB, wNot, wTup, wLst, wCall, wM, wOrT, wAndT, wIf, wNeg, wSl, wNoP, wP, wTru, wSeqI, wR1, wR2, wFor, wWhile, wYes, wDPut, wF, wFK, wEnum, wEnumA, wZipM, wM0, wJoined, wJs, wFmt, wNo, perm, List.getD_cons_zero, List.getD_cons_succ, bInt_b, keyOf_str, wDict, wPairs, wLc, wipeP, decide_true, decide_false, Bool.not_true, Bool.not_false, List.isEmpty_nil, List.isEmpty_cons,
  gN, gT, gsC, gsN, Option.bind_some, Option.map_some, List.getElem?_cons_zero, List.getElem?_cons_succ, List.set_cons_zero, List.set_cons_succ, List.map_cons, List.map_nil, List.length_cons, List.length_nil, List.replicate_succ, List.replicate_zero, List.append_nil, List.nil_append, List.cons_append,
  fAdd_ii, fI_ii, Lt.gSub, Lt.gB, opt_go, bMin_ii, bInt_i, bLen_t, fEq_ii, fNe_ii, tru_b, bIsi_tt, bIsi_it])

local macro_rules | `(tactic| walk_at "flat") => `(tactic| simp only [List.append_assoc, List.cons_append, List.nil_append, List.length_append, List.length_cons, List.length_nil, Nat.zero_add, Nat.add_assoc, Nat.reduceAdd])
/-! as data -/
def Asc (x : Str) : Prop := ∀ c ∈ tl x, c < 128
theorem word_asc {i : Nat} {e : Str × List Str} {w : Str} (he : ents[i]? = some e) (hw : w ∈ e.2) : Asc w ∧ Asc (lineOf e.1 w) := by
  have key : ∀ e ∈ ents, ∀ w ∈ e.2, (∀ c ∈ tl w, c < 128) ∧ ∀ c ∈ tl (lineOf e.1 w), c < 128 := by decide +kernel
  exact key e (List.mem_of_getElem? he) w hw
theorem joinL_mem {S : List Nat} {c : Nat} : ∀ {ps : List (List Nat)}, c ∈ TL.joinL S ps → c ∈ S ∨ ∃ p ∈ ps, c ∈ p
  | [], h => (List.not_mem_nil h).elim
  | [p], h => .inr ⟨p, by simp, h⟩
  | p :: q :: r, h => by
    rcases List.mem_append.mp h with h | h
    · exact .inr ⟨p, by simp, h⟩
    · rcases List.mem_append.mp h with h | h
      · exact .inl h
      · rcases joinL_mem h with h | ⟨z, hz, h⟩
        · exact .inl h
        · exact .inr ⟨z, List.mem_cons_of_mem _ hz, h⟩
theorem text_asc {b : List Str} (h : Bk b) : Asc (textOf b) := fun c hc => by
  unfold textOf at hc
  rw [TL.join_eq, TL.tl_join] at hc
  rcases joinL_mem hc with hc | ⟨p, hp, hc⟩
  · have : tl ("\n" : String) = [10] := rfl
    rw [this, List.mem_singleton] at hc
    omega
  · obtain ⟨y, hy, rfl⟩ := List.mem_map.mp hp
    obtain ⟨i, hi⟩ := List.mem_iff_getElem?.mp hy
    have hl := (List.getElem?_eq_some_iff.mp hi).1
    rw [lines_len h] at hl
    obtain ⟨e, w, he, hw, hm⟩ := h.at_ hl
    rw [lines_at he hw] at hi
    cases hi
    exact (word_asc he hm).2 c hc
theorem okd_str {x : Str} {n : Nat} (h : Asc x) (hl : x.length ≤ n) : Okd 0 (10 * n + 2) (.str x) := by
  refine ⟨by simp [PyData.hasDict], by simp [PyData.showable], by simp [PyData.depth], ?_, ?_⟩
  · have := StrLaws.reprText_len x fun c hc => Nat.lt_trans (h c hc) (by decide)
    show (reprText x).length ≤ _
    omega
  · simp only [PyData.canLay0, PyData.strOk]
    rw [← Array.all_toList, List.all_eq_true]
    exact fun c hc => decide_eq_true (Nat.lt_trans (h c hc) (by decide))
abbrev bD (b : List Str) : PyData := .tuple (b.map .str)
theorem book_word {b : List Str} (h : Bk b) {y : Str} (hy : y ∈ b) : Asc y ∧ y.length ≤ 10 := by
  obtain ⟨i, hi⟩ := List.mem_iff_getElem?.mp hy
  have hl := (List.getElem?_eq_some_iff.mp hi).1
  rw [h.1] at hl
  obtain ⟨e, w, he, hw, hm⟩ := h.at_ hl
  rw [hi] at hw
  cases hw
  exact ⟨(word_asc he hm).1, (ents_words he).2.2.2 _ hm⟩
theorem okd_book {b : List Str} (h : Bk b) : Okd 1 1300 (bD b) := by
  refine (Okd.tup (k := 0) (L := 102) fun d hd => ?_).mono (by decide) (by rw [List.length_map, h.1]; decide)
  obtain ⟨y, hy, rfl⟩ := List.mem_map.mp hd
  obtain ⟨h1, h2⟩ := book_word h hy
  exact okd_str h1 h2
theorem okd_text {b : List Str} (h : Bk b) : Okd 0 10002 (.str (textOf b)) := okd_str (text_asc h) (text_len h)
theorem toD_book (n : Nat) (S : Store) (b : List Str) : toD (n + 2) S (bP b) = some (bD b) := by
  show (optAll (toD (n + 1) S) (b.map .str)).map _ = _
  have : optAll (toD (n + 1) S) (b.map .str) = some (b.map .str) := by
    induction b with
    | nil => rfl
    | cons x b ih =>
      simp only [List.map_cons]
      unfold optAll
      rw [ih]
      rfl
  rw [this]; rfl
theorem toD_books {S : Store} {m : Nat} {bs : List (List Str)} (h : S[m]? = some (.lst (bs.map bP))) : toD 66 S (.ref m) = some (.list (bs.map bD)) := by
  unfold toD
  simp only [h]
  have : optAll (toD 65 S) (bs.map bP) = some (bs.map bD) := by
    clear h
    induction bs with
    | nil => rfl
    | cons x bs ih =>
      simp only [List.map_cons]
      unfold optAll
      rw [ih, toD_book 63]
  rw [this]; rfl
theorem okd_books {bs : List (List Str)} (hl : bs.length ≤ 20) (h : ∀ b ∈ bs, Bk b) : Okd 2 30000 (.list (bs.map bD)) := by
  refine (Okd.lst (k := 1) (L := 1300) fun d hd => ?_).mono (by decide) ?_
  · obtain ⟨b, hb, rfl⟩ := List.mem_map.mp hd
    exact okd_book (h b hb)
  · rw [List.length_map]
    have := Nat.mul_le_mul_right 1302 hl
    omega
theorem bReprA_ok {x : PV} {S : Store} {d : PyData} {k L : Nat} (h : toD 66 S x = some d) (o : Okd k L d) (hk : k ≤ 60) (hL : L ≤ 16777216) : bReprA [x] S = some (.str d.shown, S) := by
  unfold bReprA
  simp only [h]
  exact if_pos ⟨o.nd, o.sh, Nat.le_trans o.dp hk, Nat.le_trans o.ln (sl_le hL)⟩
theorem eqv_strs : ∀ b c : List Str, PyData.eqvAll (b.map .str) (c.map .str) = decide (b = c)
  | [], [] => by simp [PyData.eqvAll]
  | [], _ :: _ => by simp [PyData.eqvAll]
  | _ :: _, [] => by simp [PyData.eqvAll]
  | x :: b, y :: c => by
    simp only [List.map_cons, PyData.eqvAll, eqv_strs b c, PyData.eqv, List.cons.injEq, Bool.decide_and]
    rfl
theorem shaped_book {b : List Str} (h : Bk b) : SeqAt.shaped (bD b) = true := by
  have o := okd_book h
  show (PyData.canLay0 _ && decide (PyData.depth _ ≤ 64)) = true
  rw [o.cl, Bool.true_and, decide_eq_true_eq]
  exact Nat.le_trans o.dp (by decide)
theorem fEq_books {b c : List Str} {S : Store} (hb : Bk b) (hc : Bk c) : fEq (bP b) (bP c) S = some (.bl (decide (b = c)), S) := by
  have e : eqP (bP b) (bP c) S = some (decide (b = c)) := by
    unfold eqP
    simp only [toD_book 64]
    rw [if_pos ⟨shaped_book hb, shaped_book hc⟩]
    show some (PyData.eqv (.tuple _) (.tuple _)) = _
    simp only [PyData.eqv, eqv_strs]
  show (eqP (bP b) (bP c) S).map _ = _
  rw [e]; rfl
theorem text_inj {b c : List Str} (hb : Bk b) (hc : Bk c) (h : textOf b = textOf c) : b = c := by
  have hl : linesOf b = linesOf c := by rw [← split_text hb, h, split_text hc]
  refine List.ext_getElem? fun i => ?_
  by_cases hi : i < 12
  · obtain ⟨e, w, he, hw, _⟩ := hb.at_ hi
    obtain ⟨e', w', he', hw', _⟩ := hc.at_ hi
    rw [he] at he'
    cases he'
    have h1 := lines_at he hw
    have h2 := lines_at he hw'
    rw [hl, h2] at h1
    rw [hw, hw', line_inj (Option.some.inj h1)]
  · rw [List.getElem?_eq_none (by rw [hb.1]; omega), List.getElem?_eq_none (by rw [hc.1]; omega)]
theorem eq_texts {b c : List Str} (hb : Bk b) (hc : Bk c) : decide (textOf b = textOf c) = decide (b = c) := by
  by_cases h : b = c
  · subst h; simp
  · rw [decide_eq_false h, decide_eq_false fun z => h (text_inj hb hc z)]
end Lw
set_option Elab.async false
set_option linter.all false
set_option maxRecDepth 100000
set_option maxHeartbeats 1000000
namespace Lw
open PySem PySem.Spec PyProof.Rows L2 Lt
open TL (tl tl_append ext_tl)
local macro_rules | `(tactic| walk_at "go") => `(tactic| try simp only [wSq, wSet, wRet, wDrop, wAsg, wPar, wNx, wIfS, wVar, wC, wOp, wCons, wNil, wB, wNot, wTup, wLst, wCall, wM, wOrT, wAndT, wIf, wNeg, wSl, wNoP, wP, wTru, wSeqI, wR1, wR2, wFor, wWhile, wYes, wDPut, wF, wFK, wEnum, wEnumA, wZipM, wM0, wJoined, wJs, wFmt, wNo, perm, List.getD_cons_zero, List.getD_cons_succ, bInt_b, keyOf_str, wDict, wPairs, wLc, wipeP, decide_true, decide_false, Bool.not_true, Bool.not_false, List.isEmpty_nil, List.isEmpty_cons,
  gN, gT, gsC, gsN, Option.bind_some, Option.map_some, List.getElem?_cons_zero, List.getElem?_cons_succ, List.set_cons_zero, List.set_cons_succ, List.map_cons, List.map_nil, List.length_cons, List.length_nil, List.replicate_succ, List.replicate_zero, List.append_nil, List.nil_append, List.cons_append,
  fAdd_ii, fI_ii, Lt.gSub, Lt.gB, opt_go, bMin_ii, bInt_i, bLen_t, fEq_ii, fNe_ii, tru_b, bIsi_tt, bIsi_it])

local macro_rules | `(tactic| walk_at "flat") => `(tactic| simp only [List.append_assoc, List.cons_append, List.nil_append, List.length_append, List.length_cons, List.length_nil, Nat.zero_add, Nat.add_assoc, Nat.reduceAdd])
def cTu : Con := conG (G := Nat × Nat × List Str) (fun g xs S => xs = [.ref g.1, bP g.2.2] ∧ Dk g.1 g.2.1 S ∧ Bk g.2.2) (fun g xs S x S' => ∃ c, x = bP c ∧ Bk c ∧ Dk g.1 g.2.1 S' ∧ Kp [g.1, g.2.1] S S')
theorem ents_other {i : Nat} {e : Str × List Str} (he : ents[i]? = some e) (w : Str) : ∃ u ∈ e.2, u ≠ w := by
  have key : ∀ e ∈ ents, ∃ a ∈ e.2, ∃ b ∈ e.2, a ≠ b := by decide
  obtain ⟨a, ha, b, hb, hab⟩ := key e (List.mem_of_getElem? he)
  by_cases h : a = w
  · exact ⟨b, hb, fun z => hab (h.trans z.symm)⟩
  · exact ⟨a, ha, h⟩
theorem fNe_ss (x y : Str) (S : Store) : fNe (.str x) (.str y) S = some (.bl (!decide (x = y)), S) := rfl
theorem cut_lo {b : List Str} {s : Nat} (h : s ≤ b.length) : cutP (b.map PV.str) none (some (s : Int)) = (b.take s).map .str := by
  unfold cutP
  rw [HT.sIx_none, HT.sIx_nat, List.drop_zero, Nat.sub_zero, List.length_map, Nat.min_eq_left h, List.map_take]
theorem cut_hi {b : List Str} {s : Nat} (h : s ≤ b.length) : cutP (b.map PV.str) (some (s : Int)) none = (b.drop s).map .str := by
  unfold cutP
  rw [HT.sIx_none, HT.sIx_nat, List.length_map, Nat.min_eq_left h, ← List.map_drop]
  exact List.take_of_length_le (by simp)
theorem Bk.set {b : List Str} (h : Bk b) {s : Nat} {e : Str × List Str} {y : Str} (he : ents[s]? = some e) (hy : y ∈ e.2) : Bk (b.set s y) := by
  refine ⟨by rw [List.length_set]; exact h.1, fun i e' w he' hw => ?_⟩
  by_cases hi : s = i
  · subst hi
    rw [he] at he'
    cases he'
    have hl : s < b.length := by have := (List.getElem?_eq_some_iff.mp hw).1; rwa [List.length_set] at this
    rw [List.getElem?_set_self hl] at hw
    cases hw
    exact hy
  · rw [List.getElem?_set_ne hi] at hw
    exact h.2 i e' w he' hw
theorem pl_law_turned (xs : List PV) (S0 : Store) (P : PQ) (h : cTu xs S0 P) : b_law_turned cDr cEn cPk (xs.map some ++ List.replicate (N_law_turned.length - xs.length) none) S0 ⟨fun _ S' => P .non S', P, fun _ _ => False, fun _ _ => False⟩ := by
  obtain ⟨⟨j, f, b⟩, ⟨rfl, hj, hb⟩, hP⟩ := h
  dsimp only at *
  unfold b_law_turned
  walk_at "go"
  refine con_g (j, f, 12) ⟨rfl, hj, by show 0 < 12; decide, by show 12 < 1000000; decide⟩ ?_
  rintro x S1 ⟨s, hs, rfl, hj1, k1⟩
  dsimp only at *
  walk_at "go"
  refine con_g () rfl ?_
  rintro x S2 ⟨k2, m, es, rfl, lm, hm, hen, hes⟩
  obtain ⟨e, w, he, hw, hmem⟩ := hb.at_ hs
  obtain ⟨v, hv1, hv2, hv3⟩ := hes s e he
  obtain ⟨w1, w2, -, -⟩ := ents_words he
  walk_at "go"
  rw [fIx_l hm rfl hv1]
  walk_at "go"
  rw [show (1 : Int) = ((1 : Nat) : Int) from rfl, fIx_t (x := .ref v) rfl]
  walk_at "go"
  refine seqI_go hv3 rfl ?_
  have hj2 := hj1.kept k2
  obtain ⟨l1, l2⟩ := hj2.lt
  refine lc_inv (n := e.2.length) (fun i S => Kp [] S2 S ∧ ∃ ys : List Str, S[S2.length]? = some (.lst (ys.map .str)) ∧ ys.length ≤ i ∧ (∀ y ∈ ys, y ∈ e.2) ∧ ∀ u ∈ e.2.take i, u ≠ w → u ∈ ys) ?_ ?_ ⟨.push, [], at_new _ _, Nat.le_refl _, fun y hy => (List.not_mem_nil hy).elim, fun u hu => by simp at hu⟩
  · rintro i S hi ⟨q1, ys, q2, q3, q4, q5⟩
    have hu : e.2[i]? = some e.2[i] := List.getElem?_eq_getElem hi
    generalize hv : e.2[i] = u at hu
    have hum := List.mem_of_getElem? hu
    refine ⟨.str u, _, (eGL (q1.at_ _ _ (by simp) hv3) rfl).trans (congrArg some (at_str hu)), rfl, fun Qt Qe hq hn ht => ?_⟩
    walk_at "go"
    rw [fIx_t (at_str hw)]
    walk_at "go"
    rw [fNe_ss]
    walk_at "go"
    by_cases z : u = w
    · rw [decide_eq_true z]
      refine hn S ⟨q1, ys, q2, by omega, q4, fun t ht' hne => ?_⟩
      rw [take_snoc hu, List.mem_append, List.mem_singleton] at ht'
      rcases ht' with ht' | rfl
      · exact q5 t ht' hne
      · exact (hne z).elim
    · rw [decide_eq_false z]
      refine ht S ?_
      walk_at "go"
      refine hq _ _ _ q2 (sl_lt (by simp; omega)) ⟨q1.set_new (Nat.le_refl _), ys ++ [u], by rw [at_set q2]; simp, by simp; omega, fun y hy => ?_, fun t ht' hne => ?_⟩
      · rcases List.mem_append.mp hy with hy | hy
        · exact q4 y hy
        · rw [List.mem_singleton] at hy; subst hy; exact hum
      · rw [take_snoc hu, List.mem_append, List.mem_singleton] at ht'
        rcases ht' with ht' | rfl
        · exact List.mem_append_left _ (q5 t ht' hne)
        · simp
  rintro S ⟨q1, ys, q2, q3, q4, q5⟩
  rw [List.take_length] at q5
  obtain ⟨u, hu, hne⟩ := ents_other he w
  have pos : 0 < ys.length := List.length_pos_iff.mpr (List.ne_nil_of_mem (q5 u hu hne))
  refine ⟨(eGL (q1.at_ _ _ (by simp) hv3) rfl).trans (congrArg some (List.getElem?_eq_none (by simp))), ?_⟩
  walk_at "go"
  rw [show fSl (bP b) none (some (s : Int)) S = some (.tup (cutP (b.map .str) none (some (s : Int))), S) from rfl]
  walk_at "go"
  have hj3 := hj2.kept q1
  refine con_g (j, f, S2.length, ys.map .str) ⟨rfl, hj3, q2, by show 0 < (ys.map PV.str).length; simpa using pos, by show (ys.map PV.str).length < 1000000; simp; omega, by show S2.length ≠ j; omega, by show S2.length ≠ f; omega⟩ ?_
  rintro x S5 ⟨hx, hj5, k5⟩
  dsimp only at *
  obtain ⟨y, hy, rfl⟩ := List.mem_map.mp hx
  have bl := hb.1
  refine ⟨sl_le (by decide), ?_⟩
  rw [cut_lo (by omega)]
  rw [fAdd_tt (by simp; omega)]
  walk_at "go"
  rw [show fSl (bP b) (some ((s : Int) + ((1 : Nat) : Int))) none S5 = some (.tup (cutP (b.map .str) (some (((s + 1 : Nat)) : Int)) none), S5) from rfl, cut_hi (by omega)]
  walk_at "go"
  rw [fAdd_tt (by simp; omega)]
  have ec : (b.take s).map PV.str ++ [PV.str y] ++ (b.drop (s + 1)).map PV.str = (b.set s y).map .str := by
    rw [List.set_eq_take_append_cons_drop, if_pos (by omega)]
    simp
  rw [ec]
  exact hP _ _ ⟨b.set s y, rfl, hb.set he (q4 y hy), hj5, ((k1.trans (k2.sub (by simp))).trans (q1.sub (by simp))).trans k5⟩
end Lw
set_option Elab.async false
set_option linter.all false
set_option maxRecDepth 100000
set_option maxHeartbeats 1000000
namespace Lw
open PySem PySem.Spec PyProof.Rows L2 Lt
open TL (tl tl_append ext_tl)
local macro_rules | `(tactic| walk_at "go") => `(tactic| try simp only [wSq, wSet, wRet, wDrop, wAsg, wPar, wNx, wIfS, wVar, wC, wOp, wCons, wNil, wB, wNot, wTup, wLst, wCall, wM, wOrT, wAndT, wIf, wNeg, wSl, wNoP, wP, wTru, wSeqI, wR1, wR2, wFor, wWhile, wYes, wDPut, wF, wFK, wEnum, wEnumA, wZipM, wM0, wJoined, wJs, wFmt, wNo, perm, List.getD_cons_zero, List.getD_cons_succ, bInt_b, keyOf_str, wDict, wPairs, wLc, wipeP, decide_true, decide_false, Bool.not_true, Bool.not_false, List.isEmpty_nil, List.isEmpty_cons,
  gN, gT, gsC, gsN, Option.bind_some, Option.map_some, List.getElem?_cons_zero, List.getElem?_cons_succ, List.set_cons_zero, List.set_cons_succ, List.map_cons, List.map_nil, List.length_cons, List.length_nil, List.replicate_succ, List.replicate_zero, List.append_nil, List.nil_append, List.cons_append,
  fAdd_ii, fI_ii, Lt.gSub, Lt.gB, opt_go, bMin_ii, bInt_i, bLen_t, fEq_ii, fNe_ii, tru_b, bIsi_tt, bIsi_it])

local macro_rules | `(tactic| walk_at "num") => `(tactic| (walk_at "go"; try simp (disch := first | omega | decide) only [gMul_l, gMul_r, gDiv_ok, gMod_ok, gPow_1018, Option.map_some, opt_go, fI_ii, fAdd_ii, bInt_i]); walk_at "go")
theorem eGE {n i : Nat} {c : Cell} {xs : List PV} {S : Store} (h : S[n]? = some c) (hx : c.items = some xs) : gE n i S = some (xs[i]?.map fun x => .tup [.int (i : Nat), x]) := by
  unfold gE
  rw [eGL h hx]; rfl
theorem fIx_last {n : Nat} {xs : List PV} {S : Store} (h : S[n]? = some (.lst xs)) (hl : 0 < xs.length) : ∃ y, y ∈ xs ∧ fIx (.ref n) (.int (-1)) S = some (y, S) := by
  have e : ixN xs.length (-1) = some (xs.length - 1) := by
    unfold ixN
    rw [if_neg (by omega), if_pos (by omega)]
    congr 1
    omega
  refine ⟨xs[xs.length - 1], List.getElem_mem (by omega), ?_⟩
  unfold fIx
  simp only [h, Cell.items]
  unfold atI
  rw [e]
  show (xs[xs.length - 1]?).map _ = _
  rw [List.getElem?_eq_getElem (by omega)]
  rfl

theorem bk_snoc {ys : List Str} {i : Nat} (q3 : ys.length = i) (q4 : ∀ (k : Nat) (e : Str × List Str) (w : Str), ents[k]? = some e → ys[k]? = some w → w ∈ e.2) {e : Str × List Str} {y : Str} (he : ents[i]? = some e) (hy : y ∈ e.2) :
    ∀ (k : Nat) (e : Str × List Str) (w : Str), ents[k]? = some e → (ys ++ [y])[k]? = some w → w ∈ e.2 := fun k e' w' he' hw' => by
  by_cases hk : k < ys.length
  · rw [List.getElem?_append_left hk] at hw'
    exact q4 k e' w' he' hw'
  · rw [List.getElem?_append_right (by omega)] at hw'
    cases ek : k - ys.length with
    | zero =>
      rw [ek] at hw'
      cases hw'
      rw [show k = i by omega, he] at he'
      cases he'
      exact hy
    | succ t => rw [ek] at hw'; simp at hw'
theorem fNe_bb (a b : Bool) (S : Store) : fNe (.bl a) (.bl b) S = some (.bl (!decide (a = b)), S) := rfl
def conLaw : Con := conG (G := List Int) (fun ns xs S => xs = [.ref 0] ∧ ns.length ≤ 63 ∧ S = [.ro (ns.map .int)]) (fun _ _ _ x _ => x = .bl true)
theorem pl_law (xs : List PV) (S0 : Store) (P : PQ) (h : conLaw xs S0 P) : b_law cDk cEn cBk cTu cBT cLT cRd (xs.map some ++ List.replicate (N_law.length - xs.length) none) S0 ⟨fun _ S' => P .non S', P, fun _ _ => False, fun _ _ => False⟩ := by
  obtain ⟨ns, ⟨rfl, hl, rfl⟩, hP⟩ := h
  dsimp only at *
  unfold b_law
  walk_at "go"
  refine con_g ns ⟨rfl, rfl, hl⟩ ?_
  rintro x SD ⟨j, f, rfl, hj⟩
  walk_at "go"
  refine con_g () rfl ?_
  rintro x SE1 ⟨kE1, m1, es1, rfl, lm1, hm1, hen1, hes1⟩
  walk_at "go"
  refine seqI_go hm1 rfl ?_
  refine lc_inv (n := 12) (fun i S => Kp [] SE1 S ∧ ∃ ys : List Str, S[SE1.length]? = some (.lst (ys.map .str)) ∧ ys.length = i ∧ ∀ (k : Nat) (e : Str × List Str) (w : Str), ents[k]? = some e → ys[k]? = some w → w ∈ e.2) ?_ ?_ ⟨.push, [], at_new _ _, rfl, fun k e w _ hw => by simp at hw⟩
  · rintro i S hi ⟨q1, ys, q2, q3, q4⟩
    obtain ⟨e, he⟩ := ents_at hi
    obtain ⟨v, hv1, hv2, hv3⟩ := hes1 i e he
    obtain ⟨w1, w2, -, -⟩ := ents_words he
    refine ⟨.tup [.str e.1, .ref v], _, (eGL (q1.at_ _ _ (by simp) hm1) rfl).trans (congrArg some hv1), rfl, fun Qt Qe hq _ ht => ?_⟩
    walk_at "go"
    refine ht _ ?_
    walk_at "go"
    have hv4 := q1.at_ _ _ (by simp) hv3
    have fin : ∀ y ∈ e.2, Qe (.str y) S := fun y hy => hq _ _ _ q2 (sl_lt (by simp; omega)) ⟨q1.set_new (Nat.le_refl _), ys ++ [y], by rw [at_set q2]; simp, by simp [q3], bk_snoc q3 q4 he hy⟩
    have h0 : (e.2.map PV.str)[0]? = some (.str e.2[0]) := at_str (List.getElem?_eq_getElem w1)
    rw [show (0 : Int) = ((0 : Nat) : Int) from rfl, fIx_l hv4 rfl h0]
    exact fin _ (List.getElem_mem w1)
  rintro S1 ⟨r1, b1, p1, l1, g1⟩
  refine ⟨(eGL (r1.at_ _ _ (by simp) hm1) rfl).trans (congrArg some (List.getElem?_eq_none (by omega))), ?_⟩
  walk_at "go"
  rw [bTup_l p1 rfl]
  walk_at "go"
  refine con_g () rfl ?_
  rintro x SE2 ⟨kE2, m2, es2, rfl, lm2, hm2, hen2, hes2⟩
  walk_at "go"
  refine seqI_go hm2 rfl ?_
  refine lc_inv (n := 12) (fun i S => Kp [] SE2 S ∧ ∃ ys : List Str, S[SE2.length]? = some (.lst (ys.map .str)) ∧ ys.length = i ∧ ∀ (k : Nat) (e : Str × List Str) (w : Str), ents[k]? = some e → ys[k]? = some w → w ∈ e.2) ?_ ?_ ⟨.push, [], at_new _ _, rfl, fun k e w _ hw => by simp at hw⟩
  · rintro i S hi ⟨q1, ys, q2, q3, q4⟩
    obtain ⟨e, he⟩ := ents_at hi
    obtain ⟨v, hv1, hv2, hv3⟩ := hes2 i e he
    obtain ⟨w1, w2, -, -⟩ := ents_words he
    refine ⟨.tup [.str e.1, .ref v], _, (eGL (q1.at_ _ _ (by simp) hm2) rfl).trans (congrArg some hv1), rfl, fun Qt Qe hq _ ht => ?_⟩
    walk_at "go"
    refine ht _ ?_
    walk_at "go"
    have hv4 := q1.at_ _ _ (by simp) hv3
    have fin : ∀ y ∈ e.2, Qe (.str y) S := fun y hy => hq _ _ _ q2 (sl_lt (by simp; omega)) ⟨q1.set_new (Nat.le_refl _), ys ++ [y], by rw [at_set q2]; simp, by simp [q3], bk_snoc q3 q4 he hy⟩
    obtain ⟨y, hy, ey⟩ := fIx_last hv4 (by simpa using w1)
    rw [ey]
    obtain ⟨z, hz, rfl⟩ := List.mem_map.mp hy
    exact fin z hz
  rintro S2 ⟨r2, b2, p2, l2, g2⟩
  refine ⟨(eGL (r2.at_ _ _ (by simp) hm2) rfl).trans (congrArg some (List.getElem?_eq_none (by omega))), ?_⟩
  walk_at "go"
  rw [bTup_l p2 rfl]
  walk_at "go"
  refine ⟨sl_le (by decide), ?_⟩
  have B1 : Bk b1 := ⟨l1, g1⟩
  have B2 : Bk b2 := ⟨l2, g2⟩
  have hj2 := ((((hj.kept kE1).kept r1).kept kE2).kept r2)
  obtain ⟨x1, x2⟩ := hj2.lt
  refine ⟨by omega, ?_⟩
  rw [show (8 : Int).toNat = 8 from rfl]
  refine loop_inv (n := 8) (fun i env S => ∃ e3 e7 d bs, env = [some (.ref 0), some (.ref j), some (.ref d), e3, none, none, none, e7, none, none, none, none, none, none] ∧ d ≠ j ∧ d ≠ f ∧ S[d]? = some (.lst ((bs : List (List Str)).map bP)) ∧ bs.length = 2 + 2 * i ∧ (∀ b ∈ bs, Bk b) ∧ Dk j f S) ?_ ?_ ⟨none, none, S2.length, [b1, b2], rfl, by omega, by omega, at_new _ _, rfl, fun b hb => by
    simp only [List.mem_cons, List.not_mem_nil, or_false] at hb
    rcases hb with rfl | rfl
    · exact B1
    · exact B2, hj2.push⟩
  · rintro i env S hi ⟨e3, e7, d, bs, rfl, n1, n2, p1, p2, p3, hj⟩
    refine ⟨_, _, eR2 hi rfl, rfl, fun D' hnx _ _ _ => ?_⟩
    walk_at "go"
    refine con_g (j, f) ⟨rfl, hj⟩ ?_
    rintro x S3 ⟨b, rfl, hb, hj3, k3⟩
    walk_at "go"
    refine con_g (j, f, b) ⟨rfl, hj3, hb⟩ ?_
    rintro x S4 ⟨c, rfl, hc, hj4, k4⟩
    dsimp only at *
    refine ⟨sl_le (by decide), ?_⟩
    have p4 := k4.at_ _ _ (by simp [n1, n2]) (k3.at_ _ _ (by simp [n1, n2]) p1)
    rw [fAdd_ll' (at_old p4) (at_new _ _) (by simp; omega)]
    walk_at "go"
    obtain ⟨y1, y2⟩ := hj4.lt
    refine hnx _ _ ⟨_, _, _, bs ++ [b, c], rfl, by simp; omega, by simp; omega, by rw [at_new]; simp, by simp; omega, fun z hz => ?_, hj4.push.push⟩
    rcases List.mem_append.mp hz with hz | hz
    · exact p3 z hz
    · simp only [List.mem_cons, List.not_mem_nil, or_false] at hz
      rcases hz with rfl | rfl
      · exact hb
      · exact hc
  rintro env S ⟨e3, e7, d, bs, rfl, n1, n2, p1, p2, p3, hj⟩
  refine ⟨eR0, ?_⟩
  clear hj n1 n2
  walk_at "go"
  have ob := okd_books (by omega) p3
  rw [bReprA_ok (toD_books p1) ob (by decide) (by decide)]
  walk_at "go"
  refine ⟨sl_le (by decide), ?_⟩
  generalize hk : PyData.shown (.list (bs.map bD)) = known
  refine seqI_go (at_old p1) rfl ?_
  have hdt : d ≠ S.length := by have := lt_of_at p1; omega
  refine loop_inv (n := 18) (fun i env S' => ∃ e6 e7 e9 e10, env = [some (.ref 0), some (.ref j), some (.ref d), e3, some (.str known), some (.ref S.length), e6, e7, none, e9, e10, none, none, none] ∧ S'[d]? = some (.lst (bs.map bP)) ∧ S'[S.length]? = some (.lst (((bs.take i).map textOf).map .str))) ?_ ?_ ⟨none, e7, none, none, rfl, at_old p1, at_new _ _⟩
  · rintro i env S' hi ⟨e6, e7, e9, e10, rfl, q1, q2⟩
    have hbi : bs[i]? = some bs[i] := List.getElem?_eq_getElem (by omega)
    generalize bs[i] = b at hbi
    have hb := p3 b (List.mem_of_getElem? hbi)
    have ot := okd_text hb
    have obk := okd_book hb
    have rt : ∀ S : Store, bReprA [.str (textOf b)] S = some (.str (PyData.shown (.str (textOf b))), S) := fun S => bReprA_ok rfl ot (by decide) (by decide)
    have rb : ∀ S : Store, bReprA [bP b] S = some (.str (PyData.shown (bD b)), S) := fun S => bReprA_ok (toD_book 64 S b) obk (by decide) (by decide)
    refine ⟨.tup [.int (i : Nat), bP b], _, (eGE q1 rfl).trans (by rw [List.getElem?_map, hbi]; rfl), rfl, fun D' hnx _ _ _ => ?_⟩
    walk_at "num"
    cases decide ((i : Int) % 5 = 1) with
    | true =>
      walk_at "go"
      refine ⟨trivial, con_g b ⟨rfl, hb⟩ ?_⟩
      rintro x S8 ⟨k8, rfl⟩
      walk_at "go"
      rw [rt]
      walk_at "go"
      refine con_g b ⟨rfl, hb⟩ ?_
      rintro x S6 ⟨k6, rfl⟩
      rw [rt]
      walk_at "go"
      rw [fNe_ss]
      walk_at "go"
      refine con_g b ⟨rfl, hb⟩ ?_
      rintro x S7 ⟨k7, rfl⟩
      rw [rt]
      walk_at "go"
      rw [rt]
      walk_at "go"
      rw [fNe_ss]
      walk_at "num"
      cases decide ((i : Int) % 5 = 2) with
      | true =>
        walk_at "go"
        refine ⟨trivial, con_g b ⟨rfl, hb⟩ ?_⟩
        rintro x SL ⟨k9, rfl⟩
        have kL := ((k8.trans k6).trans k7).trans k9
        walk_at "go"
        rw [rb]
        walk_at "go"
        rw [rb]
        walk_at "go"
        rw [fNe_ss]
        walk_at "go"
        refine con_g b ⟨rfl, hb⟩ ?_
        rintro x SX6 ⟨kX6, rfl⟩
        refine con_g b ⟨rfl, hb⟩ ?_
        rintro x SX7 ⟨kX7, rfl⟩
        rw [rb]
        walk_at "go"
        rw [rb]
        walk_at "go"
        rw [fNe_ss]
        walk_at "go"
        have kX8 := (kL.trans kX6).trans kX7
        have t8 := kX8.at_ _ _ (by simp) q2
        refine ⟨ty_l' t8, ?_⟩
        rw [app_ok t8 (by simp; omega)]
        walk_at "go"
        refine hnx _ _ ⟨_, _, _, _, rfl, at_set_ne hdt.symm (kX8.at_ _ _ (by simp) q1), ?_⟩
        rw [at_set t8, take_snoc hbi]
        simp
      | false =>
        walk_at "go"
        refine con_g b ⟨rfl, hb⟩ ?_
        rintro x SL ⟨k9, rfl⟩
        have kL := ((k8.trans k6).trans k7).trans k9
        walk_at "go"
        rw [rb]
        walk_at "go"
        rw [rb]
        walk_at "go"
        rw [fNe_ss]
        walk_at "go"
        refine con_g b ⟨rfl, hb⟩ ?_
        rintro x SX6 ⟨kX6, rfl⟩
        refine con_g b ⟨rfl, hb⟩ ?_
        rintro x SX7 ⟨kX7, rfl⟩
        rw [rb]
        walk_at "go"
        rw [rb]
        walk_at "go"
        rw [fNe_ss]
        walk_at "go"
        have kX8 := (kL.trans kX6).trans kX7
        have t8 := kX8.at_ _ _ (by simp) q2
        refine ⟨ty_l' t8, ?_⟩
        rw [app_ok t8 (by simp; omega)]
        walk_at "go"
        refine hnx _ _ ⟨_, _, _, _, rfl, at_set_ne hdt.symm (kX8.at_ _ _ (by simp) q1), ?_⟩
        rw [at_set t8, take_snoc hbi]
        simp
    | false =>
      walk_at "go"
      refine con_g b ⟨rfl, hb⟩ ?_
      rintro x S8 ⟨k8, rfl⟩
      walk_at "go"
      rw [rt]
      walk_at "go"
      refine con_g b ⟨rfl, hb⟩ ?_
      rintro x S6 ⟨k6, rfl⟩
      rw [rt]
      walk_at "go"
      rw [fNe_ss]
      walk_at "go"
      refine con_g b ⟨rfl, hb⟩ ?_
      rintro x S7 ⟨k7, rfl⟩
      rw [rt]
      walk_at "go"
      rw [rt]
      walk_at "go"
      rw [fNe_ss]
      walk_at "num"
      cases decide ((i : Int) % 5 = 2) with
      | true =>
        walk_at "go"
        refine ⟨trivial, con_g b ⟨rfl, hb⟩ ?_⟩
        rintro x SL ⟨k9, rfl⟩
        have kL := ((k8.trans k6).trans k7).trans k9
        walk_at "go"
        rw [rb]
        walk_at "go"
        rw [rb]
        walk_at "go"
        rw [fNe_ss]
        walk_at "go"
        refine con_g b ⟨rfl, hb⟩ ?_
        rintro x SX6 ⟨kX6, rfl⟩
        refine con_g b ⟨rfl, hb⟩ ?_
        rintro x SX7 ⟨kX7, rfl⟩
        rw [rb]
        walk_at "go"
        rw [rb]
        walk_at "go"
        rw [fNe_ss]
        walk_at "go"
        have kX8 := (kL.trans kX6).trans kX7
        have t8 := kX8.at_ _ _ (by simp) q2
        refine ⟨ty_l' t8, ?_⟩
        rw [app_ok t8 (by simp; omega)]
        walk_at "go"
        refine hnx _ _ ⟨_, _, _, _, rfl, at_set_ne hdt.symm (kX8.at_ _ _ (by simp) q1), ?_⟩
        rw [at_set t8, take_snoc hbi]
        simp
      | false =>
        walk_at "go"
        refine con_g b ⟨rfl, hb⟩ ?_
        rintro x SL ⟨k9, rfl⟩
        have kL := ((k8.trans k6).trans k7).trans k9
        walk_at "go"
        rw [rb]
        walk_at "go"
        rw [rb]
        walk_at "go"
        rw [fNe_ss]
        walk_at "go"
        refine con_g b ⟨rfl, hb⟩ ?_
        rintro x SX6 ⟨kX6, rfl⟩
        refine con_g b ⟨rfl, hb⟩ ?_
        rintro x SX7 ⟨kX7, rfl⟩
        rw [rb]
        walk_at "go"
        rw [rb]
        walk_at "go"
        rw [fNe_ss]
        walk_at "go"
        have kX8 := (kL.trans kX6).trans kX7
        have t8 := kX8.at_ _ _ (by simp) q2
        refine ⟨ty_l' t8, ?_⟩
        rw [app_ok t8 (by simp; omega)]
        walk_at "go"
        refine hnx _ _ ⟨_, _, _, _, rfl, at_set_ne hdt.symm (kX8.at_ _ _ (by simp) q1), ?_⟩
        rw [at_set t8, take_snoc hbi]
        simp
  rintro env S' ⟨e6, e7, e9, e10, rfl, q1, q2⟩
  refine ⟨(eGE q1 rfl).trans (by rw [List.getElem?_eq_none (by simp; omega)]; rfl), ?_⟩
  rw [List.take_of_length_le (by omega)] at q2
  walk_at "go"
  rw [bLen_l q1 rfl]
  walk_at "go"
  refine ⟨by simp; omega, ?_⟩
  rw [List.length_map, Int.toNat_natCast, p2]
  refine loop_inv (n := 18) (fun i env S2 => S2 = S' ∧ ∃ e8 e11, env = [some (.ref 0), some (.ref j), some (.ref d), e3, some (.str known), some (.ref S.length), e6, e7, e8, e9, e10, e11, none, none]) ?_ ?_ ⟨rfl, none, none, rfl⟩
  · rintro i env S2 hi ⟨rfl, e8, e11, rfl⟩
    refine ⟨iN i, _, eR2 hi (congrArg PV.int (by omega)), rfl, fun D' hnx _ hrt _ => ?_⟩
    walk_at "go"
    refine ⟨by omega, ?_⟩
    rw [Int.toNat_natCast]
    refine loop_inv (n := i) (fun t env S3 => S3 = S2 ∧ ∃ e11, env = [some (.ref 0), some (.ref j), some (.ref d), e3, some (.str known), some (.ref S.length), e6, e7, some (iN i), e9, e10, e11, none, none]) ?_ ?_ ⟨rfl, e11, rfl⟩
    · rintro t env S3 ht ⟨rfl, e11, rfl⟩
      refine ⟨iN t, _, eR2 ht (congrArg PV.int (by omega)), rfl, fun D'' hnx' _ _ _ => ?_⟩
      have b1 : bs[i]? = some bs[i] := List.getElem?_eq_getElem (by omega)
      have b2 : bs[t]? = some bs[t] := List.getElem?_eq_getElem (by omega)
      generalize bs[i] = u at b1
      generalize bs[t] = v at b2
      have hu := p3 u (List.mem_of_getElem? b1)
      have hv := p3 v (List.mem_of_getElem? b2)
      have c1 : (bs.map bP)[i]? = some (bP u) := by rw [List.getElem?_map, b1]; rfl
      have c2 : (bs.map bP)[t]? = some (bP v) := by rw [List.getElem?_map, b2]; rfl
      have c3 : ((bs.map textOf).map PV.str)[i]? = some (.str (textOf u)) := at_str (by rw [List.getElem?_map, b1]; rfl)
      have c4 : ((bs.map textOf).map PV.str)[t]? = some (.str (textOf v)) := at_str (by rw [List.getElem?_map, b2]; rfl)
      walk_at "go"
      rw [fIx_l q1 rfl c1]
      walk_at "go"
      rw [fIx_l q1 rfl c2]
      walk_at "go"
      rw [fEq_books hu hv]
      walk_at "go"
      rw [fIx_l q2 rfl c3]
      walk_at "go"
      rw [fIx_l q2 rfl c4]
      walk_at "go"
      rw [fEq_ss, eq_texts hu hv]
      walk_at "go"
      rw [fNe_bb]
      walk_at "go"
      exact hnx' _ _ ⟨rfl, _, rfl⟩
    · rintro env S3 ⟨rfl, e11, rfl⟩
      exact ⟨eR0, hnx _ _ ⟨rfl, _, _, rfl⟩⟩
  · rintro env S2 ⟨rfl, e8, e11, rfl⟩
    refine ⟨eR0, ?_⟩
    walk_at "go"
    rw [bReprA_ok (toD_books q1) ob (by decide) (by decide), hk]
    walk_at "go"
    rw [fEq_ss]
    exact hP _ _ (by simp)
end Lw
set_option Elab.async false
set_option linter.all false
set_option maxRecDepth 100000
set_option maxHeartbeats 1000000
namespace Lw
open PySem PySem.Spec PyProof.Rows L2 Lt
theorem callee_none {P : Program} {w : World} {K : PySem.W.Frag} {mg : Str → Option Value} {base : Heap} {x : Str} {ps : List Str} {k : Nat} {c : Con} {st : Stmt} (D : Def K mg x ps st) (hc : ∀ xs S0 Q, ¬ c xs S0 Q) : Callee P w K mg base x ps st k c := by
  obtain ⟨f, fd, F, hm, hb, hi⟩ := D.ex
  refine ⟨f, fd, ⟨fun vs H Q E ⟨_, _, _, _, _, _, h, _⟩ => (hc _ _ _ h).elim, fun A outer s H args us vs Q E _ _ _ _ _ ⟨_, _, _, _, _, _, h, _⟩ => (hc _ _ _ h).elim⟩, hm, F.kp, fun s us _ hl => ?_, hi⟩
  rw [List.append_nil] at hl ⊢
  exact hb s us hl
abbrev lvl : Nat := 14
theorem law_true (ns : List Int) (h : ns.length ≤ 63) : conLaw [.ref 0] [.ro (ns.map .int)] fun y _ => y = .bl true := con_g ns ⟨rfl, h, rfl⟩ fun _ _ h => h
theorem law_ready {P : Program} {w : World} {K : PySem.W.Frag} {mg : Str → Option Value} {fa : Addr} (D : Defs K mg) (hfa : mg "law" = some (.ref fa)) :
    ∃ fd : FuncData, (∀ (s : Shared) (u : Value), BindsTo s fd ⟨[u], []⟩ [("script", u)]) ∧ ∀ base : Heap, K.In base → base.Ns mainGlobals mg → FnG P w K mg base CX0 lvl fa fd ["script"] (spC K conLaw) := by
  refine law_of (k := 13) (wb := b_law cDk cEn cBk cTu cBT cLT cRd) D.d_law rfl hfa sc_law (by rintro _ _ _ ⟨g, ⟨rfl, _⟩, _⟩; rfl) (fun base _ _ => ?_) pl_law
  have C_el : Callee P w K mg base "entry_line" P_entry_line s_entry_line 1 cEl := callee_of D.d_entry_line sc_entry_line (by rintro _ _ _ ⟨g, ⟨rfl, _⟩, _⟩; rfl) (jb_entry_line D.T (k := 0)) pl_entry_line
  have C_rw : Callee P w K mg base "read_word" P_read_word s_read_word 2 cRW := callee_of D.d_read_word sc_read_word (by rintro _ _ _ ⟨g, ⟨rfl, _⟩, _⟩; rfl) (jb_read_word D.T (k := 1) C_el (by decide)) pl_read_word
  have C_rd : Callee P w K mg base "read_book" P_read_book s_read_book 3 cRd := callee_of D.d_read_book sc_read_book (by rintro _ _ _ ⟨g, ⟨rfl, _⟩, _⟩; rfl) (jb_read_book D.T (k := 2) C_rw (by decide)) pl_read_book
  have C_bt : Callee P w K mg base "book_text" P_book_text s_book_text 2 cBT := callee_of D.d_book_text sc_book_text (by rintro _ _ _ ⟨g, ⟨rfl, _⟩, _⟩; rfl) (jb_book_text D.T (k := 1) C_el (by decide)) pl_book_text
  have C_dk : Callee P w K mg base "_law_deck" P_law_deck s_law_deck 1 cDk := callee_of D.d_law_deck sc_law_deck (by rintro _ _ _ ⟨g, ⟨rfl, _⟩, _⟩; rfl) (jb_law_deck D.T (k := 0)) pl_law_deck
  have C_dr : Callee P w K mg base "_law_draw" P_law_draw s_law_draw 1 cDr := callee_of D.d_law_draw sc_law_draw (by rintro _ _ _ ⟨g, ⟨rfl, _⟩, _⟩; rfl) (jb_law_draw D.T (k := 0)) pl_law_draw
  have C_pk : Callee P w K mg base "_law_pick" P_law_pick s_law_pick 2 cPk := callee_of D.d_law_pick sc_law_pick (by rintro _ _ _ ⟨g, ⟨rfl, _⟩, _⟩; rfl) (jb_law_pick D.T (k := 1) C_dr (by decide)) pl_law_pick
  have C_en : Callee P w K mg base "_law_entries" P_law_entries s_law_entries 1 cEn := callee_of D.d_law_entries sc_law_entries (by rintro _ _ _ ⟨g, rfl, _⟩; rfl) (jb_law_entries D.T (k := 0)) pl_law_entries
  have C_bk : Callee P w K mg base "_law_book" P_law_book s_law_book 3 cBk := callee_of D.d_law_book sc_law_book (by rintro _ _ _ ⟨g, ⟨rfl, _⟩, _⟩; rfl) (jb_law_book D.T (k := 2) C_en (by decide) C_pk (by decide)) pl_law_book
  have C_lt : Callee P w K mg base "_law_text" P_law_text s_law_text 2 cLT := callee_of D.d_law_text sc_law_text (by rintro _ _ _ ⟨g, ⟨rfl, _⟩, _⟩; rfl) (jb_law_text D.T (k := 1) C_en (by decide)) pl_law_text
  have C_tu : Callee P w K mg base "_law_turned" P_law_turned s_law_turned 3 cTu := callee_of D.d_law_turned sc_law_turned (by rintro _ _ _ ⟨g, ⟨rfl, _⟩, _⟩; rfl) (jb_law_turned D.T (k := 2) C_dr (by decide) C_en (by decide) C_pk (by decide)) pl_law_turned
  exact jb_law D.T (k := 13) C_dk (by decide) C_en (by decide) C_bk (by decide) C_tu (by decide) C_bt (by decide) C_lt (by decide) C_rd (by decide)
end Lw
open PySem PySem.W PyProof.Rows
set_option maxRecDepth 100000 in
set_option maxHeartbeats 0 in
theorem PySem.Challenge.cw_keptmarks_k14_whole_texts_of_books_holds : PySem.Challenge.rw_keptmarks_k14_whole_texts_of_books.Holds := by
  w_on; o_law; k_head; (case hw => w_witness2)
  k_fill
  refine Lt.walk_ltG (l := PySem.Challenge.rw_keptmarks_k14_whole_texts_of_books) (c := Lw.conLaw) (k := Lw.lvl) (x := "script") rfl (by decide) rfl ⟨rfl, by decide, by decide⟩ (fun w h Y => PySem.W.kIn_of Y) ?F Lw.law_true
  case F =>
    intro w mg fa h KX G hmg
    refine Lw.law_ready ?D hmg
    case D =>
    refine' Lw.defs_mk KX G ?a_book_text ?l_book_text ?e_book_text ?k_book_text ?a_read_book ?l_read_book ?e_read_book ?k_read_book ?a_entry_line ?l_entry_line ?e_entry_line ?k_entry_line ?a_read_word ?l_read_word ?e_read_word ?k_read_word ?a_law_deck ?l_law_deck ?e_law_deck ?k_law_deck ?a_law_draw ?l_law_draw ?e_law_draw ?k_law_draw ?a_law_pick ?l_law_pick ?e_law_pick ?k_law_pick ?a_law_entries ?l_law_entries ?e_law_entries ?k_law_entries ?a_law_book ?l_law_book ?e_law_book ?k_law_book ?a_law_text ?l_law_text ?e_law_text ?k_law_text ?a_law_turned ?l_law_turned ?e_law_turned ?k_law_turned ?a_law ?l_law ?e_law ?k_law ?z_abs ?z_enumerate ?z_int ?z_isinstance ?z_len ?z_range ?z_repr ?z_str ?z_tuple ?z_zip ?g_ENTRIES
    (case a_book_text => k_is); (case l_book_text => k_is); (case e_book_text => k_is); (case k_book_text => k_is)
    (case a_read_book => k_is); (case l_read_book => k_is); (case e_read_book => k_is); (case k_read_book => k_is)
    (case a_entry_line => k_is); (case l_entry_line => k_is); (case e_entry_line => k_is); (case k_entry_line => k_is)
    (case a_read_word => k_is); (case l_read_word => k_is); (case e_read_word => k_is); (case k_read_word => k_is)
    (case a_law_deck => k_is); (case l_law_deck => k_is); (case e_law_deck => k_is); (case k_law_deck => k_is)
    (case a_law_draw => k_is); (case l_law_draw => k_is); (case e_law_draw => k_is); (case k_law_draw => k_is)
    (case a_law_pick => k_is); (case l_law_pick => k_is); (case e_law_pick => k_is); (case k_law_pick => k_is)
    (case a_law_entries => k_is); (case l_law_entries => k_is); (case e_law_entries => k_is); (case k_law_entries => k_is)
    (case a_law_book => k_is); (case l_law_book => k_is); (case e_law_book => k_is); (case k_law_book => k_is)
    (case a_law_text => k_is); (case l_law_text => k_is); (case e_law_text => k_is); (case k_law_text => k_is)
    (case a_law_turned => k_is); (case l_law_turned => k_is); (case e_law_turned => k_is); (case k_law_turned => k_is)
    (case a_law => k_is); (case l_law => k_is); (case e_law => k_is); (case k_law => k_is)
    (case z_abs => k_is)
    (case z_enumerate => k_is)
    (case z_int => k_is)
    (case z_isinstance => k_is)
    (case z_len => k_is)
    (case z_range => k_is)
    (case z_repr => k_is)
    (case z_str => k_is)
    (case z_tuple => k_is)
    (case z_zip => k_is)
    (case g_ENTRIES => rfl)
