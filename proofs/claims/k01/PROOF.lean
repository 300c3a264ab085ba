import PyProof.Rows.All
import Wide.All
import OpenK.AllK
import Wide.FinOn
import HandS.Call
import HandS.List
import HandS.Comp
import HandS.Text
import HandS.Iter
import HandS.IsInst
import HandS.TupAny
import HandS.Style
import HandS.Words
import HandS.Conv
import PyProof.Draws
import PyProof.ListStr
import HandS.Property
import HandS.MakeKwOnly
import HandS.Defaults
import PySem.Challenge.RW_safepatch_k01_whole_writes
import PyProof.P3Eq
set_option Elab.async false
set_option linter.all false
set_option maxRecDepth 100000
set_option maxHeartbeats 4000000
/-! Data, without the heap: what stands for a value (Rp), the slots of a frame as data (En), what a reading gives as data (EvD ..). -/
namespace PD
open PySem PySem.Spec PyProof.Rows L2

/-! ### heaps -/
def Ex (H H' : Hp) : Prop := ∀ a o, H a = some o → H' a = some o
theorem Ex.rf (H : Hp) : Ex H H := fun _ _ h => h
theorem Ex.tr {H H1 H2 : Hp} (a : Ex H H1) (b : Ex H1 H2) : Ex H H2 := fun x o h => b x o (a x o h)
theorem Ex.new {H : Hp} {p : Addr} {o : HO} (h : H p = none) : Ex H (upd H p o) := fun a u e => by
  rw [upd_ne (ne_of_none e h)]
  exact e
theorem Ex.off {S H : Hp} {p : Addr} {o : HO} (e : Ex S H) (h : S p = none) : Ex S (upd H p o) := fun a u q => by
  rw [upd_ne (ne_of_none q h)]
  exact e a u q
theorem Ex.free {S H : Hp} (e : Ex S H) {p : Addr} (h : H p = none) : S p = none := by
  cases q : S p with
  | none => rfl
  | some o =>
    rw [e p o q] at h
    cases h
theorem ex_rd {H H' : Hp} {a : Addr} {u : HO} (e : Ex H H') (h : Rd H a u) : Rd H' a u := by
  rcases h with h | ⟨o, h⟩
  · exact Or.inl (e a _ h)
  · exact Or.inr ⟨o, e a _ h⟩
theorem ex_l {K : PySem.W.Frag} {H H' : Hp} {a : Addr} {xs : List V} (e : Ex H H') (h : SqL K H a xs) : SqL K H' a xs := by
  rcases h with h | h
  · exact Or.inl (ex_rd e h)
  · exact Or.inr h
theorem ex_t {K : PySem.W.Frag} {H H' : Hp} {a : Addr} {xs : List V} (e : Ex H H') (h : SqT K H a xs) : SqT K H' a xs := by
  rcases h with h | h
  · exact Or.inl (ex_rd e h)
  · exact Or.inr h

/-- from the still part S of the heap H to the still part S' of H': both grow, what is new in S' was free in H -/
structure Go (S H S' H' : Hp) : Prop where
  s : Ex S S'
  h : Ex H H'
  sub : Ex S' H'
  new : ∀ p o, S' p = some o → S p = none → H p = none
theorem Go.rf {S H : Hp} (e : Ex S H) : Go S H S H := ⟨Ex.rf S, Ex.rf H, e, fun p o a b => by rw [b] at a; cases a⟩
theorem Go.tr {S H S1 H1 S2 H2 : Hp} (a : Go S H S1 H1) (b : Go S1 H1 S2 H2) : Go S H S2 H2 :=
  ⟨a.s.tr b.s, a.h.tr b.h, b.sub, fun p o q n => by
    cases e : S1 p with
    | none => exact a.h.free (b.new p o q e)
    | some u => exact a.new p u e n⟩
/-- a new still object -/
theorem Go.up {S H : Hp} {p : Addr} {o : HO} (e : Ex S H) (n : H p = none) : Go S H (upd S p o) (upd H p o) :=
  ⟨Ex.new (e.free n), Ex.new n, fun a u q => by
    by_cases h : a = p
    · subst h
      rw [upd_same] at q ⊢
      exact q
    · rw [upd_ne h] at q ⊢
      exact e a u q, fun a u q m => by
    by_cases h : a = p
    · subst h; exact n
    · rw [upd_ne h, m] at q
      cases q⟩
/-- the still part stays, the heap grows -/
theorem Go.side {S H H' : Hp} (e : Ex S H) (x : Ex H H') : Go S H S H' := ⟨Ex.rf S, x, e.tr x, fun p o a b => by rw [b] at a; cases a⟩

/-! ### data -/
inductive DV where
  | non | bl (b : Bool) | int (i : Int) | str (x : Str)
  | tup (xs : List DV) | lst (xs : List DV) | obj (C : Addr) (fs : List (Str × DV)) | frz (xs : List DV)

mutual
inductive Rp (K : PySem.W.Frag) (S : Hp) : V → DV → Prop
  | non : Rp K S .non .non
  | bl (b : Bool) : Rp K S (.bl b) (.bl b)
  | int (i : Int) : Rp K S (.int i) (.int i)
  | str (x : Str) : Rp K S (.str x) (.str x)
  | tup {a : Addr} {xs : List V} {ds : List DV} : SqT K S a xs → RpA K S xs ds → Rp K S (.ref a) (.tup ds)
  | lst {a : Addr} {xs : List V} {ds : List DV} : Rd S a (.lst xs) → RpA K S xs ds → Rp K S (.ref a) (.lst ds)
  | obj {a C dx : Addr} {fs : List (Str × V)} {gs : List (Str × DV)} : S a = some (.ins C dx fs) → RpF K S fs gs → Rp K S (.ref a) (.obj C gs)
  | frz {a : Addr} {xs : List V} {ds : List DV} : SqL K S a xs → RpA K S xs ds → Rp K S (.ref a) (.frz ds)
inductive RpA (K : PySem.W.Frag) (S : Hp) : List V → List DV → Prop
  | nil : RpA K S [] []
  | cons {v : V} {vs : List V} {d : DV} {ds : List DV} : Rp K S v d → RpA K S vs ds → RpA K S (v :: vs) (d :: ds)
inductive RpF (K : PySem.W.Frag) (S : Hp) : List (Str × V) → List (Str × DV) → Prop
  | nil : RpF K S [] []
  | cons {n : Str} {v : V} {fs : List (Str × V)} {d : DV} {gs : List (Str × DV)} : Rp K S v d → RpF K S fs gs → RpF K S ((n, v) :: fs) ((n, d) :: gs)
end

section
variable {K : PySem.W.Frag} {S S' H H' : Hp}
mutual
theorem Rp.up (e : Ex S S') : ∀ {v : V} {d : DV}, Rp K S v d → Rp K S' v d
  | _, _, .non => .non
  | _, _, .bl b => .bl b
  | _, _, .int i => .int i
  | _, _, .str x => .str x
  | _, _, .tup h r => .tup (ex_t e h) (RpA.up e r)
  | _, _, .lst h r => .lst (ex_rd e h) (RpA.up e r)
  | _, _, .obj h r => .obj (e _ _ h) (RpF.up e r)
  | _, _, .frz h r => .frz (ex_l e h) (RpA.up e r)
theorem RpA.up (e : Ex S S') : ∀ {vs : List V} {ds : List DV}, RpA K S vs ds → RpA K S' vs ds
  | _, _, .nil => .nil
  | _, _, .cons h r => .cons (Rp.up e h) (RpA.up e r)
theorem RpF.up (e : Ex S S') : ∀ {fs : List (Str × V)} {gs : List (Str × DV)}, RpF K S fs gs → RpF K S' fs gs
  | _, _, .nil => .nil
  | _, _, .cons h r => .cons (Rp.up e h) (RpF.up e r)
end
theorem RpA.len : ∀ {vs : List V} {ds : List DV}, RpA K S vs ds → vs.length = ds.length
  | _, _, .nil => rfl
  | _, _, .cons _ r => congrArg (· + 1) (RpA.len r)
theorem RpA.get : ∀ {vs : List V} {ds : List DV} {i : Nat} {d : DV}, RpA K S vs ds → ds[i]? = some d → ∃ v, vs[i]? = some v ∧ Rp K S v d
  | _, _, _, _, .nil, e => by simp at e
  | _, _, 0, _, .cons h _, e => by
    simp at e
    subst e
    exact ⟨_, rfl, h⟩
  | _, _, i + 1, d, .cons _ r, e => by
    obtain ⟨v, a, b⟩ := RpA.get (i := i) (d := d) r (by simpa using e)
    exact ⟨v, by simpa using a, b⟩
theorem RpA.getV : ∀ {vs : List V} {ds : List DV} {i : Nat} {v : V} {d : DV}, RpA K S vs ds → vs[i]? = some v → ds[i]? = some d → Rp K S v d := fun r a b => by
  obtain ⟨u, e, q⟩ := r.get b
  rw [e] at a
  cases a
  exact q
theorem RpA.append : ∀ {vs us : List V} {ds es : List DV}, RpA K S vs ds → RpA K S us es → RpA K S (vs ++ us) (ds ++ es)
  | _, _, _, _, .nil, r => r
  | _, _, _, _, .cons h q, r => .cons h (RpA.append q r)
theorem RpA.snoc {vs : List V} {ds : List DV} {v : V} {d : DV} (r : RpA K S vs ds) (h : Rp K S v d) : RpA K S (vs ++ [v]) (ds ++ [d]) := r.append (.cons h .nil)
theorem RpA.take : ∀ {vs : List V} {ds : List DV} (n : Nat), RpA K S vs ds → RpA K S (vs.take n) (ds.take n)
  | _, _, 0, _ => .nil
  | _, _, _ + 1, .nil => .nil
  | _, _, n + 1, .cons h r => .cons h (RpA.take n r)
theorem RpA.drop : ∀ {vs : List V} {ds : List DV} (n : Nat), RpA K S vs ds → RpA K S (vs.drop n) (ds.drop n)
  | _, _, 0, r => r
  | _, _, _ + 1, .nil => .nil
  | _, _, n + 1, .cons _ r => RpA.drop n r
theorem RpA.set {v : V} {d : DV} (h : Rp K S v d) : ∀ {vs : List V} {ds : List DV} (n : Nat), RpA K S vs ds → RpA K S (vs.set n v) (ds.set n d)
  | _, _, _, .nil => .nil
  | _, _, 0, .cons _ r => .cons h r
  | _, _, n + 1, .cons g r => .cons g (RpA.set h n r)
theorem RpA.reverse : ∀ {vs : List V} {ds : List DV}, RpA K S vs ds → RpA K S vs.reverse ds.reverse
  | _, _, .nil => .nil
  | _, _, .cons h r => by
    rw [List.reverse_cons, List.reverse_cons]
    exact (RpA.reverse r).snoc h
theorem RpF.look : ∀ {fs : List (Str × V)} {gs : List (Str × DV)} {n : Str} {d : DV}, RpF K S fs gs → gs.lookup n = some d → ∃ v, fs.lookup n = some v ∧ Rp K S v d
  | _, _, _, _, .nil, e => by simp at e
  | _, _, n, d, .cons (n := m) h r, e => by
    by_cases q : n = m
    · subst q
      rw [List.lookup_cons_self] at e
      cases e
      exact ⟨_, List.lookup_cons_self, h⟩
    · have z : (n == m) = false := by simpa using q
      rw [List.lookup_cons, z] at e
      obtain ⟨v, a, b⟩ := RpF.look r e
      refine ⟨v, ?_, b⟩
      rw [List.lookup_cons, z]
      exact a
theorem RpF.no : ∀ {fs : List (Str × V)} {gs : List (Str × DV)} {n : Str}, RpF K S fs gs → gs.lookup n = none → fs.lookup n = none
  | _, _, _, .nil, _ => rfl
  | _, _, n, .cons (n := m) h r, e => by
    by_cases q : n = m
    · subst q
      rw [List.lookup_cons_self] at e
      cases e
    · have z : (n == m) = false := by simpa using q
      rw [List.lookup_cons, z] at e ⊢
      exact RpF.no r e
end

/-! ### the slots of a frame -/
/-- nothing known; a value that stands for d; a list of one's own (at an address that nothing else names) -/
inductive EV where
  | un | val (d : DV) | own (ds : List DV)
abbrev Rho := List EV
def EnE (K : PySem.W.Frag) (H0 S H : Hp) : Option V → EV → Prop
  | _, .un => True
  | v, .val d => ∃ u, v = some u ∧ Rp K S u d
  | v, .own ds => ∃ p vs, v = some (.ref p) ∧ H0 p = none ∧ S p = none ∧ H p = some (.lst vs) ∧ RpA K S vs ds
structure En (K : PySem.W.Frag) (H0 S H : Hp) (σ : L2.St) (ρ : Rho) : Prop where
  len : σ.length = ρ.length
  at_ : ∀ (i : Nat) (v : Option V) (e : EV), σ[i]? = some v → ρ[i]? = some e → EnE K H0 S H v e
  sep : ∀ (i j : Nat) (p q : Addr) (ds es : List DV), i ≠ j → ρ[i]? = some (.own ds) → ρ[j]? = some (.own es) → σ[i]? = some (some (.ref p)) → σ[j]? = some (some (.ref q)) → p ≠ q
section
variable {K : PySem.W.Frag} {H0 S S' H H' : Hp} {σ : L2.St} {ρ : Rho}
theorem EnE.go (g : Go S H S' H') : ∀ {v : Option V} {e : EV}, EnE K H0 S H v e → EnE K H0 S' H' v e
  | _, .un, _ => trivial
  | _, .val _, ⟨u, a, r⟩ => ⟨u, a, r.up g.s⟩
  | _, .own _, ⟨p, vs, a, n, m, h, r⟩ => by
    have z : S' p = none := by
      cases q : S' p with
      | none => rfl
      | some o =>
        have z := g.new p o q m
        rw [h] at z
        cases z
    exact ⟨p, vs, a, n, z, g.h p _ h, r.up g.s⟩
theorem En.go (g : Go S H S' H') (n : En K H0 S H σ ρ) : En K H0 S' H' σ ρ := ⟨n.len, fun i v e a b => (n.at_ i v e a b).go g, n.sep⟩
theorem En.val {i : Nat} {d : DV} (n : En K H0 S H σ ρ) (h : ρ[i]? = some (.val d)) : ∃ v, σ[i]? = some (some v) ∧ Rp K S v d := by
  have hi : i < σ.length := by
    rw [n.len]
    exact (List.getElem?_eq_some_iff.mp h).1
  obtain ⟨u, a, r⟩ := n.at_ i σ[i] _ (List.getElem?_eq_getElem hi) h
  exact ⟨u, by rw [List.getElem?_eq_getElem hi, a], r⟩
theorem En.own {i : Nat} {ds : List DV} (n : En K H0 S H σ ρ) (h : ρ[i]? = some (.own ds)) : ∃ p vs, σ[i]? = some (some (.ref p)) ∧ H0 p = none ∧ S p = none ∧ H p = some (.lst vs) ∧ RpA K S vs ds := by
  have hi : i < σ.length := by
    rw [n.len]
    exact (List.getElem?_eq_some_iff.mp h).1
  obtain ⟨p, vs, a, r⟩ := n.at_ i σ[i] _ (List.getElem?_eq_getElem hi) h
  exact ⟨p, vs, by rw [List.getElem?_eq_getElem hi, a], r⟩
theorem set_get {α : Type} {l : List α} {i j : Nat} {x y : α} (h : (l.set i x)[j]? = some y) : (i = j ∧ y = x) ∨ (i ≠ j ∧ l[j]? = some y) := by
  by_cases e : i = j
  · subst e
    have hl : i < l.length := by
      have := (List.getElem?_eq_some_iff.mp h).1
      rwa [List.length_set] at this
    rw [List.getElem?_set_self hl] at h
    exact .inl ⟨rfl, (Option.some.inj h).symm⟩
  · rw [List.getElem?_set_ne e] at h
    exact .inr ⟨e, h⟩
theorem En.set {i : Nat} {v : V} {d : DV} (n : En K H0 S H σ ρ) (r : Rp K S v d) : En K H0 S H (σ.set i (some v)) (ρ.set i (.val d)) where
  len := by rw [List.length_set, List.length_set]; exact n.len
  at_ := fun j u e a b => by
    rcases set_get a with ⟨rfl, rfl⟩ | ⟨hj, a⟩
    · rcases set_get b with ⟨_, rfl⟩ | ⟨hj, _⟩
      · exact ⟨v, rfl, r⟩
      · exact absurd rfl hj
    · rcases set_get b with ⟨h, _⟩ | ⟨_, b⟩
      · exact absurd h hj
      · exact n.at_ j u e a b
  sep := fun j k p q ds es hjk a b c e => by
    rcases set_get a with ⟨_, z⟩ | ⟨hj, a⟩
    · cases z
    · rcases set_get b with ⟨_, z⟩ | ⟨hk, b⟩
      · cases z
      · rw [List.getElem?_set_ne hj] at c
        rw [List.getElem?_set_ne hk] at e
        exact n.sep j k p q ds es hjk a b c e
/-- a slot is emptied, or forgotten -/
theorem En.wipe1 {i : Nat} {x : Option V} (n : En K H0 S H σ ρ) : En K H0 S H (σ.set i x) (ρ.set i .un) where
  len := by rw [List.length_set, List.length_set]; exact n.len
  at_ := fun j u e a b => by
    rcases set_get b with ⟨_, rfl⟩ | ⟨hj, b⟩
    · trivial
    · rw [List.getElem?_set_ne hj] at a
      exact n.at_ j u e a b
  sep := fun j k p q ds es hjk a b c e => by
    rcases set_get a with ⟨_, z⟩ | ⟨hj, a⟩
    · cases z
    · rcases set_get b with ⟨_, z⟩ | ⟨hk, b⟩
      · cases z
      · rw [List.getElem?_set_ne hj] at c
        rw [List.getElem?_set_ne hk] at e
        exact n.sep j k p q ds es hjk a b c e
def wipeR (ρ : Rho) : List Nat → Rho
  | [] => ρ
  | v :: vs => (wipeR ρ vs).set v .un
theorem En.wipe (n : En K H0 S H σ ρ) : ∀ vs : List Nat, En K H0 S H (wipe σ vs) (wipeR ρ vs)
  | [] => n
  | _ :: vs => (En.wipe n vs).wipe1
/-- a new list of one's own -/
theorem En.setOwn {i : Nat} {p : Addr} {vs : List V} {ds : List DV} (n : En K H0 S H σ ρ) (h0 : H0 p = none) (hs : S p = none) (hh : H p = some (.lst vs)) (r : RpA K S vs ds)
    (hp : ∀ j : Nat, j ≠ i → ∀ es, ρ[j]? = some (.own es) → σ[j]? ≠ some (some (.ref p))) : En K H0 S H (σ.set i (some (.ref p))) (ρ.set i (.own ds)) where
  len := by rw [List.length_set, List.length_set]; exact n.len
  at_ := fun j u e a b => by
    rcases set_get a with ⟨rfl, rfl⟩ | ⟨hj, a⟩
    · rcases set_get b with ⟨_, rfl⟩ | ⟨hj, _⟩
      · exact ⟨p, vs, rfl, h0, hs, hh, r⟩
      · exact absurd rfl hj
    · rcases set_get b with ⟨h, _⟩ | ⟨_, b⟩
      · exact absurd h hj
      · exact n.at_ j u e a b
  sep := fun j k x y ds' es hjk a b c e => by
    rcases set_get c with ⟨h1, z1⟩ | ⟨hj, c⟩
    · rcases set_get e with ⟨h2, z2⟩ | ⟨hk, e⟩
      · exact absurd (h1.symm.trans h2) hjk
      · rw [List.getElem?_set_ne hk] at b
        cases z1
        exact fun z => hp k (fun w => hk w.symm) es b (by rw [e, z])
    · rw [List.getElem?_set_ne hj] at a
      rcases set_get e with ⟨h2, z2⟩ | ⟨hk, e⟩
      · cases z2
        exact fun z => hp j (fun w => hj w.symm) ds' a (by rw [c, z])
      · rw [List.getElem?_set_ne hk] at b
        exact n.sep j k x y ds' es hjk a b c e
/-- the list at p (slot i) is changed -/
theorem En.chg {i : Nat} {p : Addr} {vs : List V} {ds es : List DV} (n : En K H0 S H σ ρ) (hi : ρ[i]? = some (.own ds)) (hp : σ[i]? = some (some (.ref p))) (hs : S p = none) (r : RpA K S vs es) : En K H0 S (upd H p (.lst vs)) σ (ρ.set i (.own es)) where
  len := by rw [List.length_set]; exact n.len
  at_ := fun j u e a b => by
    rcases set_get b with ⟨rfl, rfl⟩ | ⟨hj, b⟩
    · rw [hp] at a
      cases a
      obtain ⟨p', vs', e1, h0, h1, _⟩ := n.at_ i _ _ hp hi
      cases e1
      exact ⟨p, vs, rfl, h0, hs, upd_same, r⟩
    · have q := n.at_ j u e a b
      cases e with
      | un => trivial
      | val d => exact q
      | own ds' =>
        obtain ⟨p', vs', e1, h0, h1, h2, r2⟩ := q
        subst e1
        have ne : p' ≠ p := fun z => n.sep i j p p' ds ds' hj hi b hp a z.symm
        exact ⟨p', vs', rfl, h0, h1, by rw [upd_ne ne]; exact h2, r2⟩
  sep := fun j k x y ds' es' hjk a b c e => by
    have f : ∀ {m : Nat} {l : List DV}, (ρ.set i (.own es))[m]? = some (.own l) → ∃ l', ρ[m]? = some (.own l') := fun {m l} h => by
      rcases set_get h with ⟨rfl, _⟩ | ⟨_, h⟩
      · exact ⟨_, hi⟩
      · exact ⟨_, h⟩
    obtain ⟨l1, a⟩ := f a
    obtain ⟨l2, b⟩ := f b
    exact n.sep j k x y l1 l2 hjk a b c e
/-- a list of one's own becomes still -/
theorem En.freeze {i : Nat} {ds : List DV} {S0 : Hp} (n : En K H0 S H σ ρ) (e0 : Go S0 H0 S H) (hi : ρ[i]? = some (.own ds)) : ∃ S', Go S0 H0 S' H ∧ En K H0 S' H σ (ρ.set i (.val (.lst ds))) ∧ Ex S S' := by
  obtain ⟨p, vs, hp, h0, hs, hh, r⟩ := n.own hi
  refine ⟨upd S p (.lst vs), ⟨e0.s.tr (Ex.new hs), e0.h, fun a u q => ?_, fun a u q m => ?_⟩, ⟨?_, fun j u e a b => ?_, fun j k x y ds' es' hjk a b c e => ?_⟩, Ex.new hs⟩
  · by_cases h : a = p
    · subst h
      rw [upd_same] at q
      rw [hh]
      exact q
    · rw [upd_ne h] at q
      exact e0.sub a u q
  · by_cases h : a = p
    · subst h
      exact h0
    · rw [upd_ne h] at q
      exact e0.new a u q m
  · rw [List.length_set]
    exact n.len
  · rcases set_get b with ⟨rfl, rfl⟩ | ⟨hj, b⟩
    · rw [hp] at a
      cases a
      exact ⟨.ref p, rfl, .lst (Or.inl upd_same) (r.up (Ex.new hs))⟩
    · have q := n.at_ j u e a b
      cases e with
      | un => trivial
      | val d =>
        obtain ⟨u', e1, r1⟩ := q
        exact ⟨u', e1, r1.up (Ex.new hs)⟩
      | own ds' =>
        obtain ⟨p', vs', e1, h0', h1, h2, r2⟩ := q
        subst e1
        have ne : p' ≠ p := fun z => n.sep i j p p' ds ds' hj hi b hp a z.symm
        exact ⟨p', vs', rfl, h0', by rw [upd_ne ne]; exact h1, h2, r2.up (Ex.new hs)⟩
  · rcases set_get a with ⟨_, z⟩ | ⟨hj, a⟩
    · cases z
    · rcases set_get b with ⟨_, z⟩ | ⟨hk, b⟩
      · cases z
      · exact n.sep j k x y ds' es' hjk a b c e
end

/-! ### what a reading gives -/
def Rs (K : PySem.W.Frag) (S H : Hp) (d : DV) (Q : VK) : Prop := ∀ v S' H', Go S H S' H' → Rp K S' v d → Q v H'
def EvD (K : PySem.W.Frag) (te : TE) (ρ : Rho) (d : DV) : Prop := ∀ H0 σ S H, Ex S H → En K H0 S H σ ρ → ∀ Q : VK, Rs K S H d Q → te σ H Q
def EvB (K : PySem.W.Frag) (tt : TT) (ρ : Rho) (b : Bool) : Prop := ∀ H0 σ S H, Ex S H → En K H0 S H σ ρ → ∀ Q : Bool → Hp → Prop, (∀ S' H', Go S H S' H' → Q b H') → tt σ H Q
def EvA (K : PySem.W.Frag) (ta : TA) (ρ : Rho) (ds : List DV) : Prop := ∀ H0 σ S H, Ex S H → En K H0 S H σ ρ → ∀ Q : List V → Hp → Prop, (∀ vs S' H', Go S H S' H' → RpA K S' vs ds → Q vs H') → ta σ H Q
def EvO (K : PySem.W.Frag) (to : TO) (ρ : Rho) (o : Option Int) : Prop := ∀ H0 σ S H, Ex S H → En K H0 S H σ ρ → ∀ Q : Option Int → Hp → Prop, (∀ S' H', Go S H S' H' → Q o H') → to σ H Q
/-- an operation on two values, one, some -/
def OpD (K : PySem.W.Frag) (r : R2) (a b d : DV) : Prop := ∀ S H x y, Ex S H → Rp K S x a → Rp K S y b → ∀ Q : VK, Rs K S H d Q → r x y H Q
def UnD (K : PySem.W.Frag) (r : V → Hp → VK → Prop) (a d : DV) : Prop := ∀ S H x, Ex S H → Rp K S x a → ∀ Q : VK, Rs K S H d Q → r x H Q
def CaD (K : PySem.W.Frag) (r : List V → Hp → VK → Prop) (ds : List DV) (d : DV) : Prop := ∀ S H xs, Ex S H → RpA K S xs ds → ∀ Q : VK, Rs K S H d Q → r xs H Q

section
variable {K : PySem.W.Frag} {ρ : Rho} {ta tb te : TE} {t u : TT} {a b d : DV} {r : R2}
theorem EvD.is {d' : DV} (h : EvD K te ρ d) (e : d = d') : EvD K te ρ d' := by rw [← e]; exact h
theorem EvB.is {b b' : Bool} (h : EvB K t ρ b) (e : b = b') : EvB K t ρ b' := by rw [← e]; exact h
theorem ev_var {i : Nat} (h : ρ[i]? = some (.val d)) : EvD K (tVar i) ρ d := fun _ σ S H e n Q q => by
  obtain ⟨v, hv, r⟩ := n.val h
  exact ⟨v, hv, q v S H (Go.rf e) r⟩
theorem ev_c {v : V} (h : ∀ S, Rp K S v d) : EvD K (tC v) ρ d := fun _ σ S H e n Q q => q v S H (Go.rf e) (h S)
theorem ev_op (ha : EvD K ta ρ a) (hb : EvD K tb ρ b) (hr : OpD K r a b d) : EvD K (tOp r ta tb) ρ d := fun H0 σ S H e n Q q =>
  ha H0 σ S H e n _ fun x S1 H1 g1 r1 => hb H0 σ S1 H1 g1.sub (n.go g1) _ fun y S2 H2 g2 r2 => hr S2 H2 x y g2.sub (r1.up g2.s) r2 Q fun v S3 H3 g3 r3 => q v S3 H3 ((g1.tr g2).tr g3) r3
theorem ev_un {r : V → Hp → VK → Prop} (ha : EvD K ta ρ a) (hr : UnD K r a d) : EvD K (tUn r ta) ρ d := fun H0 σ S H e n Q q =>
  ha H0 σ S H e n _ fun x S1 H1 g1 r1 => hr S1 H1 x g1.sub r1 Q fun v S3 H3 g3 r3 => q v S3 H3 (g1.tr g3) r3
theorem ea_nil : EvA K tNil ρ [] := fun _ σ S H e n Q q => q [] S H (Go.rf e) .nil
theorem ea_cons {tr : TA} {ds : List DV} (h : EvD K te ρ d) (hr : EvA K tr ρ ds) : EvA K (tCons te tr) ρ (d :: ds) := fun H0 σ S H e n Q q =>
  h H0 σ S H e n _ fun x S1 H1 g1 r1 => hr H0 σ S1 H1 g1.sub (n.go g1) _ fun vs S2 H2 g2 r2 => q (x :: vs) S2 H2 (g1.tr g2) (.cons (r1.up g2.s) r2)
theorem ev_tup {tx : TA} {ds : List DV} (h : EvA K tx ρ ds) (hl : ds.length ≤ 100000) : EvD K (tTup tx) ρ (.tup ds) := fun H0 σ S H e n Q q =>
  h H0 σ S H e n _ fun vs S1 H1 g1 r1 => ⟨Nat.le_trans (by rw [r1.len]; exact hl) (by decide), fun p hp => q _ _ _ (g1.tr (Go.up g1.sub hp)) (.tup (Or.inl (Or.inl upd_same)) (r1.up (Ex.new (g1.sub.free hp))))⟩
theorem ev_lst {tx : TA} {ds : List DV} (h : EvA K tx ρ ds) (hl : ds.length ≤ 100000) : EvD K (tLst tx) ρ (.lst ds) := fun H0 σ S H e n Q q =>
  h H0 σ S H e n _ fun vs S1 H1 g1 r1 => ⟨Nat.le_trans (by rw [r1.len]; exact hl) (by decide), fun p hp => q _ _ _ (g1.tr (Go.up g1.sub hp)) (.lst (Or.inl upd_same) (r1.up (Ex.new (g1.sub.free hp))))⟩
theorem ev_cb {f : List V → Hp → VK → Prop} {tx : TA} {ds : List DV} (h : EvA K tx ρ ds) (hf : CaD K f ds d) : EvD K (tCB f tx) ρ d := fun H0 σ S H e n Q q =>
  h H0 σ S H e n _ fun vs S1 H1 g1 r1 => hf S1 H1 vs g1.sub r1 Q fun v S2 H2 g2 r2 => q v S2 H2 (g1.tr g2) r2
theorem ev_and {x y : Bool} (h1 : EvD K ta ρ (.bl x)) (h2 : x = true → EvD K tb ρ (.bl y)) : EvD K (tAndV ta tb) ρ (.bl (x && y)) := fun H0 σ S H e n Q q =>
  h1 H0 σ S H e n _ fun v S1 H1 g1 r1 => by
    cases r1
    refine ⟨x, rfl, ?_⟩
    cases x with
    | true =>
      rw [if_pos rfl]
      exact h2 rfl H0 σ S1 H1 g1.sub (n.go g1) Q fun v S2 H2 g2 r2 => q v S2 H2 (g1.tr g2) r2
    | false =>
      rw [if_neg (by decide)]
      exact q _ S1 H1 g1 (.bl _)
theorem ev_or {x y : Bool} (h1 : EvD K ta ρ (.bl x)) (h2 : x = false → EvD K tb ρ (.bl y)) : EvD K (tOrV ta tb) ρ (.bl (x || y)) := fun H0 σ S H e n Q q =>
  h1 H0 σ S H e n _ fun v S1 H1 g1 r1 => by
    cases r1
    refine ⟨x, rfl, ?_⟩
    cases x with
    | false =>
      rw [if_neg (by decide)]
      exact h2 rfl H0 σ S1 H1 g1.sub (n.go g1) Q fun v S2 H2 g2 r2 => q v S2 H2 (g1.tr g2) r2
    | true =>
      rw [if_pos rfl]
      exact q _ S1 H1 g1 (.bl _)
theorem ev_not {x : Bool} (h1 : EvD K ta ρ (.bl x)) : EvD K (tNotV ta) ρ (.bl (!x)) := fun H0 σ S H e n Q q =>
  h1 H0 σ S H e n _ fun v S1 H1 g1 r1 => by
    cases r1
    exact ⟨x, rfl, q _ S1 H1 g1 (.bl _)⟩
theorem ev_if {x : Bool} (h : EvB K t ρ x) (h1 : x = true → EvD K ta ρ d) (h2 : x = false → EvD K tb ρ d) : EvD K (tIf t ta tb) ρ d := fun H0 σ S H e n Q q =>
  h H0 σ S H e n _ fun S1 H1 g1 => by
    cases x with
    | true =>
      rw [if_pos rfl]
      exact h1 rfl H0 σ S1 H1 g1.sub (n.go g1) Q fun v S2 H2 g2 r2 => q v S2 H2 (g1.tr g2) r2
    | false =>
      rw [if_neg (by decide)]
      exact h2 rfl H0 σ S1 H1 g1.sub (n.go g1) Q fun v S2 H2 g2 r2 => q v S2 H2 (g1.tr g2) r2
theorem eb_val {x : Bool} (h : EvD K te ρ (.bl x)) : EvB K (tB te) ρ x := fun H0 σ S H e n Q q => h H0 σ S H e n _ fun v S1 H1 g1 r1 => by
  cases r1
  exact ⟨x, rfl, q S1 H1 g1⟩
theorem eb_test {x : Bool} (h : EvD K te ρ (.bl x)) : EvB K (tTest te) ρ x := fun H0 σ S H e n Q q => h H0 σ S H e n _ fun v S1 H1 g1 r1 => by
  cases r1
  exact ⟨x, rfl, q S1 H1 g1⟩
theorem eb_and {x y : Bool} (h1 : EvB K t ρ x) (h2 : x = true → EvB K u ρ y) : EvB K (tAnd t u) ρ (x && y) := fun H0 σ S H e n Q q => h1 H0 σ S H e n _ fun S1 H1 g1 => by
  cases x with
  | true =>
    rw [if_pos rfl]
    exact h2 rfl H0 σ S1 H1 g1.sub (n.go g1) Q fun S2 H2 g2 => q S2 H2 (g1.tr g2)
  | false =>
    rw [if_neg (by decide)]
    exact q S1 H1 g1
theorem eb_or {x y : Bool} (h1 : EvB K t ρ x) (h2 : x = false → EvB K u ρ y) : EvB K (tOr t u) ρ (x || y) := fun H0 σ S H e n Q q => h1 H0 σ S H e n _ fun S1 H1 g1 => by
  cases x with
  | false =>
    rw [if_neg (by decide)]
    exact h2 rfl H0 σ S1 H1 g1.sub (n.go g1) Q fun S2 H2 g2 => q S2 H2 (g1.tr g2)
  | true =>
    rw [if_pos rfl]
    exact q S1 H1 g1
theorem eb_not {x : Bool} (h1 : EvB K t ρ x) : EvB K (tNot t) ρ (!x) := fun H0 σ S H e n Q q => h1 H0 σ S H e n _ fun S1 H1 g1 => q S1 H1 g1
theorem eo_none : EvO K tNoPart ρ none := fun _ σ S H e n Q q => q S H (Go.rf e)
theorem eo_some {i : Int} (h : EvD K te ρ (.int i)) : EvO K (tPart te) ρ (some i) := fun H0 σ S H e n Q q => h H0 σ S H e n _ fun v S1 H1 g1 r1 => by
  cases r1
  exact ⟨i, rfl, q S1 H1 g1⟩
/-- a slice's rule by values -/
def SlD (K : PySem.W.Frag) (r : V → Option Int → Option Int → Hp → VK → Prop) (a : DV) (lo hi : Option Int) (d : DV) : Prop := ∀ S H x, Ex S H → Rp K S x a → ∀ Q : VK, Rs K S H d Q → r x lo hi H Q
theorem ev_sl {rs : V → Option Int → Option Int → Hp → VK → Prop} {tl th : TO} {lo hi : Option Int} (h : EvD K te ρ a) (h1 : EvO K tl ρ lo) (h2 : EvO K th ρ hi) (hs : SlD K rs a lo hi d) : EvD K (tSl rs te tl th) ρ d := fun H0 σ S H e n Q q =>
  h H0 σ S H e n _ fun x S1 H1 g1 r1 => h1 H0 σ S1 H1 g1.sub (n.go g1) _ fun S2 H2 g2 => h2 H0 σ S2 H2 g2.sub ((n.go g1).go g2) _ fun S3 H3 g3 =>
    hs S3 H3 x g3.sub ((r1.up g2.s).up g3.s) Q fun v S4 H4 g4 r4 => q v S4 H4 (((g1.tr g2).tr g3).tr g4) r4
/-- a promise over data: on ds it hands back d (R ds d) -/
def spR (K : PySem.W.Frag) (R : List DV → DV → Prop) : Sp := fun vs H Q _ => ∃ S ds d, Ex S H ∧ RpA K S vs ds ∧ R ds d ∧ Rs K S H d Q
theorem ev_call {R : List DV → DV → Prop} {E : XK} {tx : TA} {ds : List DV} (h : EvA K tx ρ ds) (hR : R ds d) : EvD K (tCall (spR K R) [] E tx) ρ d := fun H0 σ S H e n Q q =>
  h H0 σ S H e n _ fun vs S1 H1 g1 r1 => ⟨S1, ds, d, g1.sub, by rw [List.append_nil]; exact r1, hR, fun v S2 H2 g2 r2 => q v S2 H2 (g1.tr g2) r2⟩
end

/-! ### statements -/
structure Po where
  nx : Rho → Prop
  rt : DV → Prop := fun _ => False
  bk : Rho → Prop := fun _ => False
  ct : Rho → Prop := fun _ => False
structure Ok (K : PySem.W.Frag) (S0 H0 B : Hp) (D : Ends) (E : Po) : Prop where
  nx : ∀ ρ σ S H, E.nx ρ → Go S0 H0 S H → Ex B S → En K H0 S H σ ρ → D.nx σ H
  rt : ∀ d v S H, E.rt d → Go S0 H0 S H → Rp K S v d → D.rt v H
  bk : ∀ ρ σ S H, E.bk ρ → Go S0 H0 S H → Ex B S → En K H0 S H σ ρ → D.bk σ H
  ct : ∀ ρ σ S H, E.ct ρ → Go S0 H0 S H → Ex B S → En K H0 S H σ ρ → D.ct σ H
def StD (K : PySem.W.Frag) (ts : TS) (ρ : Rho) (E : Po) : Prop := ∀ S0 H0 B σ S H D, Go S0 H0 S H → Ex B S → En K H0 S H σ ρ → Ok K S0 H0 B D E → ts D σ H
section
variable {K : PySem.W.Frag} {ρ ρ' : Rho} {ta tb te : TE} {t : TT} {ts tu tw : TS} {a b d : DV} {E : Po}
theorem st_next (h : E.nx ρ) : StD K tNext ρ E := fun S0 H0 B σ S H D g b n o => o.nx ρ σ S H h g b n
theorem st_seq (h : StD K ts ρ { E with nx := fun ρ' => StD K tu ρ' E }) : StD K (tSeq ts tu) ρ E := fun S0 H0 B σ S H D g b n o =>
  h S0 H0 B σ S H { D with nx := tu D } g b n ⟨fun ρ' σ' S' H' q g' b' n' => q S0 H0 B σ' S' H' D g' b' n' o, o.rt, o.bk, o.ct⟩
theorem st_asg {i : Nat} (h : EvD K te ρ d) (q : E.nx (ρ.set i (.val d))) : StD K (tAsg te (gName i)) ρ E := fun S0 H0 B σ S H D g b n o =>
  h H0 σ S H g.sub n _ fun v S1 H1 g1 r1 => o.nx _ _ S1 H1 q (g.tr g1) (b.tr g1.s) ((n.go g1).set r1)
theorem st_ret (h : EvD K te ρ d) (q : E.rt d) : StD K (tRet te) ρ E := fun S0 H0 B σ S H D g b n o =>
  h H0 σ S H g.sub n _ fun v S1 H1 g1 r1 => o.rt d v S1 H1 q (g.tr g1) r1
theorem st_retN (q : E.rt .non) : StD K tRetN ρ E := fun S0 H0 B σ S H D g b n o => o.rt .non .non S H q g .non
theorem st_if {x : Bool} (h : EvB K t ρ x) (h1 : x = true → StD K tu ρ E) (h2 : x = false → StD K tw ρ E) : StD K (tIfS t tu tw) ρ E := fun S0 H0 B σ S H D g b n o =>
  h H0 σ S H g.sub n _ fun S1 H1 g1 => by
    cases x with
    | true =>
      rw [if_pos rfl]
      exact h1 rfl S0 H0 B σ S1 H1 D (g.tr g1) (b.tr g1.s) (n.go g1) o
    | false =>
      rw [if_neg (by decide)]
      exact h2 rfl S0 H0 B σ S1 H1 D (g.tr g1) (b.tr g1.s) (n.go g1) o
theorem st_drop (h : EvD K te ρ d) (q : E.nx ρ) : StD K (tDrop te) ρ E := fun S0 H0 B σ S H D g b n o =>
  h H0 σ S H g.sub n _ fun v S1 H1 g1 r1 => o.nx _ _ S1 H1 q (g.tr g1) (b.tr g1.s) (n.go g1)
theorem st_brk (h : E.bk ρ) : StD K tBreak ρ E := fun S0 H0 B σ S H D g b n o => o.bk ρ σ S H h g b n
theorem st_ctn (h : E.ct ρ) : StD K tCont ρ E := fun S0 H0 B σ S H D g b n o => o.ct ρ σ S H h g b n
/-- a list of one's own is given away -/
theorem st_freeze {i : Nat} {ds : List DV} (hi : ρ[i]? = some (.own ds)) (h : StD K ts (ρ.set i (.val (.lst ds))) E) : StD K ts ρ E := fun S0 H0 B σ S H D g b n o => by
  obtain ⟨S', g', n', e'⟩ := n.freeze g hi
  exact h S0 H0 B σ S' H D g' (b.tr e') n' o
theorem st_post {E' : Po} (h : StD K ts ρ E') (hn : ∀ ρ, E'.nx ρ → E.nx ρ) (hr : ∀ d, E'.rt d → E.rt d) (hb : ∀ ρ, E'.bk ρ → E.bk ρ) (hc : ∀ ρ, E'.ct ρ → E.ct ρ) : StD K ts ρ E := fun S0 H0 B σ S H D g b n o =>
  h S0 H0 B σ S H D g b n ⟨fun ρ σ S H q => o.nx ρ σ S H (hn ρ q), fun d v S H q => o.rt d v S H (hr d q), fun ρ σ S H q => o.bk ρ σ S H (hb ρ q), fun ρ σ S H q => o.ct ρ σ S H (hc ρ q)⟩
end
end PD

/-! Data: operators, built-ins, what is walked. -/
namespace PD
open PySem PySem.Spec PyProof.Rows L2
section
variable {K : PySem.W.Frag} {ρ : Rho} {ta tb te : TE} {a b d : DV}
theorem sz5 {n : Nat} (h : n ≤ 100000) : n ≤ sizeLine := Nat.le_trans h (by decide)
/-! ints -/
theorem od_I0 {g : Int → Int → V} {i j : Int} {d : DV} (h : ∀ S, Rp K S (g i j) d) : OpD K (rI0 g) (.int i) (.int j) d := fun S H x y e r1 r2 Q q => by
  cases r1
  cases r2
  exact ⟨i, j, rfl, rfl, q _ S H (Go.rf e) (h S)⟩
theorem od_I {C : Int → Int → Prop} {g : Int → Int → V} {i j : Int} {d : DV} (hc : C i j) (h : ∀ S, Rp K S (g i j) d) : OpD K (rI C g) (.int i) (.int j) d := fun S H x y e r1 r2 Q q => by
  cases r1
  cases r2
  exact ⟨i, j, rfl, rfl, hc, q _ S H (Go.rf e) (h S)⟩
/-! texts -/
theorem od_addS {x y : Str} (h : x.length + y.length ≤ 100000) : OpD K (fun x y H Q => ∃ i j, x = .str i ∧ y = .str j ∧ i.length + j.length ≤ sizeLine ∧ Q (.str (i ++ j)) H) (.str x) (.str y) (.str (x ++ y)) := fun S H _ _ e r1 r2 Q q => by
  cases r1
  cases r2
  exact ⟨x, y, rfl, rfl, sz5 h, q _ S H (Go.rf e) (.str _)⟩
theorem od_inSign {c : Nat} {z : Str} : OpD K (fun x y H Q => ∃ (c : Nat) (z : Str), x = .str ⟨#[c]⟩ ∧ y = .str z ∧ Q (.bl (decide (c ∈ z.cps.toList))) H) (.str ⟨#[c]⟩) (.str z) (.bl (decide (c ∈ z.cps.toList))) := fun S H _ _ e r1 r2 Q q => by
  cases r1
  cases r2
  exact ⟨c, z, rfl, rfl, q _ S H (Go.rf e) (.bl _)⟩
/-! flat things -/
def DV.flat : DV → Bool
  | .non => true | .bl _ => true | .int _ => true | .str _ => true | _ => false
def DV.v : DV → V
  | .non => .non | .bl b => .bl b | .int i => .int i | .str x => .str x | _ => .non
theorem flat_rp {S : Hp} {v : V} {d : DV} (h : d.flat = true) (r : Rp K S v d) : v = d.v ∧ flatV v = true := by
  cases r <;> first | exact ⟨rfl, rfl⟩ | cases h
theorem flat_all {S : Hp} : ∀ {vs : List V} {ds : List DV}, ds.all DV.flat = true → RpA K S vs ds → vs = ds.map DV.v ∧ vs.all flatV = true
  | _, _, _, .nil => ⟨rfl, rfl⟩
  | _, _, h, .cons r q => by
    rw [List.all_cons, Bool.and_eq_true] at h
    obtain ⟨h1, h2⟩ := h
    obtain ⟨e1, f1⟩ := flat_rp h1 r
    obtain ⟨e2, f2⟩ := flat_all h2 q
    exact ⟨by rw [e1, e2]; rfl, by rw [List.all_cons, f1, f2]; rfl⟩
/-- two flat things of one kind (or one of them None): equal as Python has it -/
def DV.eqF (a b : DV) : Bool := decide (a.v = b.v)
theorem od_eqF (h : a.flat = true) (h' : b.flat = true) (hs : scal a.v b.v = true) : OpD K rEq a b (.bl (a.eqF b)) := fun S H x y e r1 r2 Q q => by
  obtain ⟨rfl, _⟩ := flat_rp h r1
  obtain ⟨rfl, _⟩ := flat_rp h' r2
  exact ⟨hs, q _ S H (Go.rf e) (.bl _)⟩
theorem od_neF (h : a.flat = true) (h' : b.flat = true) (hs : scal a.v b.v = true) : OpD K rNe a b (.bl (!a.eqF b)) := fun S H x y e r1 r2 Q q => by
  obtain ⟨rfl, _⟩ := flat_rp h r1
  obtain ⟨rfl, _⟩ := flat_rp h' r2
  exact ⟨hs, q _ S H (Go.rf e) (.bl _)⟩
theorem od_eqS {x y : Str} : OpD K rEq (.str x) (.str y) (.bl (decide (x = y))) := by
  have h := od_eqF (K := K) (a := .str x) (b := .str y) rfl rfl rfl
  have e : DV.eqF (.str x) (.str y) = decide (x = y) := by
    show decide (V.str x = V.str y) = _
    by_cases h : x = y
    · subst h; simp
    · rw [decide_eq_false h, decide_eq_false (fun z => h (V.str.inj z))]
  rw [e] at h
  exact h
theorem od_neS {x y : Str} : OpD K rNe (.str x) (.str y) (.bl (!decide (x = y))) := by
  have h := od_neF (K := K) (a := .str x) (b := .str y) rfl rfl rfl
  have e : DV.eqF (.str x) (.str y) = decide (x = y) := by
    show decide (V.str x = V.str y) = _
    by_cases h : x = y
    · subst h; simp
    · rw [decide_eq_false h, decide_eq_false (fun z => h (V.str.inj z))]
  rw [e] at h
  exact h
theorem od_eqI {x y : Int} : OpD K rEq (.int x) (.int y) (.bl (decide (x = y))) := by
  have h := od_eqF (K := K) (a := .int x) (b := .int y) rfl rfl rfl
  have e : DV.eqF (.int x) (.int y) = decide (x = y) := by
    show decide (V.int x = V.int y) = _
    by_cases h : x = y
    · subst h; simp
    · rw [decide_eq_false h, decide_eq_false (fun z => h (V.int.inj z))]
  rw [e] at h
  exact h
theorem od_neI {x y : Int} : OpD K rNe (.int x) (.int y) (.bl (!decide (x = y))) := by
  have h := od_neF (K := K) (a := .int x) (b := .int y) rfl rfl rfl
  have e : DV.eqF (.int x) (.int y) = decide (x = y) := by
    show decide (V.int x = V.int y) = _
    by_cases h : x = y
    · subst h; simp
    · rw [decide_eq_false h, decide_eq_false (fun z => h (V.int.inj z))]
  rw [e] at h
  exact h
/-- a in (b, c, ..), a list or tuple of flat things -/
def inD (a : DV) (ds : List DV) : Bool := inV a.v (ds.map DV.v)
def DV.items : DV → Option (List DV)
  | .tup xs => some xs | .lst xs => some xs | .frz xs => some xs | _ => none
theorem items_rp {S : Hp} {v : V} {d : DV} {ds : List DV} (h : d.items = some ds) (r : Rp K S v d) : ∃ p xs, v = .ref p ∧ (SqL K S p xs ∨ SqT K S p xs) ∧ RpA K S xs ds := by
  cases r with
  | tup a b => cases h; exact ⟨_, _, rfl, .inr a, b⟩
  | lst a b => cases h; exact ⟨_, _, rfl, .inl (.inl a), b⟩
  | frz a b => cases h; exact ⟨_, _, rfl, .inl a, b⟩
  | _ => cases h
theorem sq_up {S H : Hp} (e : Ex S H) {p : Addr} {xs : List V} (h : SqL K S p xs ∨ SqT K S p xs) : SqL K H p xs ∨ SqT K H p xs := h.imp (ex_l e) (ex_t e)
theorem od_in {neg : Bool} {ds : List DV} (h : a.flat = true) (hi : b.items = some ds) (hf : ds.all DV.flat = true) : OpD K (rIn K neg) a b (.bl (if neg then !inD a ds else inD a ds)) := fun S H x y e r1 r2 Q q => by
  obtain ⟨rfl, f⟩ := flat_rp h r1
  obtain ⟨p, xs, rfl, hs, ra⟩ := items_rp hi r2
  obtain ⟨rfl, fa⟩ := flat_all hf ra
  refine ⟨p, _, rfl, sq_up e hs, f, fa, q _ S H (Go.rf e) (.bl _)⟩
theorem od_is {ds : List DV} (h : a.flat = true) (hi : b.items = some ds) (hf : ds.all DV.flat = true) : OpD K (rIn K false) a b (.bl (inD a ds)) := od_in h hi hf
theorem od_notin {ds : List DV} (h : a.flat = true) (hi : b.items = some ds) (hf : ds.all DV.flat = true) : OpD K (rIn K true) a b (.bl (!inD a ds)) := od_in h hi hf
theorem od_isN (h : a.flat = true) : OpD K (fun x y H Q => y = .non ∧ Q (.bl (decide (x = .non))) H) a .non (.bl (decide (a.v = .non))) := fun S H x y e r1 r2 Q q => by
  obtain ⟨rfl, f⟩ := flat_rp h r1
  cases r2
  exact ⟨rfl, q _ S H (Go.rf e) (.bl _)⟩
theorem od_notN (h : a.flat = true) : OpD K (fun x y H Q => y = .non ∧ Q (.bl (!decide (x = .non))) H) a .non (.bl (!decide (a.v = .non))) := fun S H x y e r1 r2 Q q => by
  obtain ⟨rfl, f⟩ := flat_rp h r1
  cases r2
  exact ⟨rfl, q _ S H (Go.rf e) (.bl _)⟩
/-! deep == -/
mutual
def DV.pd : DV → PyData
  | .non => .none | .bl b => .bool b | .int i => .int i | .str x => .str x
  | .tup xs => .tuple (pdAll xs) | .lst xs => .list (pdAll xs) | .frz xs => .list (pdAll xs) | .obj _ _ => .none
def pdAll : List DV → List PyData
  | [] => []
  | d :: ds => d.pd :: pdAll ds
end
mutual
def DV.plain : DV → Bool
  | .non => true | .bl _ => true | .int _ => true | .str x => PyData.strOk x
  | .tup xs => plainAll xs | .lst xs => plainAll xs | .frz xs => plainAll xs | .obj _ _ => false
def plainAll : List DV → Bool
  | [] => true
  | d :: ds => d.plain && plainAll ds
end
mutual
def DV.dep : DV → Nat
  | .non => 0 | .bl _ => 0 | .int _ => 0 | .str _ => 0
  | .tup xs => depAll xs + 1 | .lst xs => depAll xs + 1 | .frz xs => depAll xs + 1 | .obj _ _ => 0
def depAll : List DV → Nat
  | [] => 0
  | d :: ds => max d.dep (depAll ds)
end
mutual
theorem rp_dp {S : Hp} : ∀ {v : V} {d : DV}, d.plain = true → Rp K S v d → Dp K S v d.pd
  | _, _, _, .non => .non
  | _, _, _, .bl b => .bl b
  | _, _, _, .int i => .int i
  | _, _, _, .str x => .str x
  | _, _, h, .tup a r => .tup a (rp_dps (by simpa [DV.plain] using h) r)
  | _, _, h, .lst a r => .lst (.inl a) (rp_dps (by simpa [DV.plain] using h) r)
  | _, _, h, .frz a r => .lst a (rp_dps (by simpa [DV.plain] using h) r)
  | _, _, h, .obj _ _ => by simp [DV.plain] at h
theorem rp_dps {S : Hp} : ∀ {vs : List V} {ds : List DV}, plainAll ds = true → RpA K S vs ds → DpAll K S vs (pdAll ds)
  | _, _, _, .nil => .nil
  | _, _, h, .cons r q => by
    rw [plainAll, Bool.and_eq_true] at h
    exact .cons (rp_dp h.1 r) (rp_dps h.2 q)
end
mutual
theorem pd_lay : ∀ {d : DV}, d.plain = true → d.pd.canLay0 = true
  | .non, _ => by simp [DV.pd, PyData.canLay0]
  | .bl _, _ => by simp [DV.pd, PyData.canLay0]
  | .int _, _ => by simp [DV.pd, PyData.canLay0]
  | .str x, h => by simpa [DV.pd, PyData.canLay0, DV.plain] using h
  | .tup xs, h => by
    rw [DV.pd, PyData.canLay0]
    exact pd_lays (by simpa [DV.plain] using h)
  | .lst xs, h => by
    rw [DV.pd, PyData.canLay0]
    exact pd_lays (by simpa [DV.plain] using h)
  | .frz xs, h => by
    rw [DV.pd, PyData.canLay0]
    exact pd_lays (by simpa [DV.plain] using h)
  | .obj _ _, h => by simp [DV.plain] at h
theorem pd_lays : ∀ {ds : List DV}, plainAll ds = true → PyData.canLayAll0 (pdAll ds) = true
  | [], _ => by rw [pdAll, PyData.canLayAll0]
  | d :: ds, h => by
    rw [plainAll, Bool.and_eq_true] at h
    rw [pdAll, PyData.canLayAll0, pd_lay h.1, pd_lays h.2]
    rfl
end
mutual
theorem pd_dep : ∀ d : DV, d.pd.depth = d.dep
  | .non => by simp [DV.pd, PyData.depth, DV.dep]
  | .bl _ => by simp [DV.pd, PyData.depth, DV.dep]
  | .int _ => by simp [DV.pd, PyData.depth, DV.dep]
  | .str x => by simp [DV.pd, PyData.depth, DV.dep]
  | .tup xs => by
    rw [DV.pd, PyData.depth, DV.dep, pd_deps xs]
  | .lst xs => by
    rw [DV.pd, PyData.depth, DV.dep, pd_deps xs]
  | .frz xs => by
    rw [DV.pd, PyData.depth, DV.dep, pd_deps xs]
  | .obj _ _ => by simp [DV.pd, PyData.depth, DV.dep]
theorem pd_deps : ∀ ds : List DV, PyData.depthAll (pdAll ds) = depAll ds
  | [] => by rw [pdAll, PyData.depthAll, depAll]
  | d :: ds => by
    rw [pdAll, PyData.depthAll, depAll, pd_dep d, pd_deps ds]
end
/-- data that == takes -/
def DV.ok (d : DV) : Bool := d.plain && decide (d.dep ≤ 64)
theorem ok_shaped {d : DV} (h : d.ok = true) : SeqAt.shaped d.pd = true := by
  unfold DV.ok at h
  rw [Bool.and_eq_true] at h
  unfold SeqAt.shaped
  rw [pd_lay h.1, pd_dep, h.2]
  rfl
theorem ok_plain {d : DV} (h : d.ok = true) : d.plain = true := by
  unfold DV.ok at h
  rw [Bool.and_eq_true] at h
  exact h.1
def DV.eqv (a b : DV) : Bool := PyData.eqv a.pd b.pd
mutual
theorem Dp_up {S H : Hp} (e : Ex S H) : ∀ {v : V} {d : PyData}, Dp K S v d → Dp K H v d
  | _, _, .non => .non
  | _, _, .bl b => .bl b
  | _, _, .int i => .int i
  | _, _, .str x => .str x
  | _, _, .lst a r => .lst (ex_l e a) (Dps_up e r)
  | _, _, .tup a r => .tup (ex_t e a) (Dps_up e r)
theorem Dps_up {S H : Hp} (e : Ex S H) : ∀ {vs : List V} {ds : List PyData}, DpAll K S vs ds → DpAll K H vs ds
  | _, _, .nil => .nil
  | _, _, .cons a r => .cons (Dp_up e a) (Dps_up e r)
end
theorem od_eqD (h : a.ok = true) (h' : b.ok = true) : OpD K (rEqD K) a b (.bl (a.eqv b)) := fun S H x y e r1 r2 Q q =>
  ⟨_, _, Dp_up e (rp_dp (ok_plain h) r1), Dp_up e (rp_dp (ok_plain h') r2), ok_shaped h, ok_shaped h', q _ S H (Go.rf e) (.bl _)⟩
theorem od_neD (h : a.ok = true) (h' : b.ok = true) : OpD K (rNeD K) a b (.bl (!a.eqv b)) := fun S H x y e r1 r2 Q q =>
  ⟨_, _, Dp_up e (rp_dp (ok_plain h) r1), Dp_up e (rp_dp (ok_plain h') r2), ok_shaped h, ok_shaped h', q _ S H (Go.rf e) (.bl _)⟩
/-! tuples, lists -/
theorem od_catT {xs ys : List DV} (h : xs.length + ys.length ≤ 100000) : OpD K (rCatA K) (.tup xs) (.tup ys) (.tup (xs ++ ys)) := fun S H x y e r1 r2 Q q => by
  cases r1 with
  | tup s1 a1 =>
    cases r2 with
    | tup s2 a2 =>
      refine ⟨_, _, _, _, rfl, rfl, ex_t e s1, ex_t e s2, by rw [a1.len, a2.len]; exact sz5 h, fun e1 => ?_, fun n1 e2 => ?_, fun n1 n2 p hp => ?_⟩
      · subst e1
        cases a1
        exact q _ S H (Go.rf e) (.tup s2 a2)
      · subst e2
        cases a2
        rw [List.append_nil] at q
        exact q _ S H (Go.rf e) (.tup s1 a1)
      · exact q _ _ _ (Go.up e hp) (.tup (.inl (.inl upd_same)) ((a1.append a2).up (Ex.new (e.free hp))))
def rCatR : R2 := fun x y H Q => ∃ l b xs zs, x = .ref l ∧ y = .ref b ∧ Rd H l (.lst xs) ∧ Rd H b (.lst zs) ∧ xs.length + zs.length ≤ sizeLine ∧ ∀ p, H p = none → Q (.ref p) (upd H p (.lst (xs ++ zs)))
theorem op_catR {X : Cx} : OpR X (binaryOp .Add) rCatR := by
  intro pins s σ H x y v u Q I rx ry h
  obtain ⟨l, b, xs, zs, rfl, rfl, hH, hB, hz, q⟩ := h
  cases rx
  cases ry
  obtain ⟨z, its, n, r, e⟩ := hH.ok I.hok
  obtain ⟨z2, its2, n2, r2, e2⟩ := hB.ok I.hok
  have hl := r.length
  have hl2 := r2.length
  refine PySem.P.add_list e e2 ?_ (by rw [List.size_toArray, List.size_toArray]; omega)
  have ea : its.toArray ++ its2.toArray = (its ++ its2).toArray := by simp
  rw [ea]
  exact ⟨.ref _, _, I.lnew (t' := s.toks) (r.append r2) (by rw [List.length_append]; omega), rfl, q _ I.fresh⟩
theorem od_catL {xs ys : List DV} (h : xs.length + ys.length ≤ 100000) : OpD K rCatR (.lst xs) (.lst ys) (.lst (xs ++ ys)) := fun S H x y e r1 r2 Q q => by
  cases r1 with
  | lst s1 a1 =>
    cases r2 with
    | lst s2 a2 =>
      refine ⟨_, _, _, _, rfl, rfl, ex_rd e s1, ex_rd e s2, by rw [a1.len, a2.len]; exact sz5 h, fun p hp => ?_⟩
      exact q _ _ _ (Go.up e hp) (.lst (.inl upd_same) ((a1.append a2).up (Ex.new (e.free hp))))
theorem at_len {α β : Type} {xs : List α} {ys : List β} (h : xs.length = ys.length) {i : Int} {y : β} (e : atI ys i = some y) : ∃ j, ixN xs.length i = some j ∧ ys[j]? = some y := by
  unfold atI at e
  rw [h]
  cases q : ixN ys.length i with
  | none => rw [q] at e; cases e
  | some j => rw [q] at e; exact ⟨j, rfl, e⟩
theorem rpa_at {S : Hp} {vs : List V} {ds : List DV} {i : Int} {d : DV} (r : RpA K S vs ds) (h : atI ds i = some d) : ∃ v, atI vs i = some v ∧ Rp K S v d := by
  obtain ⟨j, h1, h2⟩ := at_len r.len h
  obtain ⟨v, e, q⟩ := r.get h2
  refine ⟨v, ?_, q⟩
  unfold atI
  rw [h1]
  exact e
theorem od_ixT {xs : List DV} {i : Int} (h : atI xs i = some d) : OpD K (rIxT K) (.tup xs) (.int i) d := fun S H x y e r1 r2 Q q => by
  cases r1 with
  | tup s1 a1 =>
    cases r2
    obtain ⟨v, hv, rv⟩ := rpa_at a1 h
    exact ⟨_, _, _, _, rfl, rfl, ex_t e s1, hv, q _ S H (Go.rf e) rv⟩
theorem od_ixL {xs : List DV} {i : Int} (h : atI xs i = some d) : OpD K (rIxL K) (.lst xs) (.int i) d := fun S H x y e r1 r2 Q q => by
  cases r1 with
  | lst s1 a1 =>
    cases r2
    obtain ⟨v, hv, rv⟩ := rpa_at a1 h
    exact ⟨_, _, _, _, rfl, rfl, .inl (ex_rd e s1), hv, q _ S H (Go.rf e) rv⟩
theorem od_ixF {xs : List DV} {i : Int} (h : atI xs i = some d) : OpD K (rIxL K) (.frz xs) (.int i) d := fun S H x y e r1 r2 Q q => by
  cases r1 with
  | frz s1 a1 =>
    cases r2
    obtain ⟨v, hv, rv⟩ := rpa_at a1 h
    exact ⟨_, _, _, _, rfl, rfl, ex_l e s1, hv, q _ S H (Go.rf e) rv⟩
theorem od_ixS {z : Str} {i : Int} {c : Nat} (hz : z.length ≤ 100000) (h : atI z.cps.toList i = some c) : OpD K rIxS (.str z) (.int i) (.str ⟨#[c]⟩) := fun S H x y e r1 r2 Q q => by
  cases r1
  cases r2
  exact ⟨_, _, _, rfl, rfl, sz5 hz, h, q _ S H (Go.rf e) (.str _)⟩
def cutG {α : Type} (xs : List α) (lo hi : Option Int) : List α := (xs.drop (HT.sIx xs.length 0 lo)).take (HT.sIx xs.length xs.length hi - HT.sIx xs.length 0 lo)
theorem rpa_cut {S : Hp} {vs : List V} {ds : List DV} (r : RpA K S vs ds) (lo hi : Option Int) : RpA K S (cutV vs lo hi) (cutG ds lo hi) := by
  unfold cutV cutG
  rw [r.len]
  exact (r.drop _).take _
theorem sd_tup {xs : List DV} {lo hi : Option Int} : SlD K (rSlA K) (.tup xs) lo hi (.tup (cutG xs lo hi)) := fun S H x e r1 Q q => by
  cases r1 with
  | tup s1 a1 =>
    refine ⟨_, _, rfl, ex_t e s1, fun ⟨e1, e2⟩ => q _ S H (Go.rf e) (.tup s1 ?_), fun _ p hp => q _ _ _ (Go.up e hp) (.tup (.inl (.inl upd_same)) ((rpa_cut a1 lo hi).up (Ex.new (e.free hp))))⟩
    have z := rpa_cut a1 lo hi
    unfold cutV at z
    rw [e1, e2, List.drop_zero, Nat.sub_zero, List.take_length] at z
    exact z
theorem sd_lst {xs : List DV} {lo hi : Option Int} : SlD K (rSlL K) (.lst xs) lo hi (.lst (cutG xs lo hi)) := fun S H x e r1 Q q => by
  cases r1 with
  | lst s1 a1 =>
    exact ⟨_, _, rfl, .inl (ex_rd e s1), fun p hp => q _ _ _ (Go.up e hp) (.lst (.inl upd_same) ((rpa_cut a1 lo hi).up (Ex.new (e.free hp))))⟩
theorem sd_frz {xs : List DV} {lo hi : Option Int} : SlD K (rSlL K) (.frz xs) lo hi (.lst (cutG xs lo hi)) := fun S H x e r1 Q q => by
  cases r1 with
  | frz s1 a1 =>
    exact ⟨_, _, rfl, ex_l e s1, fun p hp => q _ _ _ (Go.up e hp) (.lst (.inl upd_same) ((rpa_cut a1 lo hi).up (Ex.new (e.free hp))))⟩
theorem sd_str {z : Str} {lo hi : Option Int} (hz : z.length ≤ 100000) : SlD K rSlS (.str z) lo hi (.str (cutS z lo hi)) := fun S H x e r1 Q q => by
  cases r1
  exact ⟨_, rfl, sz5 hz, q _ S H (Go.rf e) (.str _)⟩
/-! built-ins -/
theorem one {S : Hp} {vs : List V} {d : DV} (r : RpA K S vs [d]) : ∃ v, vs = [v] ∧ Rp K S v d := by
  cases r with
  | cons h q =>
    cases q
    exact ⟨_, rfl, h⟩
theorem two {S : Hp} {vs : List V} {d d' : DV} (r : RpA K S vs [d, d']) : ∃ v v', vs = [v, v'] ∧ Rp K S v d ∧ Rp K S v' d' := by
  cases r with
  | cons h q =>
    obtain ⟨v', rfl, q'⟩ := one q
    exact ⟨_, _, rfl, h, q'⟩
theorem three {S : Hp} {vs : List V} {d d' d'' : DV} (r : RpA K S vs [d, d', d'']) : ∃ v v' v'', vs = [v, v', v''] ∧ Rp K S v d ∧ Rp K S v' d' ∧ Rp K S v'' d'' := by
  cases r with
  | cons h q =>
    obtain ⟨v', v'', rfl, q'⟩ := two q
    exact ⟨_, _, _, rfl, h, q'⟩
def rLenX (K : PySem.W.Frag) : List V → Hp → VK → Prop := fun xs H Q => ∃ p ys, xs = [.ref p] ∧ (SqL K H p ys ∨ SqT K H p ys) ∧ Q (.int ys.length) H
theorem cd_len {ds : List DV} (h : a.items = some ds) : CaD K (rLenX K) [a] (.int ds.length) := fun S H xs e r0 Q q => by
  obtain ⟨v, rfl, r⟩ := one r0
  obtain ⟨p, ys, rfl, hs, ra⟩ := items_rp h r
  exact ⟨p, ys, rfl, sq_up e hs, by rw [ra.len]; exact q _ S H (Go.rf e) (.int _)⟩
def rLenT : List V → Hp → VK → Prop := fun xs H Q => ∃ z : Str, xs = [.str z] ∧ z.length ≤ sizeLine ∧ Q (.int z.length) H
theorem cd_lenS {z : Str} (hz : z.length ≤ 100000) : CaD K rLenT [.str z] (.int z.length) := fun S H xs e r0 Q q => by
  obtain ⟨v, rfl, r⟩ := one r0
  cases r
  exact ⟨z, rfl, sz5 hz, q _ S H (Go.rf e) (.int _)⟩
theorem boolsD {S : Hp} : ∀ {vs : List V} {bs : List Bool}, RpA K S vs (bs.map DV.bl) → vs = bs.map V.bl
  | _, [], r => by cases r; rfl
  | _, b :: bs, r => by
    cases r with
    | cons h q =>
      cases h
      rw [boolsD q]
      rfl
theorem intsD {S : Hp} : ∀ {vs : List V} {bs : List Int}, RpA K S vs (bs.map DV.int) → vs = bs.map V.int
  | _, [], r => by cases r; rfl
  | _, b :: bs, r => by
    cases r with
    | cons h q =>
      cases h
      rw [intsD q]
      rfl
theorem strsD {S : Hp} : ∀ {vs : List V} {bs : List Str}, RpA K S vs (bs.map DV.str) → vs = bs.map V.str
  | _, [], r => by cases r; rfl
  | _, b :: bs, r => by
    cases r with
    | cons h q =>
      cases h
      rw [strsD q]
      rfl
theorem cd_all {bs : List Bool} : CaD K (rAll K) [.lst (bs.map DV.bl)] (.bl (bs.all id)) := fun S H xs e r0 Q q => by
  obtain ⟨v, rfl, r⟩ := one r0
  cases r with
  | lst s a1 =>
    have z := boolsD a1
    subst z
    exact ⟨_, bs, rfl, .inl (ex_rd e s), q _ S H (Go.rf e) (.bl _)⟩
theorem cd_any {bs : List Bool} : CaD K (rAny K) [.lst (bs.map DV.bl)] (.bl (bs.any id)) := fun S H xs e r0 Q q => by
  obtain ⟨v, rfl, r⟩ := one r0
  cases r with
  | lst s a1 =>
    have z := boolsD a1
    subst z
    exact ⟨_, bs, rfl, .inl (ex_rd e s), q _ S H (Go.rf e) (.bl _)⟩
theorem cd_sum {ns : List Int} : CaD K (rSum K) [.lst (ns.map DV.int)] (.int ns.sum) := fun S H xs e r0 Q q => by
  obtain ⟨v, rfl, r⟩ := one r0
  cases r with
  | lst s a1 =>
    have z := intsD a1
    subst z
    exact ⟨_, ns, rfl, .inl (ex_rd e s), q _ S H (Go.rf e) (.int _)⟩
def rListX (K : PySem.W.Frag) : List V → Hp → VK → Prop := fun xs H Q => ∃ p ys, xs = [.ref p] ∧ (SqL K H p ys ∨ SqT K H p ys) ∧ ∀ l, H l = none → Q (.ref l) (upd H l (.lst ys))
theorem cd_list {ds : List DV} (h : a.items = some ds) : CaD K (rListX K) [a] (.lst ds) := fun S H xs e r0 Q q => by
  obtain ⟨v, rfl, r⟩ := one r0
  obtain ⟨p, ys, rfl, hs, ra⟩ := items_rp h r
  exact ⟨p, ys, rfl, sq_up e hs, fun l hl => q _ _ _ (Go.up e hl) (.lst (.inl upd_same) (ra.up (Ex.new (e.free hl))))⟩
def rTupX (K : PySem.W.Frag) : List V → Hp → VK → Prop := fun xs H Q => ∃ p ys, xs = [.ref p] ∧ ((SqL K H p ys ∧ ∀ l, H l = none → Q (.ref l) (upd H l (.tup ys))) ∨ (SqT K H p ys ∧ Q (.ref p) H))
theorem cd_tuple {ds : List DV} (h : a.items = some ds) : CaD K (rTupX K) [a] (.tup ds) := fun S H xs e r0 Q q => by
  obtain ⟨v, rfl, r⟩ := one r0
  obtain ⟨p, ys, rfl, hs, ra⟩ := items_rp h r
  refine ⟨p, ys, rfl, ?_⟩
  rcases hs with hs | hs
  · exact .inl ⟨ex_l e hs, fun l hl => q _ _ _ (Go.up e hl) (.tup (.inl (.inl upd_same)) (ra.up (Ex.new (e.free hl))))⟩
  · exact .inr ⟨ex_t e hs, q _ S H (Go.rf e) (.tup hs ra)⟩
def rInt1 : List V → Hp → VK → Prop := fun xs H Q => (∃ i, xs = [.int i] ∧ Q (.int i) H) ∨ ∃ k, xs = [.bl k] ∧ Q (.int (if k then 1 else 0)) H
theorem cd_int {i : Int} : CaD K rInt1 [.int i] (.int i) := fun S H xs e r0 Q q => by
  obtain ⟨v, rfl, r⟩ := one r0
  cases r
  exact .inl ⟨i, rfl, q _ S H (Go.rf e) (.int _)⟩
/-! the kind of a thing -/
def DV.kind : DV → Option String
  | .non => some "NoneType" | .bl _ => some "bool" | .int _ => some "int" | .str _ => some "str" | .tup _ => some "tuple" | .lst _ => some "list" | .obj _ _ => none | .frz _ => none
theorem ty_of {S H : Hp} (e : Ex S H) {v : V} {t : String} (h : d.kind = some t) (r : Rp K S v d) : TyX K H v (.type t) := by
  cases r with
  | non => cases h; exact .base .non
  | bl b => cases h; exact .base (.bl b)
  | int i => cases h; exact .base (.int i)
  | str x => cases h; exact .base (.str x)
  | tup s _ =>
    cases h
    rcases ex_t e s with (s | ⟨o, s⟩) | ⟨o, its, n, s, c, _⟩
    · exact .base (.tup s)
    · exact .fTuple s
    · exact .kTuple s c
  | lst s _ =>
    cases h
    rcases ex_rd e s with s | ⟨o, s⟩
    · exact .base (.lst s)
    · exact .base (.frz s)
  | obj _ _ => cases h
  | frz _ _ => cases h
/-- isinstance(x, T): the second argument's reading gives the class itself -/
def tIsi (K : PySem.W.Frag) (te : TE) (n : String) : TE := tCB (rIsi K) (tCons te (tCons (tC (.ty n)) tNil))
theorem ev_isi {n t : String} {b : Bool} (h : EvD K te ρ d) (hk : d.kind = some t) (hb : kitB t n = some b) : EvD K (tIsi K te n) ρ (.bl b) := fun H0 σ S H e m Q q =>
  h H0 σ S H e m _ fun x S1 H1 g1 r1 => ⟨x, .ty n, _, _, b, rfl, .ty n, ty_of g1.sub hk r1, kit_ty hb, q _ S1 H1 g1 (.bl _)⟩
end

/-! ### what is walked -/
structure WkD (K : PySem.W.Frag) (J : It) (S : Hp) (ds : List DV) : Prop where
  stop : ∀ H, Ex S H → J.stop ds.length H
  go : ∀ i H, Ex S H → i < ds.length → J.go i H
  yld : ∀ i H x H', J.yld i H x H' → ∀ d, ds[i]? = some d → ∀ S1, Ex S S1 → Ex S1 H → ∃ S', Go S1 H S' H' ∧ Rp K S' x d
def IvD (K : PySem.W.Frag) (wi : TI) (ρ : Rho) (ds : List DV) : Prop := ∀ H0 σ S H, Ex S H → En K H0 S H σ ρ → ∀ R : It → Hp → Prop, (∀ J S' H', Go S H S' H' → WkD K J S' ds → R J H') → wi σ H R
section
variable {K : PySem.W.Frag} {ρ : Rho} {te : TE} {d : DV}
theorem wk_l {S : Hp} {a : Addr} {xs : List V} {ds : List DV} (h : SqL K S a xs) (r : RpA K S xs ds) : WkD K (Itl K a) S ds where
  stop := fun H e => ⟨xs, ex_l e h, by rw [r.len]; exact Nat.le_refl _⟩
  go := fun i H e hi => ⟨xs, xs[i]'(by rw [r.len]; exact hi), ex_l e h, List.getElem?_eq_getElem _⟩
  yld := fun i H x H' y d hd S1 e e1 => by
    obtain ⟨rfl, f⟩ := y
    exact ⟨S1, Go.rf e1, (r.getV (f xs (ex_l (e.tr e1) h)) hd).up e⟩
theorem wk_t {S : Hp} {a : Addr} {xs : List V} {ds : List DV} (h : SqT K S a xs) (r : RpA K S xs ds) : WkD K (Itt K a) S ds where
  stop := fun H e => ⟨xs, ex_t e h, by rw [r.len]; exact Nat.le_refl _⟩
  go := fun i H e hi => ⟨xs, xs[i]'(by rw [r.len]; exact hi), ex_t e h, List.getElem?_eq_getElem _⟩
  yld := fun i H x H' y d hd S1 e e1 => by
    obtain ⟨rfl, f⟩ := y
    exact ⟨S1, Go.rf e1, (r.getV (f xs (ex_t (e.tr e1) h)) hd).up e⟩
theorem iv_list {ds : List DV} (h : EvD K te ρ (.lst ds)) : IvD K (iList K te) ρ ds := fun H0 σ S H e n R q =>
  h H0 σ S H e n _ fun v S1 H1 g1 r1 => by
    cases r1 with
    | lst s a => exact ⟨_, rfl, ⟨_, .inl (ex_rd g1.sub s)⟩, q _ S1 H1 g1 (wk_l (.inl s) a)⟩
theorem iv_tup {ds : List DV} (h : EvD K te ρ (.tup ds)) : IvD K (iTup K te) ρ ds := fun H0 σ S H e n R q =>
  h H0 σ S H e n _ fun v S1 H1 g1 r1 => by
    cases r1 with
    | tup s a => exact ⟨_, rfl, ⟨_, ex_t g1.sub s⟩, q _ S1 H1 g1 (wk_t s a)⟩
def rangeD (lo : Int) (n : Nat) : List DV := (List.range n).map fun (i : Nat) => DV.int (lo + (i : Int))
theorem rangeD_len {lo : Int} {n : Nat} : (rangeD lo n).length = n := by unfold rangeD; simp
theorem wk_r {S : Hp} (lo : Int) (n : Nat) : WkD K (Itr lo n) S (rangeD lo n) where
  stop := fun H e => by rw [rangeD_len]; exact Nat.le_refl n
  go := fun i H e hi => by rw [rangeD_len] at hi; exact hi
  yld := fun i H x H' y d hd S1 e e1 => by
    obtain ⟨rfl, rfl⟩ := y
    unfold rangeD at hd
    rw [List.getElem?_map] at hd
    cases q : (List.range n)[i]? with
    | none => rw [q] at hd; cases hd
    | some j =>
      rw [q] at hd
      have hj : i = j := by
        have z := List.getElem?_eq_some_iff.mp q
        obtain ⟨z1, z2⟩ := z
        rw [List.getElem_range] at z2
        exact z2
      subst hj
      cases hd
      exact ⟨S1, Go.rf e1, .int _⟩
theorem iv_range {n : Nat} (h : EvD K te ρ (.int n)) (hn : n ≤ 100000) : IvD K (iRng1 (tCons te tNil)) ρ (rangeD 0 n) := fun H0 σ S H e m R q =>
  h H0 σ S H e m _ fun v S1 H1 g1 r1 => by
    cases r1
    refine ⟨(n : Int), rfl, by omega, by omega, q _ S1 H1 g1 ?_⟩
    rw [Int.toNat_natCast]
    exact wk_r 0 n
def signD (x : Str) : List DV := x.cps.toList.map fun c => DV.str ⟨#[c]⟩
theorem wk_s {S : Hp} (x : Str) : WkD K (Its x) S (signD x) where
  stop := fun H e => by unfold signD; rw [List.length_map]; show x.cps.size ≤ x.cps.toList.length; rw [Array.length_toList]; exact Nat.le_refl _
  go := fun i H e hi => by unfold signD at hi; rw [List.length_map, Array.length_toList] at hi; exact hi
  yld := fun i H v H' y d hd S1 e e1 => by
    obtain ⟨rfl, c, hc, rfl⟩ := y
    unfold signD at hd
    rw [List.getElem?_map, Array.getElem?_toList, hc] at hd
    cases hd
    exact ⟨S1, Go.rf e1, .str _⟩
theorem iv_str {x : Str} (h : EvD K te ρ (.str x)) : IvD K (iStr te) ρ (signD x) := fun H0 σ S H e n R q =>
  h H0 σ S H e n _ fun v S1 H1 g1 r1 => by
    cases r1
    exact ⟨x, rfl, q _ S1 H1 g1 (wk_s x)⟩
def enumD (ds : List DV) : List DV := (ds.zipIdx).map fun p => DV.tup [.int (p.2 : Int), p.1]
theorem enumD_len {ds : List DV} : (enumD ds).length = ds.length := by unfold enumD; simp
theorem enumD_get {ds : List DV} {i : Nat} {d e : DV} (h : ds[i]? = some e) (hd : (enumD ds)[i]? = some d) : d = .tup [.int (i : Int), e] := by
  unfold enumD at hd
  rw [List.getElem?_map, List.getElem?_zipIdx, h] at hd
  simp at hd
  exact hd.symm
theorem wk_e {S : Hp} {a : Addr} {xs : List V} {ds : List DV} (h : SqL K S a xs) (r : RpA K S xs ds) : WkD K (Ite K a) S (enumD ds) where
  stop := fun H e => ⟨xs, ex_l e h, by rw [enumD_len, r.len]; exact Nat.le_refl _⟩
  go := fun i H e hi => ⟨xs, xs[i]'(by rw [enumD_len] at hi; rw [r.len]; exact hi), ex_l e h, List.getElem?_eq_getElem _⟩
  yld := fun i H x H' y d hd S1 e e1 => by
    obtain ⟨T, x, rfl, nT, rfl, f⟩ := y
    have hi : i < ds.length := by
      have z := (List.getElem?_eq_some_iff.mp hd).1
      rwa [enumD_len] at z
    have hx := f xs (ex_l (e.tr e1) h)
    have rx := (r.getV hx (List.getElem?_eq_getElem hi)).up e
    rw [enumD_get (List.getElem?_eq_getElem hi) hd]
    exact ⟨_, Go.up e1 nT, .tup (.inl (.inl upd_same)) (.cons (.int _) (.cons (rx.up (Ex.new (e1.free nT))) .nil))⟩
theorem iv_enum {ds : List DV} (h : EvD K te ρ (.lst ds)) : IvD K (iEnum K (tCons te tNil)) ρ (enumD ds) := fun H0 σ S H e n R q =>
  h H0 σ S H e n _ fun v S1 H1 g1 r1 => by
    cases r1 with
    | lst s a => exact ⟨_, _, rfl, .inl (ex_rd g1.sub s), q _ S1 H1 g1 (wk_e (.inl s) a)⟩
end

/-! ### targets -/
def TgD (K : PySem.W.Frag) (g : TG) (is : List Nat) (d : DV) (ρ ρ' : Rho) : Prop := ∀ H0 σ S H v, Ex S H → En K H0 S H σ ρ → Rp K S v d → ∀ Q : L2.St → Hp → Prop,
  (∀ σ', En K H0 S H σ' ρ' → σ'.length = σ.length → (∀ j, j ∉ is → σ'[j]? = σ[j]?) → Q σ' H) → g v σ H Q
section
variable {K : PySem.W.Frag} {ρ ρ' ρ'' : Rho} {d : DV} {is js : List Nat}
theorem tg_name {i : Nat} : TgD K (gName i) [i] d ρ (ρ.set i (.val d)) := fun H0 σ S H v e n r Q q =>
  q _ (n.set r) (List.length_set ..) fun j hj => List.getElem?_set_ne (fun z => hj (by rw [z]; exact List.mem_singleton.mpr rfl))
def TgsD (K : PySem.W.Frag) (g : TGs) (is : List Nat) (ds : List DV) (ρ ρ' : Rho) : Prop := ∀ H0 σ S H vs, Ex S H → En K H0 S H σ ρ → RpA K S vs ds → ∀ Q : L2.St → Hp → Prop,
  (∀ σ', En K H0 S H σ' ρ' → σ'.length = σ.length → (∀ j, j ∉ is → σ'[j]? = σ[j]?) → Q σ' H) → g vs σ H Q
theorem tgs_nil : TgsD K gNil [] [] ρ ρ := fun H0 σ S H vs e n r Q q => by
  cases r
  exact ⟨rfl, q σ n rfl fun _ _ => rfl⟩
theorem tgs_cons {g : TG} {gs : TGs} {ds : List DV} (h : TgD K g is d ρ ρ') (hs : TgsD K gs js ds ρ' ρ'') : TgsD K (gCons g gs) (is ++ js) (d :: ds) ρ ρ'' := fun H0 σ S H vs e n r Q q => by
  cases r with
  | cons r1 r2 =>
    refine ⟨_, _, rfl, h H0 σ S H _ e n r1 _ fun σ1 n1 l1 f1 => hs H0 σ1 S H _ e n1 r2 _ fun σ2 n2 l2 f2 => q σ2 n2 (l2.trans l1) fun j hj => ?_⟩
    rw [f2 j (fun z => hj (List.mem_append_right _ z)), f1 j (fun z => hj (List.mem_append_left _ z))]
theorem tg_tup {gs : TGs} {ds : List DV} {n : Nat} (h : TgsD K gs is ds ρ ρ') (hl : ds.length = n) : TgD K (gTup K n gs) is (.tup ds) ρ ρ' := fun H0 σ S H v e m r Q q => by
  cases r with
  | tup s a => exact ⟨_, _, rfl, ex_t e s, by rw [a.len]; exact hl, h H0 σ S H _ e m a Q q⟩
end
theorem st_asgG {K : PySem.W.Frag} {ρ ρ' : Rho} {te : TE} {g : TG} {is : List Nat} {d : DV} {E : Po} (h : EvD K te ρ d) (hg : TgD K g is d ρ ρ') (q : E.nx ρ') : StD K (tAsg te g) ρ E := fun S0 H0 B σ S H D g0 b n o =>
  h H0 σ S H g0.sub n _ fun v S1 H1 g1 r1 => hg H0 σ S1 H1 v g1.sub (n.go g1) r1 _ fun σ' n' _ _ => o.nx _ _ S1 H1 q (g0.tr g1) (b.tr g1.s) n'
end PD

/-! Data: comprehensions, loops, lists of one's own. -/
namespace PD
open PySem PySem.Spec PyProof.Rows L2

theorem Go.chg {S H S' H' : Hp} {D : Addr} {o : HO} (g : Go S H S' H') (n : S' D = none) (m : H D = none) : Go S H S' (upd H' D o) :=
  ⟨g.s, g.h.off m, g.sub.off n, g.new⟩
theorem Go.frz {S H S' H' : Hp} {D : Addr} {o : HO} (g : Go S H S' H') (n : S' D = none) (m : H D = none) (h : H' D = some o) : Go S H (upd S' D o) H' :=
  ⟨g.s.tr (Ex.new n), g.h, fun a u q => by
    by_cases z : a = D
    · subst z
      rw [upd_same] at q
      rw [h]
      exact q
    · rw [upd_ne z] at q
      exact g.sub a u q, fun a u q k => by
    by_cases z : a = D
    · subst z
      exact m
    · rw [upd_ne z] at q
      exact g.new a u q k⟩
theorem Go.off {S H S' H' : Hp} {D : Addr} {o : HO} (g : Go S H S' H') (n : S D = none) (h : H D = some o) : S' D = none := by
  cases q : S' D with
  | none => rfl
  | some u =>
    have z := g.new D u q n
    rw [h] at z
    cases z
theorem wipe_get (σ : L2.St) (j : Nat) : ∀ vs : List Nat, (wipe σ vs)[j]? = if j ∈ vs then (if j < σ.length then some none else none) else σ[j]?
  | [] => by simp [wipe]
  | v :: vs => by
    have ih := wipe_get σ j vs
    show ((wipe σ vs).set v none)[j]? = _
    by_cases h : v = j
    · subst h
      rw [if_pos (List.mem_cons_self ..)]
      by_cases hl : v < σ.length
      · rw [if_pos hl, List.getElem?_set_self (by rw [wipe_length]; exact hl)]
      · rw [if_neg hl, List.getElem?_eq_none (by rw [List.length_set, wipe_length]; omega)]
    · rw [List.getElem?_set_ne h, ih]
      have e : (j ∈ v :: vs) = (j ∈ vs) := by
        rw [List.mem_cons]
        exact propext ⟨fun z => z.resolve_left (fun w => h w.symm), .inr⟩
      simp only [e]
theorem wipe_eq {σ σ2 : L2.St} {vs is : List Nat} (l : σ2.length = (wipe σ vs).length) (f : ∀ j, j ∉ is → σ2[j]? = (wipe σ vs)[j]?) (hs : ∀ j ∈ is, j ∈ vs) : wipe σ2 vs = wipe σ vs := by
  rw [wipe_length] at l
  refine List.ext_getElem? fun j => ?_
  rw [wipe_get, wipe_get, l]
  by_cases h : j ∈ vs
  · rw [if_pos h, if_pos h]
  · rw [if_neg h, if_neg h, f j (fun z => h (hs j z)), wipe_get, if_neg h]
/-- a reading that gives a list that nothing else names -/
def EvL (K : PySem.W.Frag) (te : TE) (ρ : Rho) (ds : List DV) : Prop := ∀ H0 σ S H, Ex S H → En K H0 S H σ ρ → ∀ Q : VK, (∀ p vs S' H', H p = none → Go S H S' H' → S' p = none → H' p = some (.lst vs) → RpA K S' vs ds → Q (.ref p) H') → te σ H Q
section
variable {K : PySem.W.Frag} {ρ : Rho} {te : TE} {ds : List DV} {d : DV}
theorem EvL.ev (h : EvL K te ρ ds) : EvD K te ρ (.lst ds) := fun H0 σ S H e n Q q =>
  h H0 σ S H e n Q fun p vs S' H' hp g nS hh r => q _ _ _ (g.frz nS hp hh) (.lst (.inl upd_same) (r.up (Ex.new nS)))
theorem el_lst {tx : TA} (h : EvA K tx ρ ds) (hl : ds.length ≤ 100000) : EvL K (tLst tx) ρ ds := fun H0 σ S H e n Q q =>
  h H0 σ S H e n _ fun vs S1 H1 g1 r1 => ⟨Nat.le_trans (by rw [r1.len]; exact hl) (by decide), fun p hp =>
    q p vs S1 _ (g1.h.free hp) (g1.chg (g1.sub.free hp) (g1.h.free hp)) (g1.sub.free hp) upd_same r1⟩
theorem take_more {α : Type} : ∀ {l : List α} {i : Nat} {x : α}, l[i]? = some x → l.take (i + 1) = l.take i ++ [x]
  | [], i, x, h => by simp at h
  | a :: l, 0, x, h => by
    have e : a = x := Option.some.inj h
    subst e
    rfl
  | a :: l, i + 1, x, h => by
    have ih := take_more (l := l) (i := i) (x := x) h
    show a :: l.take (i + 1) = a :: l.take i ++ [x]
    rw [ih]
    rfl
/-- [f d for d in ds if p d] -/
theorem el_lc {wi : TI} {g : TG} {tt : TT} {is vs : List Nat} (hi : IvD K wi ρ ds) (hlen : ds.length ≤ 100000) (his : ∀ j ∈ is, j ∈ vs) (ρ1 : DV → Rho) (p : DV → Bool) (f : DV → DV)
    (hg : ∀ d ∈ ds, TgD K g is d (wipeR ρ vs) (ρ1 d)) (ht : ∀ d ∈ ds, EvB K tt (ρ1 d) (p d)) (he : ∀ d ∈ ds, p d = true → EvD K te (ρ1 d) (f d)) : EvL K (tLc wi g tt te vs) ρ ((ds.filter p).map f) := fun H0 σ S H e n Q q =>
  hi H0 σ S H e n _ fun J S1 H1 g1 w1 => fun D hD => by
    have hDH : H D = none := g1.h.free hD
    refine ⟨fun i m H2 => m = ds.length - i ∧ i ≤ ds.length ∧ ∃ S2 acc, Go S1 H1 S2 H2 ∧ S2 D = none ∧ H2 D = some (.lst acc) ∧ RpA K S2 acc (((ds.take i).filter p).map f) ∧ acc.length ≤ i,
      ⟨_, rfl, Nat.zero_le _, S1, [], Go.side g1.sub (Ex.new hD) , g1.sub.free hD, upd_same, .nil, Nat.le_refl _⟩, ?_⟩
    rintro i m H2 ⟨rfl, hile, S2, acc, g2, nD, hD2, ra, hacc⟩
    by_cases hlt : i < ds.length
    · have hdi : ds[i]? = some ds[i] := List.getElem?_eq_getElem hlt
      have hmem : ds[i] ∈ ds := List.getElem_mem hlt
      have tk := take_more hdi
      refine .inr ⟨w1.go i H2 (g2.s.tr g2.sub) hlt, fun H' => ∃ S3 acc', Go S1 H1 S3 H' ∧ S3 D = none ∧ H' D = some (.lst acc') ∧ RpA K S3 acc' (((ds.take (i + 1)).filter p).map f) ∧ acc'.length ≤ i + 1,
        fun H' ⟨S3, acc', a, b, c, d, l⟩ => ⟨ds.length - (i + 1), by omega, rfl, hlt, S3, acc', a, b, c, d, l⟩, fun x H' y => ?_⟩
      obtain ⟨S3, g3, rx⟩ := w1.yld i H2 x H' y _ hdi S2 g2.s g2.sub
      have n3 := (((n.go g1).go g2).go g3).wipe vs
      refine hg _ hmem H0 (wipe σ vs) S3 H' x g3.sub n3 rx _ fun σ2 n2 l2 f2 => ⟨wipe_eq l2 f2 his, ?_⟩
      refine ht _ hmem H0 σ2 S3 H' g3.sub n2 _ fun S4 H4 g4 => ?_
      have hD4 : H4 D = some (.lst acc) := g4.h _ _ (g3.h _ _ hD2)
      have nD4 : S4 D = none := (g3.tr g4).off nD hD2
      cases hp : p ds[i] with
      | true =>
        rw [if_pos rfl]
        refine he _ hmem hp H0 σ2 S4 H4 g4.sub (n2.go g4) _ fun y S5 H5 g5 r5 => ⟨acc, g5.h _ _ hD4, Nat.lt_of_le_of_lt (Nat.le_trans hacc (Nat.le_of_lt hlt)) (Nat.lt_of_le_of_lt hlen (by decide)), S5, acc ++ [y], ?_, ?_, upd_same, ?_, ?_⟩
        · exact (g2.tr ((g3.tr g4).tr g5)).chg (g5.off nD4 hD4) hD
        · exact g5.off nD4 hD4
        · rw [tk, List.filter_append, List.map_append]
          have e1 : ([ds[i]].filter p).map f = [f ds[i]] := by simp [hp]
          rw [e1]
          exact (((ra.up g3.s).up g4.s).up g5.s).snoc r5
        · rw [List.length_append, List.length_singleton]
          omega
      | false =>
        rw [if_neg (by decide)]
        refine ⟨S4, acc, g2.tr (g3.tr g4), nD4, hD4, ?_, by omega⟩
        rw [tk, List.filter_append, List.map_append]
        have e1 : ([ds[i]].filter p).map f = [] := by simp [hp]
        rw [e1, List.append_nil]
        exact (ra.up g3.s).up g4.s
    · have e : i = ds.length := by omega
      subst e
      rw [List.take_length] at ra
      exact .inl ⟨w1.stop H2 (g2.s.tr g2.sub), q D acc S2 H2 hDH (g1.tr g2) nD hD2 ra⟩
def EV.hid : EV → EV
  | .own _ => .un | e => e
def EV.isOwn : EV → Bool
  | .own _ => true | _ => false
def hide (ρ : Rho) : Rho := ρ.map EV.hid
def noOwn (ρ : Rho) : Bool := ρ.all fun e => !e.isOwn
theorem noOwn_get {ρ : Rho} (h : noOwn ρ = true) {i : Nat} {e : EV} (hi : ρ[i]? = some e) : e.isOwn = false := by
  unfold noOwn at h
  rw [List.all_eq_true] at h
  have z := h e (List.mem_of_getElem? hi)
  simpa using z
theorem En.still {H0 S S' H H' : Hp} {σ : L2.St} {ρ : Rho} (n : En K H0 S H σ ρ) (h : noOwn ρ = true) (e : Ex S S') : En K H0 S' H' σ ρ where
  len := n.len
  at_ := fun i v u a b => by
    have q := n.at_ i v u a b
    have z := noOwn_get h b
    cases u with
    | un => trivial
    | val d =>
      obtain ⟨w, x, r⟩ := q
      exact ⟨w, x, r.up e⟩
    | own _ => cases z
  sep := n.sep
theorem En.hide {H0 S H : Hp} {σ : L2.St} {ρ : Rho} (n : En K H0 S H σ ρ) : En K H0 S H σ (PD.hide ρ) where
  len := by unfold PD.hide; rw [List.length_map]; exact n.len
  at_ := fun i v u a b => by
    unfold PD.hide at b
    rw [List.getElem?_map] at b
    cases q : ρ[i]? with
    | none => rw [q] at b; cases b
    | some w =>
      rw [q] at b
      cases b
      have z := n.at_ i v w a q
      cases w with
      | un => trivial
      | val d => exact z
      | own _ => trivial
  sep := fun i j p q ds es hij a b c e => by
    unfold PD.hide at a
    rw [List.getElem?_map] at a
    cases z : ρ[i]? with
    | none => rw [z] at a; cases a
    | some w =>
      rw [z] at a
      cases w <;> cases a
theorem el_hide (h : EvL K te (hide ρ) ds) : EvL K te ρ ds := fun H0 σ S H e n Q q => h H0 σ S H e n.hide Q q
theorem ev_hide (h : EvD K te (hide ρ) d) : EvD K te ρ d := fun H0 σ S H e n Q q => h H0 σ S H e n.hide Q q
theorem eb_yes : EvB K tYes ρ true := fun H0 σ S H e n Q q => q S H (Go.rf e)
/-- [f d e for d in ds if p d for e in es d if p1 d e] -/
theorem el_lc2 {wi wi1 : TI} {g g1 : TG} {tt tt1 : TT} {is is1 vs vs1 : List Nat} (hi : IvD K wi ρ ds) (his : ∀ j ∈ is, j ∈ vs) (his1 : ∀ j ∈ is1, j ∈ vs1) (ρ1 : DV → Rho) (p : DV → Bool) (es : DV → List DV) (ρ2 : DV → DV → Rho) (p1 : DV → DV → Bool) (f : DV → DV → DV)
    (hno : ∀ d ∈ ds, noOwn (ρ1 d) = true) (hlen : ((ds.filter p).flatMap fun d => ((es d).filter (p1 d)).map (f d)).length ≤ 100000)
    (hg : ∀ d ∈ ds, TgD K g is d (wipeR ρ vs) (ρ1 d)) (ht : ∀ d ∈ ds, EvB K tt (ρ1 d) (p d)) (hi1 : ∀ d ∈ ds, p d = true → IvD K wi1 (ρ1 d) (es d))
    (hg1 : ∀ d ∈ ds, p d = true → ∀ c ∈ es d, TgD K g1 is1 c (wipeR (ρ1 d) vs1) (ρ2 d c)) (ht1 : ∀ d ∈ ds, p d = true → ∀ c ∈ es d, EvB K tt1 (ρ2 d c) (p1 d c))
    (he : ∀ d ∈ ds, p d = true → ∀ c ∈ es d, p1 d c = true → EvD K te (ρ2 d c) (f d c)) : EvL K (tLc2 wi g tt wi1 g1 tt1 te vs vs1) ρ ((ds.filter p).flatMap fun d => ((es d).filter (p1 d)).map (f d)) := fun H0 σ S H e n Q q =>
  hi H0 σ S H e n _ fun J S1 H1 ga w1 => fun D hD => by
    have hDH : H D = none := ga.h.free hD
    refine ⟨fun i m H2 => m = ds.length - i ∧ i ≤ ds.length ∧ ∃ S2 acc, Go S1 H1 S2 H2 ∧ S2 D = none ∧ H2 D = some (.lst acc) ∧ RpA K S2 acc (((ds.take i).filter p).flatMap fun d => ((es d).filter (p1 d)).map (f d)),
      ⟨_, rfl, Nat.zero_le _, S1, [], Go.side ga.sub (Ex.new hD) , ga.sub.free hD, upd_same, .nil⟩, ?_⟩
    rintro i m H2 ⟨rfl, hile, S2, acc, g2, nD, hD2, ra⟩
    by_cases hlt : i < ds.length
    · have hdi : ds[i]? = some ds[i] := List.getElem?_eq_getElem hlt
      have hmem : ds[i] ∈ ds := List.getElem_mem hlt
      have tk := take_more hdi
      refine .inr ⟨w1.go i H2 (g2.s.tr g2.sub) hlt, fun H' => ∃ S3 acc', Go S1 H1 S3 H' ∧ S3 D = none ∧ H' D = some (.lst acc') ∧ RpA K S3 acc' (((ds.take (i + 1)).filter p).flatMap fun d => ((es d).filter (p1 d)).map (f d)),
        fun H' ⟨S3, acc', a, b, c, d⟩ => ⟨ds.length - (i + 1), by omega, rfl, hlt, S3, acc', a, b, c, d⟩, fun x H' y => ?_⟩
      obtain ⟨S3, g3, rx⟩ := w1.yld i H2 x H' y _ hdi S2 g2.s g2.sub
      have n3 := (((n.go ga).go g2).go g3).wipe vs
      refine hg _ hmem H0 (wipe σ vs) S3 H' x g3.sub n3 rx _ fun σ2 n2 l2 f2 => ⟨wipe_eq l2 f2 his, ?_⟩
      refine ht _ hmem H0 σ2 S3 H' g3.sub n2 _ fun S4 H4 g4 => ?_
      have hD4 : H4 D = some (.lst acc) := g4.h _ _ (g3.h _ _ hD2)
      have nD4 : S4 D = none := (g3.tr g4).off nD hD2
      cases hp : p ds[i] with
      | false =>
        rw [if_neg (by decide)]
        refine ⟨S4, acc, g2.tr (g3.tr g4), nD4, hD4, ?_⟩
        rw [tk, List.filter_append, List.flatMap_append]
        have e1 : (([ds[i]].filter p).flatMap fun d => ((es d).filter (p1 d)).map (f d)) = [] := by simp [hp]
        rw [e1, List.append_nil]
        exact (ra.up g3.s).up g4.s
      | true =>
        rw [if_pos rfl]
        have g14 : Go S1 H1 S4 H4 := g2.tr (g3.tr g4)
        have ra4 := (ra.up g3.s).up g4.s
        have all : ∀ j, (((ds.take i).filter p).flatMap fun d => ((es d).filter (p1 d)).map (f d)).length + ((((es ds[i]).take j).filter (p1 ds[i])).map (f ds[i])).length ≤ 100000 := fun j => by
          refine Nat.le_trans ?_ hlen
          have h1 : ds = ds.take i ++ ds[i] :: ds.drop (i + 1) := by
            rw [List.getElem_cons_drop, List.take_append_drop]
          have h2 : es ds[i] = (es ds[i]).take j ++ (es ds[i]).drop j := (List.take_append_drop ..).symm
          have h3 : ((ds.filter p).flatMap fun d => ((es d).filter (p1 d)).map (f d)).length = (((ds.take i ++ ds[i] :: ds.drop (i + 1)).filter p).flatMap fun d => ((es d).filter (p1 d)).map (f d)).length := by rw [← h1]
          rw [h3, List.filter_append, List.filter_cons_of_pos hp, List.flatMap_append, List.flatMap_cons, List.length_append, List.length_append]
          have h4 : (((es ds[i]).filter (p1 ds[i])).map (f ds[i])).length = ((((es ds[i]).take j ++ (es ds[i]).drop j).filter (p1 ds[i])).map (f ds[i])).length := by rw [← h2]
          rw [h4, List.filter_append, List.map_append, List.length_append]
          omega
        refine hi1 _ hmem hp H0 σ2 S4 H4 g4.sub (n2.go g4) _ fun J1 S5 H5 g5 w5 => ?_
        refine ⟨fun j k H6 => k = (es ds[i]).length - j ∧ j ≤ (es ds[i]).length ∧ ∃ S6 acc6, Go S1 H1 S6 H6 ∧ Ex S5 S6 ∧ S6 D = none ∧ H6 D = some (.lst acc6) ∧ RpA K S6 acc6 ((((ds.take i).filter p).flatMap fun d => ((es d).filter (p1 d)).map (f d)) ++ (((es ds[i]).take j).filter (p1 ds[i])).map (f ds[i])), ?_, ?_⟩
        · exact ⟨_, rfl, Nat.zero_le _, S5, acc, g14.tr g5, Ex.rf _, g5.off nD4 hD4, g5.h _ _ hD4, by
            rw [List.take_zero]
            show RpA K S5 acc (_ ++ [])
            rw [List.append_nil]
            exact ra4.up g5.s⟩
        · rintro j k H6 ⟨rfl, hjle, S6, acc6, g6, e6, nD6, hD6, ra6⟩
          by_cases hjl : j < (es ds[i]).length
          · have hej : (es ds[i])[j]? = some (es ds[i])[j] := List.getElem?_eq_getElem hjl
            have hemem : (es ds[i])[j] ∈ es ds[i] := List.getElem_mem hjl
            have tk1 := take_more hej
            refine .inr ⟨w5.go j H6 (e6.tr g6.sub) hjl, fun H' => ∃ S7 acc7, Go S1 H1 S7 H' ∧ Ex S5 S7 ∧ S7 D = none ∧ H' D = some (.lst acc7) ∧ RpA K S7 acc7 ((((ds.take i).filter p).flatMap fun d => ((es d).filter (p1 d)).map (f d)) ++ (((es ds[i]).take (j + 1)).filter (p1 ds[i])).map (f ds[i])),
              fun H' ⟨S7, acc7, a, z, b, c, d⟩ => ⟨(es ds[i]).length - (j + 1), by omega, rfl, hjl, S7, acc7, a, z, b, c, d⟩, fun x1 H7 y1 => ?_⟩
            obtain ⟨S7, g7, rx1⟩ := w5.yld j H6 x1 H7 y1 _ hej S6 e6 g6.sub
            have n7 : En K H0 S7 H7 (wipe σ2 vs1) (wipeR (ρ1 ds[i]) vs1) := (n2.still (hno _ hmem) (g4.s.tr (g5.s.tr (e6.tr g7.s)))).wipe vs1
            refine hg1 _ hmem hp _ hemem H0 (wipe σ2 vs1) S7 H7 x1 g7.sub n7 rx1 _ fun σ3 n8 l3 f3 => ⟨wipe_eq l3 f3 his1, ?_⟩
            refine ht1 _ hmem hp _ hemem H0 σ3 S7 H7 g7.sub n8 _ fun S8 H8 g8 => ?_
            have hD8 : H8 D = some (.lst acc6) := g8.h _ _ (g7.h _ _ hD6)
            have nD8 : S8 D = none := (g7.tr g8).off nD6 hD6
            cases hp1 : p1 ds[i] (es ds[i])[j] with
            | false =>
              rw [if_neg (by decide)]
              refine ⟨S8, acc6, g6.tr (g7.tr g8), e6.tr (g7.s.tr g8.s), nD8, hD8, ?_⟩
              rw [tk1, List.filter_append, List.map_append]
              have e1 : ([(es ds[i])[j]].filter (p1 ds[i])).map (f ds[i]) = [] := by simp [hp1]
              rw [e1, List.append_nil]
              exact (ra6.up g7.s).up g8.s
            | true =>
              rw [if_pos rfl]
              have hal := all j
              refine he _ hmem hp _ hemem hp1 H0 σ3 S8 H8 g8.sub (n8.go g8) _ fun y S9 H9 g9 r9 => ⟨acc6, g9.h _ _ hD8, ?_, S9, acc6 ++ [y], ?_, e6.tr (g7.s.tr (g8.s.tr g9.s)), g9.off nD8 hD8, upd_same, ?_⟩
              · rw [ra6.len, List.length_append]
                exact Nat.lt_of_le_of_lt hal (by decide)
              · exact (g6.tr ((g7.tr g8).tr g9)).chg (g9.off nD8 hD8) hD
              · rw [tk1, List.filter_append, List.map_append]
                have e1 : ([(es ds[i])[j]].filter (p1 ds[i])).map (f ds[i]) = [f ds[i] (es ds[i])[j]] := by simp [hp1]
                rw [e1, ← List.append_assoc]
                exact (((ra6.up g7.s).up g8.s).up g9.s).snoc r9
          · have e : j = (es ds[i]).length := by omega
            subst e
            rw [List.take_length] at ra6
            refine .inl ⟨w5.stop H6 (e6.tr g6.sub), S6, acc6, g6, nD6, hD6, ?_⟩
            rw [tk, List.filter_append, List.flatMap_append]
            have e1 : (([ds[i]].filter p).flatMap fun d => ((es d).filter (p1 d)).map (f d)) = ((es ds[i]).filter (p1 ds[i])).map (f ds[i]) := by simp [hp]
            rw [e1]
            exact ra6
    · have e : i = ds.length := by omega
      subst e
      rw [List.take_length] at ra
      exact .inl ⟨w1.stop H2 (g2.s.tr g2.sub), q D acc S2 H2 hDH (ga.tr g2) nD hD2 ra⟩
end
end PD

/-! Data: for loops; what is done with lists of one's own. -/
namespace PD
open PySem PySem.Spec PyProof.Rows L2
section
variable {K : PySem.W.Frag} {ρ : Rho} {te tb : TE} {ts : TS} {ds es : List DV} {d : DV} {E : Po}
theorem st_for {wi : TI} {g : TG} {is : List Nat} (hi : IvD K wi ρ ds) (I : Nat → Rho → Prop) (h0 : I 0 ρ)
    (hs : ∀ i d ρ', ds[i]? = some d → I i ρ' → ∃ ρ'', TgD K g is d ρ' ρ'' ∧ StD K ts ρ'' { nx := I (i + 1), ct := I (i + 1), bk := E.nx, rt := E.rt }) (hd : ∀ ρ', I ds.length ρ' → E.nx ρ') : StD K (tFor wi g ts) ρ E := fun S0 H0 B σ S H D g0 b n o =>
  hi H0 σ S H g0.sub n _ fun J S1 H1 g1 w1 => by
    refine ⟨fun i m σ2 H2 => m = ds.length - i ∧ i ≤ ds.length ∧ ∃ ρ' S2, I i ρ' ∧ Go S0 H0 S2 H2 ∧ Ex S1 S2 ∧ En K H0 S2 H2 σ2 ρ', ⟨_, rfl, Nat.zero_le _, ρ, S1, h0, g0.tr g1, Ex.rf _, n.go g1⟩, ?_⟩
    rintro i m σ2 H2 ⟨rfl, hile, ρ', S2, hI, g2, e2, n2⟩
    by_cases hlt : i < ds.length
    · have hdi : ds[i]? = some ds[i] := List.getElem?_eq_getElem hlt
      refine .inr ⟨w1.go i H2 (e2.tr g2.sub) hlt, fun σ' H' => ∃ ρ' S2, I (i + 1) ρ' ∧ Go S0 H0 S2 H' ∧ Ex S1 S2 ∧ En K H0 S2 H' σ' ρ', fun σ' H' ⟨ρ', S2, a, b, c, d⟩ => ⟨ds.length - (i + 1), by omega, rfl, hlt, ρ', S2, a, b, c, d⟩, fun x H' y => ?_⟩
      obtain ⟨S3, g3, rx⟩ := w1.yld i H2 x H' y _ hdi S2 e2 g2.sub
      obtain ⟨ρ'', tg, bd⟩ := hs i _ ρ' hdi hI
      refine tg H0 σ2 S3 H' x g3.sub (n2.go g3) rx _ fun σ3 n3 _ _ => ?_
      refine bd S0 H0 S1 σ3 S3 H' _ (g2.tr g3) (e2.tr g3.s) n3 ⟨fun ρ5 σ5 S5 H5 q g5 b5 n5 => ⟨ρ5, S5, q, g5, b5, n5⟩, fun d v S5 H5 q g5 r5 => o.rt d v S5 H5 q g5 r5, fun ρ5 σ5 S5 H5 q g5 b5 n5 => o.nx ρ5 σ5 S5 H5 q g5 ((b.tr g1.s).tr b5) n5, fun ρ5 σ5 S5 H5 q g5 b5 n5 => ⟨ρ5, S5, q, g5, b5, n5⟩⟩
    · have e : i = ds.length := by omega
      subst e
      exact .inl ⟨w1.stop H2 (e2.tr g2.sub), o.nx ρ' σ2 S2 H2 (hd ρ' hI) g2 ((b.tr g1.s).tr e2) n2⟩
/-- x = a new list, kept as one's own -/
theorem st_asgL {i : Nat} (h : EvL K te ρ ds) (q : E.nx (ρ.set i (.own ds))) : StD K (tAsg te (gName i)) ρ E := fun S0 H0 B σ S H D g b n o =>
  h H0 σ S H g.sub n _ fun p vs S1 H1 hp g1 n1 h1 r1 => o.nx _ _ S1 H1 q (g.tr g1) (b.tr g1.s) ((n.go g1).setOwn (g.h.free hp) n1 h1 r1 fun j hj es' hes z => by
    obtain ⟨p', vs', e1, _, _, h2, _⟩ := n.own hes
    rw [e1] at z
    cases z
    rw [hp] at h2
    cases h2)
/-- x.append(e) -/
theorem st_append {i : Nat} (hi : ρ[i]? = some (.own ds)) (h : EvD K te ρ d) (hl : ds.length < 100000) (q : E.nx (ρ.set i (.own (ds ++ [d])))) : StD K (tDrop (tBM K "list" rAppend (tVar i) (tCons te tNil))) ρ E := fun S0 H0 B σ S H D g b n o => by
  obtain ⟨p, vs, hp, h0, hs, hh, r⟩ := n.own hi
  refine ⟨.ref p, hp, .inl ⟨rfl, vs, .inl (.inl hh)⟩, h H0 σ S H g.sub n _ fun v S1 H1 g1 r1 => ⟨p, vs, v, rfl, rfl, g1.h _ _ hh, Nat.lt_of_lt_of_le (by rw [r.len]; exact hl) (by decide), ?_⟩⟩
  have nS : S1 p = none := g1.off hs hh
  exact o.nx _ _ S1 _ q ((g.tr g1).chg nS h0) (b.tr g1.s) ((n.go g1).chg hi hp nS ((r.up g1.s).snoc r1))
def rExtR : V → List V → Hp → VK → Prop := fun x vs H Q => ∃ l b xs zs, x = .ref l ∧ vs = [.ref b] ∧ H l = some (.lst xs) ∧ Rd H b (.lst zs) ∧ xs.length + zs.length ≤ sizeLine ∧ Q .non (upd H l (.lst (xs ++ zs)))
theorem mt_extR {X : Cx} : MtM X "list.extend" rExtR := by
  intro pins s σ H x vs v us Q I rx rv h
  obtain ⟨l, b, xs, zs, rfl, rfl, hH, hB, hz, q⟩ := h
  cases rx
  obtain ⟨u, rfl, ru⟩ := rv.one
  cases ru
  obtain ⟨z, its, n, r, hl, e⟩ := I.lstM hH
  obtain ⟨z2, its2, n2, r2, e2⟩ := hB.ok I.hok
  have hl2 := r2.length
  have hsz : its.toArray.size + its2.toArray.size ≤ sizeLine := by rw [List.size_toArray, List.size_toArray]; omega
  have hlong : ¬ (!its.toArray.isEmpty && Builtin.List.listTooLong (its.toArray.size + its2.toArray.size)) = true := by
    rw [notLongL hsz, Bool.and_false]
    exact Bool.false_ne_true
  refine call_meets F.slot_list_extend ⟨_, e, rfl⟩ F.entry_list_extend (F.args_list_extend_2 _ _)
    (AutoSeq1.list_extend_list_list_0 l its.toArray n b its2.toArray n2 hlong (by rw [List.size_toArray]; omega) (by omega)) ⟨e, e2, ?_⟩
  refine ⟨.non, _, I.lset (its' := its ++ its2) hH e (by simp) (r.append r2) ?_, rfl, q⟩
  rw [List.length_append]
  omega
/-- x.extend(e) -/
theorem st_extend {i : Nat} (hi : ρ[i]? = some (.own ds)) (h : EvD K te ρ (.lst es)) (hl : ds.length + es.length ≤ 100000) (q : E.nx (ρ.set i (.own (ds ++ es)))) : StD K (tDrop (tBM K "list" rExtR (tVar i) (tCons te tNil))) ρ E := fun S0 H0 B σ S H D g b n o => by
  obtain ⟨p, vs, hp, h0, hs, hh, r⟩ := n.own hi
  refine ⟨.ref p, hp, .inl ⟨rfl, vs, .inl (.inl hh)⟩, h H0 σ S H g.sub n _ fun v S1 H1 g1 r1 => ?_⟩
  cases r1 with
  | lst s1 a1 =>
    refine ⟨p, _, vs, _, rfl, rfl, g1.h _ _ hh, ex_rd g1.sub s1, by rw [r.len, a1.len]; exact sz5 hl, ?_⟩
    have nS : S1 p = none := g1.off hs hh
    exact o.nx _ _ S1 _ q ((g.tr g1).chg nS h0) (b.tr g1.s) ((n.go g1).chg hi hp nS ((r.up g1.s).append a1))
/-- x[i], x one's own list -/
theorem ev_ixOwn {i : Nat} {j : Int} (hi : ρ[i]? = some (.own ds)) (h : EvD K te ρ (.int j)) (ha : atI ds j = some d) : EvD K (tOp (rIxL K) (tVar i) te) ρ d := fun H0 σ S H e n Q q => by
  obtain ⟨p, vs, hp, h0, hs, hh, r⟩ := n.own hi
  refine ⟨.ref p, hp, h H0 σ S H e n _ fun v S1 H1 g1 r1 => ?_⟩
  cases r1
  obtain ⟨u, hu, ru⟩ := rpa_at (r.up g1.s) ha
  exact ⟨p, vs, j, u, rfl, rfl, .inl (.inl (g1.h _ _ hh)), hu, q u S1 H1 g1 ru⟩
theorem flat_up {S S' : Hp} {v : V} (h : d.flat = true) (r : Rp K S v d) : Rp K S' v d := by
  cases r <;> first | exact .non | exact .bl _ | exact .int _ | exact .str _ | cases h
/-- an expression that reads one's own list and gives a flat thing -/
theorem ev_tmp {i : Nat} (hi : ρ[i]? = some (.own ds)) (h : EvD K te (ρ.set i (.val (.lst ds))) d) (hf : d.flat = true) : EvD K te ρ d := fun H0 σ S H e n Q q => by
  obtain ⟨p, vs, hp, h0, hs, hh, r⟩ := n.own hi
  have e1 : Ex (upd S p (.lst vs)) H := fun a u z => by
    by_cases w : a = p
    · subst w
      rw [upd_same] at z
      rw [hh]
      exact z
    · rw [upd_ne w] at z
      exact e a u z
  have n1 : En K H0 (upd S p (.lst vs)) H σ (ρ.set i (.val (.lst ds))) := {
    len := by rw [List.length_set]; exact n.len
    at_ := fun j u e a b => by
      rcases set_get b with ⟨rfl, rfl⟩ | ⟨hj, b⟩
      · rw [hp] at a
        cases a
        exact ⟨.ref p, rfl, .lst (Or.inl upd_same) (r.up (Ex.new hs))⟩
      · have q := n.at_ j u e a b
        cases e with
        | un => trivial
        | val d =>
          obtain ⟨u', e1, r1⟩ := q
          exact ⟨u', e1, r1.up (Ex.new hs)⟩
        | own ds' =>
          obtain ⟨p', vs', e1, h0', h1, h2, r2⟩ := q
          subst e1
          have ne : p' ≠ p := fun z => n.sep i j p p' ds ds' hj hi b hp a z.symm
          exact ⟨p', vs', rfl, h0', by rw [upd_ne ne]; exact h1, h2, r2.up (Ex.new hs)⟩
    sep := fun j k x y ds' es' hjk a b c e => by
      rcases set_get a with ⟨_, z⟩ | ⟨hj, a⟩
      · cases z
      · rcases set_get b with ⟨_, z⟩ | ⟨hk, b⟩
        · cases z
        · exact n.sep j k x y ds' es' hjk a b c e }
  exact h H0 σ _ H e1 n1 Q fun v S1 H1 g1 r1 => q v S H1 (Go.side e g1.h) (flat_up hf r1)
theorem eb_tmp {i : Nat} {t : TT} {x : Bool} (hi : ρ[i]? = some (.own ds)) (h : EvB K t (ρ.set i (.val (.lst ds))) x) : EvB K t ρ x := fun H0 σ S H e n Q q => by
  have z := ev_tmp (te := fun σ H Q => t σ H fun c H1 => Q (.bl c) H1) (d := .bl x) hi (fun H0 σ S H e n Q q => h H0 σ S H e n _ fun S1 H1 g1 => q _ S1 H1 g1 (.bl _)) rfl H0 σ S H e n (fun v H1 => ∃ c, v = .bl c ∧ Q c H1) fun v S1 H1 g1 r1 => by
    cases r1
    exact ⟨x, rfl, q S1 H1 g1⟩
  have cv : ∀ {A B : Bool → Hp → Prop}, (∀ c H1, A c H1 → B c H1) → True := fun _ => trivial
  exact (by
    have e1 : (fun (c : Bool) (H1 : Hp) => ∃ c', V.bl c = V.bl c' ∧ Q c' H1) = Q := by
      funext c H1
      refine propext ⟨fun ⟨c', a, b⟩ => by cases a; exact b, fun b => ⟨c, rfl, b⟩⟩
    have z' : t σ H (fun c H1 => ∃ c', V.bl c = V.bl c' ∧ Q c' H1) := z
    rw [e1] at z'
    exact z')
end
section
variable {K : PySem.W.Frag} {ρ : Rho} {te : TE} {ds : List DV} {d : DV}
/-- only some slots are looked at -/
def only (is : List Nat) (ρ : Rho) : Rho := ρ.mapIdx fun i e => if i ∈ is then e.hid else .un
theorem En.only {H0 S H : Hp} {σ : L2.St} (is : List Nat) (n : En K H0 S H σ ρ) : En K H0 S H σ (PD.only is ρ) where
  len := by unfold PD.only; rw [List.length_mapIdx]; exact n.len
  at_ := fun i v u a b => by
    unfold PD.only at b
    rw [List.getElem?_mapIdx] at b
    cases q : ρ[i]? with
    | none => rw [q] at b; cases b
    | some w =>
      rw [q] at b
      have z := n.at_ i v w a q
      have e : (if i ∈ is then w.hid else EV.un) = u := Option.some.inj b
      subst e
      split
      · cases w with
        | un => trivial
        | val d => exact z
        | own _ => trivial
      · trivial
  sep := fun i j p q ds es hij a b c e => by
    unfold PD.only at a
    rw [List.getElem?_mapIdx] at a
    cases z : ρ[i]? with
    | none => rw [z] at a; cases a
    | some w =>
      rw [z] at a
      have e : (if i ∈ is then w.hid else EV.un) = .own ds := Option.some.inj a
      split at e
      · cases w <;> cases e
      · cases e
theorem el_only (is : List Nat) (h : EvL K te (only is ρ) ds) : EvL K te ρ ds := fun H0 σ S H e n Q q => h H0 σ S H e (n.only is) Q q
theorem ev_only (is : List Nat) (h : EvD K te (only is ρ) d) : EvD K te ρ d := fun H0 σ S H e n Q q => h H0 σ S H e (n.only is) Q q
theorem eb_only {t : TT} {x : Bool} (is : List Nat) (h : EvB K t (only is ρ) x) : EvB K t ρ x := fun H0 σ S H e n Q q => h H0 σ S H e (n.only is) Q q
end
end PD

/-! Data: the rules by syntax. A piece of syntax is read by whatever reading is right for it (U..). -/
namespace PD
open PySem PySem.Spec PyProof.Rows L2

/-- the program, the module's part of the heap -/
structure Gb where
  P : Program
  w : World
  K : PySem.W.Frag
  mg : Str → Option Value
  base : Heap
/-- where one stands: room, names by slot, scope -/
structure Lc where
  k : Nat
  N : List Str
  sc : Scope
  fn : Str → Bool
structure Of (g : Gb) (l : Lc) (X : Cx) : Prop where
  prog : X.prog = g.P
  w : X.w = g.w
  K : X.K = g.K
  mg : X.mg = g.mg
  base : X.base = g.base
  N : X.N = l.N
  sc : X.env.scope = l.sc
  fn : ∀ x, l.fn x = true → X.fn x = true
  calm : X.calm = true
  room : Room l.k X.A
  po : PassesOwn (model X.prog X.w) X.A X.env X.xe
theorem Of.vis {g : Gb} {l : Lc} {X : Cx} (o : Of g l X) {x : Str} (h : Vis l.sc x) : Vis X.env.scope x := by rw [o.sc]; exact h
abbrev GlN (l : Lc) (n : Str) : Prop := l.sc.names.lookup n = some .globalImplicit
theorem Of.gl {g : Gb} {l : Lc} {X : Cx} (o : Of g l X) {x : Str} (h : GlN l x) : Gl X x := by
  show X.env.scope.names.lookup x = _
  rw [o.sc]
  exact h
theorem Of.u64 {g : Gb} {l : Lc} {X : Cx} (o : Of g l X) : X.A.units + 64 < cLine := by
  have := o.room.un
  omega

section
variable (g : Gb) (l : Lc)
def UE (e : Expr) : TE := fun σ H Q => ∃ t, (∀ X, Of g l X → PE X e t) ∧ t σ H Q
def UT (e : Expr) : TT := fun σ H Q => ∃ t, (∀ X, Of g l X → PT X e t) ∧ t σ H Q
def UW (e : Expr) : TT := fun σ H Q => ∃ t, (∀ X, Of g l X → PW X e t) ∧ t σ H Q
def UA (es : List Expr) : TA := fun σ H Q => ∃ t, (∀ X, Of g l X → PA X es t) ∧ t σ H Q
def UP (e : Option Expr) : TO := fun σ H Q => ∃ t, (∀ X, Of g l X → PO X e t) ∧ t σ H Q
def US (st : Stmt) : TS := fun D σ H => ∃ t, (∀ X, Of g l X → PS X st t) ∧ t D σ H
def USs (st : List Stmt) : TS := fun D σ H => ∃ t, (∀ X, Of g l X → PSs X st t) ∧ t D σ H
def UI (tg iter : Expr) : TI := fun σ H R => ∃ t, (∀ X, Of g l X → PI X tg iter t) ∧ t σ H R
def UTs (ifs : List Expr) : TT := fun σ H Q => ∃ t, (∀ X, Of g l X → PTs X ifs t) ∧ t σ H Q
def DE (e : Expr) (ρ : Rho) (d : DV) : Prop := EvD g.K (UE g l e) ρ d
def DT (e : Expr) (ρ : Rho) (b : Bool) : Prop := EvB g.K (UT g l e) ρ b
def DW (e : Expr) (ρ : Rho) (b : Bool) : Prop := EvB g.K (UW g l e) ρ b
def DA (es : List Expr) (ρ : Rho) (ds : List DV) : Prop := EvA g.K (UA g l es) ρ ds
def DP (e : Option Expr) (ρ : Rho) (o : Option Int) : Prop := EvO g.K (UP g l e) ρ o
def DI (tg iter : Expr) (ρ : Rho) (ds : List DV) : Prop := IvD g.K (UI g l tg iter) ρ ds
def DL (e : Expr) (ρ : Rho) (ds : List DV) : Prop := EvL g.K (UE g l e) ρ ds
def DTs (es : List Expr) (ρ : Rho) (b : Bool) : Prop := EvB g.K (UTs g l es) ρ b
def DS (st : Stmt) (ρ : Rho) (E : Po) : Prop := StD g.K (US g l st) ρ E
def DSs (st : List Stmt) (ρ : Rho) (E : Po) : Prop := StD g.K (USs g l st) ρ E
end
section
variable {g : Gb} {l : Lc} {X : Cx}
theorem UE.pe (o : Of g l X) (e : Expr) : PE X e (UE g l e) := ⟨fun pins s σ H Q I ⟨t, h, q⟩ => (h X o).run pins s σ H Q I q⟩
theorem UT.pt (o : Of g l X) (e : Expr) : PT X e (UT g l e) := ⟨fun pins s σ H Q I ⟨t, h, q⟩ => (h X o).run pins s σ H Q I q⟩
theorem UW.pw (o : Of g l X) (e : Expr) : PW X e (UW g l e) := ⟨fun wh pins s σ H Q I ⟨t, h, q⟩ => (h X o).run wh pins s σ H Q I q⟩
theorem UA.pa (o : Of g l X) (es : List Expr) : PA X es (UA g l es) := ⟨fun pos pins s σ H Q I ⟨t, h, q⟩ => (h X o).run pos pins s σ H Q I q⟩
theorem UP.po (o : Of g l X) (e : Option Expr) : PO X e (UP g l e) := ⟨fun pins s σ H Q I ⟨t, h, q⟩ => (h X o).run pins s σ H Q I q⟩
theorem US.ps (o : Of g l X) (st : Stmt) : PS X st (US g l st) := ⟨fun pins s σ H D I ⟨t, h, q⟩ => (h X o).run pins s σ H D I q⟩
theorem USs.pss (o : Of g l X) (st : List Stmt) : PSs X st (USs g l st) := ⟨fun pins s σ H D I ⟨t, h, q⟩ => (h X o).run pins s σ H D I q⟩
theorem UI.pi (o : Of g l X) (tg iter : Expr) : PI X tg iter (UI g l tg iter) := ⟨fun pins s σ H R I ⟨t, h, q⟩ => (h X o).run pins s σ H R I q⟩
theorem UTs.pts (o : Of g l X) (ifs : List Expr) : PTs X ifs (UTs g l ifs) := ⟨fun pins s σ H Q I ⟨t, h, q⟩ => (h X o).run pins s σ H Q I q⟩
end
section
variable {g : Gb} {l : Lc} {ρ ρ' : Rho} {a b c e : Expr} {es rest : List Expr} {da db d : DV} {pos : Pos} {ds : List DV} {x y : Bool}
theorem DE.by (t : TE) (h : ∀ X, Of g l X → PE X e t) (v : EvD g.K t ρ d) : DE g l e ρ d := fun H0 σ S H ex n Q q => ⟨t, h, v H0 σ S H ex n Q q⟩
theorem DL.by (t : TE) (h : ∀ X, Of g l X → PE X e t) (v : EvL g.K t ρ ds) : DL g l e ρ ds := fun H0 σ S H ex n Q q => ⟨t, h, v H0 σ S H ex n Q q⟩
theorem DT.by (t : TT) (h : ∀ X, Of g l X → PT X e t) (v : EvB g.K t ρ x) : DT g l e ρ x := fun H0 σ S H ex n Q q => ⟨t, h, v H0 σ S H ex n Q q⟩
theorem DW.by (t : TT) (h : ∀ X, Of g l X → PW X e t) (v : EvB g.K t ρ x) : DW g l e ρ x := fun H0 σ S H ex n Q q => ⟨t, h, v H0 σ S H ex n Q q⟩
theorem DA.by (t : TA) (h : ∀ X, Of g l X → PA X es t) (v : EvA g.K t ρ ds) : DA g l es ρ ds := fun H0 σ S H ex n Q q => ⟨t, h, v H0 σ S H ex n Q q⟩
theorem DI.by {tg : Expr} (t : TI) (h : ∀ X, Of g l X → PI X tg e t) (v : IvD g.K t ρ ds) : DI g l tg e ρ ds := fun H0 σ S H ex n Q q => ⟨t, h, v H0 σ S H ex n Q q⟩
theorem DTs.by (t : TT) (h : ∀ X, Of g l X → PTs X es t) (v : EvB g.K t ρ x) : DTs g l es ρ x := fun H0 σ S H ex n Q q => ⟨t, h, v H0 σ S H ex n Q q⟩
theorem DS.by {st : Stmt} {E : Po} (t : TS) (h : ∀ X, Of g l X → PS X st t) (v : StD g.K t ρ E) : DS g l st ρ E := fun S0 H0 B σ S H D g0 b n o => ⟨t, h, v S0 H0 B σ S H D g0 b n o⟩
theorem DSs.by {st : List Stmt} {E : Po} (t : TS) (h : ∀ X, Of g l X → PSs X st t) (v : StD g.K t ρ E) : DSs g l st ρ E := fun S0 H0 B σ S H D g0 b n o => ⟨t, h, v S0 H0 B σ S H D g0 b n o⟩
theorem DE.is {d' : DV} (h : DE g l e ρ d) (q : d = d') : DE g l e ρ d' := by rw [← q]; exact h
theorem DT.is {x' : Bool} (h : DT g l e ρ x) (q : x = x') : DT g l e ρ x' := by rw [← q]; exact h
theorem DL.is {ds' : List DV} (h : DL g l e ρ ds) (q : ds = ds') : DL g l e ρ ds' := by rw [← q]; exact h
theorem DI.is {tg : Expr} {ds' : List DV} (h : DI g l tg e ρ ds) (q : ds = ds') : DI g l tg e ρ ds' := by rw [← q]; exact h
theorem DL.de (h : DL g l e ρ ds) : DE g l e ρ (.lst ds) := EvL.ev h

/-! names, constants -/
theorem de_v (i : Nat) {n : Str} (h : ρ[i]? = some (.val d) := by rfl) (hN : l.N[i]? = some n := by rfl) (hv : Vis l.sc n := by first | exact Or.inl rfl | exact Or.inr (Or.inl rfl) | exact Or.inr (Or.inr rfl))
    (hd : (n == ("__debug__" : Str)) = false := by decide) (hcd : (n == ("__classdict__" : Str)) = false := by decide) : DE g l (.Name n pos) ρ d :=
  DE.by (tVar i) (fun X o => pe_var (by rw [o.N]; exact hN) (o.vis hv) hd hcd) (ev_var h)
theorem de_int {i : Int} {j} : DE g l (.Constant (.int i) j pos) ρ (.int i) := DE.by _ (fun X o => pe_int) (ev_c fun S => .int i)
theorem de_bl {i : Bool} {j} : DE g l (.Constant (.bool i) j pos) ρ (.bl i) := DE.by _ (fun X o => pe_bl) (ev_c fun S => .bl i)
theorem de_non {j} : DE g l (.Constant .none j pos) ρ .non := DE.by _ (fun X o => pe_non) (ev_c fun S => .non)
theorem de_str {i : Str} {j} : DE g l (.Constant (.str i) j pos) ρ (.str i) := DE.by _ (fun X o => pe_str) (ev_c fun S => .str i)
/-- a constant of the module -/
theorem de_gl {n : Str} {v : V} {u : Value} (hm : g.mg n = some u) (r : RelV v u) (hr : ∀ S, Rp g.K S v d) (hg : GlN l n := by rfl) (hd : (n == ("__debug__" : Str)) = false := by decide) : DE g l (.Name n pos) ρ d :=
  DE.by _ (fun X o => pe_glob (o.gl hg) (by rw [o.mg]; exact hm) r hd) (ev_c hr)

/-! operators -/
theorem de_op {op : Operator} {r : R2} (ho : ∀ X, Of g l X → OpR X (binaryOp op) r) (ha : DE g l a ρ da) (hb : DE g l b ρ db) (hr : OpD g.K r da db d) : DE g l (.BinOp a op b pos) ρ d :=
  DE.by _ (fun X o => pe_op (ho X o) (UE.pe o a) (UE.pe o b)) (ev_op ha hb hr)
theorem de_add {i j : Int} (ha : DE g l a ρ (.int i)) (hb : DE g l b ρ (.int j)) : DE g l (.BinOp a .Add b pos) ρ (.int (i + j)) := de_op (fun X o => op_add) ha hb (od_I0 fun S => .int _)
theorem de_sub {i j : Int} (ha : DE g l a ρ (.int i)) (hb : DE g l b ρ (.int j)) : DE g l (.BinOp a .Sub b pos) ρ (.int (i - j)) := de_op (fun X o => op_sub) ha hb (od_I0 fun S => .int _)
theorem de_mul {i j : Int} (h : CMul i j) (ha : DE g l a ρ (.int i)) (hb : DE g l b ρ (.int j)) : DE g l (.BinOp a .Mult b pos) ρ (.int (i * j)) := de_op (fun X o => op_mul) ha hb (od_I h fun S => .int _)
theorem de_fdiv {i j : Int} (h : CDiv i j) (ha : DE g l a ρ (.int i)) (hb : DE g l b ρ (.int j)) : DE g l (.BinOp a .FloorDiv b pos) ρ (.int (i / j)) := de_op (fun X o => op_fdiv) ha hb (od_I h fun S => .int _)
theorem de_mod {i j : Int} (h : 0 < j) (ha : DE g l a ρ (.int i)) (hb : DE g l b ρ (.int j)) : DE g l (.BinOp a .Mod b pos) ρ (.int (i % j)) := de_op (fun X o => op_mod) ha hb (od_I h fun S => .int _)
theorem de_addS {i j : Str} (h : i.length + j.length ≤ 100000) (ha : DE g l a ρ (.str i)) (hb : DE g l b ρ (.str j)) : DE g l (.BinOp a .Add b pos) ρ (.str (i ++ j)) := de_op (fun X o => op_add_str) ha hb (od_addS h)
theorem de_catT {i j : List DV} (h : i.length + j.length ≤ 100000) (ha : DE g l a ρ (.tup i)) (hb : DE g l b ρ (.tup j)) : DE g l (.BinOp a .Add b pos) ρ (.tup (i ++ j)) := de_op (fun X o => by have := op_catA (X := X); rw [o.K] at this; exact this) ha hb (od_catT h)
theorem de_catL {i j : List DV} (h : i.length + j.length ≤ 100000) (ha : DE g l a ρ (.lst i)) (hb : DE g l b ρ (.lst j)) : DE g l (.BinOp a .Add b pos) ρ (.lst (i ++ j)) := de_op (fun X o => op_catR) ha hb (od_catL h)
theorem de_neg {i : Int} (ha : DE g l a ρ (.int i)) : DE g l (.UnaryOp .USub a pos) ρ (.int (-i)) :=
  DE.by _ (fun X o => pe_un un_neg (UE.pe o a)) (ev_un ha fun S H x e r Q q => by cases r; exact ⟨i, rfl, q _ S H (Go.rf e) (.int _)⟩)

/-! comparisons: as a value, as a test -/
theorem de_cmp {op : CmpOp} {r : R2} (ho : ∀ X, Of g l X → OpR X (compareOp op) r) (hr : OpD g.K r da db d) (ha : DE g l a ρ da) (hb : DE g l b ρ db) (hm : behindInMarks op b = false := by first | exact nomark _ | rfl) : DE g l (.Compare a [op] [b] pos) ρ d :=
  DE.by _ (fun X o => pe_cmpR (ho X o) (UE.pe o a) (UE.pe o b) hm) (ev_op ha hb hr)
theorem dt_cmp {op : CmpOp} {r : R2} (ho : ∀ X, Of g l X → OpR X (compareOp op) r) (hr : OpD g.K r da db (.bl x)) (ha : DE g l a ρ da) (hb : DE g l b ρ db) (hm : behindInMarks op b = false := by first | exact nomark _ | rfl) : DT g l (.Compare a [op] [b] pos) ρ x :=
  DT.by _ (fun X o => pt_cmpR (ho X o) (UE.pe o a) (UE.pe o b) hm) (eb_test (ev_op ha hb hr))
theorem ev_chain {K : PySem.W.Frag} {r r' : R2} {ta tb tc : TE} {d1 d2 d3 : DV} {x y : Bool} (h1 : EvD K ta ρ d1) (h2 : EvD K tb ρ d2) (hr : OpD K r d1 d2 (.bl x)) (h3 : x = true → EvD K tc ρ d3) (hr' : x = true → OpD K r' d2 d3 (.bl y)) : EvD K (tChain r r' ta tb tc) ρ (.bl (x && y)) := fun H0 σ S H e n Q q =>
  h1 H0 σ S H e n _ fun v1 S1 H1 g1 r1 => h2 H0 σ S1 H1 g1.sub (n.go g1) _ fun v2 S2 H2 g2 r2 => hr S2 H2 _ _ g2.sub (r1.up g2.s) r2 _ fun v3 S3 H3 g3 r3 => by
    cases r3
    refine ⟨x, rfl, ?_⟩
    cases x with
    | true =>
      rw [if_pos rfl]
      exact h3 rfl H0 σ S3 H3 g3.sub (((n.go g1).go g2).go g3) _ fun v4 S4 H4 g4 r4 => hr' rfl S4 H4 _ _ g4.sub ((r2.up g3.s).up g4.s) r4 Q fun v5 S5 H5 g5 r5 => q v5 S5 H5 ((((g1.tr g2).tr g3).tr g4).tr g5) r5
    | false =>
      rw [if_neg (by decide)]
      exact q _ S3 H3 ((g1.tr g2).tr g3) (.bl _)
theorem de_chain {op op' : CmpOp} {r r' : R2} {dc : DV} (ho : ∀ X, Of g l X → OpR X (compareOp op) r) (ho' : ∀ X, Of g l X → OpR X (compareOp op') r') (hr : OpD g.K r da db (.bl x)) (hr' : x = true → OpD g.K r' db dc (.bl y)) (ha : DE g l a ρ da) (hb : DE g l b ρ db) (hc : x = true → DE g l c ρ dc)
    (hm : lastMarks [op, op'] [b, c] = false := by with_unfolding_all rfl) : DE g l (.Compare a [op, op'] [b, c] pos) ρ (.bl (x && y)) :=
  DE.by _ (fun X o => pe_chain (ho X o) (ho' X o) (UE.pe o a) (UE.pe o b) (UE.pe o c) hm) (ev_chain ha hb hr hc hr')
theorem dt_chain {op op' : CmpOp} {r r' : R2} {dc : DV} (ho : ∀ X, Of g l X → OpR X (compareOp op) r) (ho' : ∀ X, Of g l X → OpR X (compareOp op') r') (hr : OpD g.K r da db (.bl x)) (hr' : x = true → OpD g.K r' db dc (.bl y)) (ha : DE g l a ρ da) (hb : DE g l b ρ db) (hc : x = true → DE g l c ρ dc)
    (hm : lastMarks [op, op'] [b, c] = false := by with_unfolding_all rfl) : DT g l (.Compare a [op, op'] [b, c] pos) ρ (x && y) :=
  DT.by _ (fun X o => pt_chain (ho X o) (ho' X o) (UE.pe o a) (UE.pe o b) (UE.pe o c) hm) (eb_test (ev_chain ha hb hr hc hr'))

/-! truth -/
theorem de_one {op} (h : DE g l a ρ d) : DE g l (.BoolOp op [a] pos) ρ d := DE.by _ (fun X o => pe_one (UE.pe o a)) h
theorem de_and (h1 : DE g l a ρ (.bl x)) (h2 : x = true → DE g l (.BoolOp .And (b :: rest) pos) ρ (.bl y)) : DE g l (.BoolOp .And (a :: b :: rest) pos) ρ (.bl (x && y)) := DE.by _ (fun X o => pe_and (UE.pe o a) (UE.pe o _)) (ev_and h1 h2)
theorem de_or (h1 : DE g l a ρ (.bl x)) (h2 : x = false → DE g l (.BoolOp .Or (b :: rest) pos) ρ (.bl y)) : DE g l (.BoolOp .Or (a :: b :: rest) pos) ρ (.bl (x || y)) := DE.by _ (fun X o => pe_or (UE.pe o a) (UE.pe o _)) (ev_or h1 h2)
theorem de_not (h : DE g l a ρ (.bl x)) : DE g l (.UnaryOp .Not a pos) ρ (.bl (!x)) := DE.by _ (fun X o => pe_not (UE.pe o a)) (ev_not h)
theorem de_if (h : DT g l c ρ x) (h1 : x = true → DE g l a ρ d) (h2 : x = false → DE g l b ρ d) : DE g l (.IfExp c a b pos) ρ d := DE.by _ (fun X o => pe_ifExp (UT.pt o c) (UE.pe o a) (UE.pe o b)) (ev_if h h1 h2)
theorem dt_e (h : DE g l e ρ (.bl x)) (he : ∀ env whole, isTrue e env whole = (do let v ← whole; standAt e.pos; holding [v] (truthy v)) := by intro _ _; rfl) : DT g l e ρ x := DT.by _ (fun X o => pt_val (UE.pe o e) (he _)) (eb_val h)
theorem dt_not (h : DT g l a ρ x) : DT g l (.UnaryOp .Not a pos) ρ (!x) := DT.by _ (fun X o => pt_not (UT.pt o a)) (eb_not h)
theorem dt_w (h : DW g l e ρ x) : DT g l e ρ x := DT.by _ (fun X o => (UW.pw o e).pt) h
theorem dw_and1 (h : DT g l a ρ x) : DW g l (.BoolOp .And [a] pos) ρ x := DW.by _ (fun X o => pw_and1 (UT.pt o a)) h
theorem dw_or1 (h : DT g l a ρ x) : DW g l (.BoolOp .Or [a] pos) ρ x := DW.by _ (fun X o => pw_or1 (UT.pt o a)) h
theorem dw_and (h1 : DT g l a ρ x) (h2 : x = true → DW g l (.BoolOp .And (b :: rest) pos) ρ y) : DW g l (.BoolOp .And (a :: b :: rest) pos) ρ (x && y) := DW.by _ (fun X o => pw_and (UT.pt o a) (UW.pw o _)) (eb_and h1 h2)
theorem dw_or (h1 : DT g l a ρ x) (h2 : x = false → DW g l (.BoolOp .Or (b :: rest) pos) ρ y) : DW g l (.BoolOp .Or (a :: b :: rest) pos) ρ (x || y) := DW.by _ (fun X o => pw_or (UT.pt o a) (UW.pw o _)) (eb_or h1 h2)

/-! displays, subscripts, arguments -/
theorem da_nil : DA g l [] ρ [] := DA.by _ (fun X o => pa_nil) ea_nil
theorem da_cons (h : DE g l e ρ d) (hr : DA g l es ρ ds) (hs : ∀ env, starEach (e :: es) env = (false, eval e env) :: starEach es env := by intro _; rfl) : DA g l (e :: es) ρ (d :: ds) :=
  DA.by _ (fun X o => pa_cons (UE.pe o e) (UA.pa o es) (hs _)) (ea_cons h hr)
theorem de_tup {x1} (h : DA g l es ρ ds) (hl : ds.length ≤ 100000 := by (first | decide | (simp; done) | omega)) : DE g l (.Tuple es x1 pos) ρ (.tup ds) := DE.by _ (fun X o => pe_tup (UA.pa o es)) (ev_tup h hl)
theorem dl_lst (h : DA g l es ρ ds) (hl : ds.length ≤ 100000 := by (first | decide | (simp; done) | omega)) : DL g l (.List es pos) ρ ds := DL.by _ (fun X o => pe_lst (UA.pa o es)) (el_lst h hl)
theorem de_ixT {xs : List DV} {i : Int} (h : atI xs i = some d) (ha : DE g l a ρ (.tup xs)) (hb : DE g l b ρ (.int i)) (hs : PlainIx b := by exact fun _ _ => rfl) : DE g l (.Subscript a b pos) ρ d :=
  DE.by _ (fun X o => pe_ix (by have := ix_tup (X := X); rw [o.K] at this; exact this) (UE.pe o a) (UE.pe o b) hs) (ev_op ha hb (od_ixT h))
theorem de_ixL {xs : List DV} {i : Int} (h : atI xs i = some d) (ha : DE g l a ρ (.lst xs)) (hb : DE g l b ρ (.int i)) (hs : PlainIx b := by exact fun _ _ => rfl) : DE g l (.Subscript a b pos) ρ d :=
  DE.by _ (fun X o => pe_ix (by have := ix_list (X := X); rw [o.K] at this; exact this) (UE.pe o a) (UE.pe o b) hs) (ev_op ha hb (od_ixL h))
theorem de_ixF {xs : List DV} {i : Int} (h : atI xs i = some d) (ha : DE g l a ρ (.frz xs)) (hb : DE g l b ρ (.int i)) (hs : PlainIx b := by exact fun _ _ => rfl) : DE g l (.Subscript a b pos) ρ d :=
  DE.by _ (fun X o => pe_ix (by have := ix_list (X := X); rw [o.K] at this; exact this) (UE.pe o a) (UE.pe o b) hs) (ev_op ha hb (od_ixF h))
theorem de_ixS {z : Str} {i : Int} {c : Nat} (hz : z.length ≤ 100000) (h : atI z.cps.toList i = some c) (ha : DE g l a ρ (.str z)) (hb : DE g l b ρ (.int i)) (hs : PlainIx b := by exact fun _ _ => rfl) : DE g l (.Subscript a b pos) ρ (.str ⟨#[c]⟩) :=
  DE.by _ (fun X o => pe_ix ix_str (UE.pe o a) (UE.pe o b) hs) (ev_op ha hb (od_ixS hz h))
theorem de_ixOwn (i : Nat) {n : Str} {p2 : Pos} {j : Int} (hi : ρ[i]? = some (.own ds)) (h : atI ds j = some d) (hb : DE g l b ρ (.int j)) (hN : l.N[i]? = some n := by rfl) (hv : Vis l.sc n := by first | exact Or.inl rfl | exact Or.inr (Or.inl rfl) | exact Or.inr (Or.inr rfl))
    (hd : (n == ("__debug__" : Str)) = false := by decide) (hcd : (n == ("__classdict__" : Str)) = false := by decide) (hs : PlainIx b := by exact fun _ _ => rfl) : DE g l (.Subscript (.Name n p2) b pos) ρ d :=
  DE.by _ (fun X o => pe_ix (by have := ix_list (X := X); rw [o.K] at this; exact this) (pe_var (i := i) (by rw [o.N]; exact hN) (o.vis hv) hd hcd) (UE.pe o b) hs) (ev_ixOwn hi hb h)
theorem dp_none : DP g l none ρ none := fun H0 σ S H ex n Q q => ⟨tNoPart, fun X o => po_none, eo_none H0 σ S H ex n Q q⟩
theorem dp_some {i : Int} (h : DE g l e ρ (.int i)) : DP g l (some e) ρ (some i) := fun H0 σ S H ex n Q q => ⟨_, fun X o => po_some (UE.pe o e), eo_some h H0 σ S H ex n Q q⟩
theorem de_slT {xs : List DV} {lo hi : Option Expr} {i j : Option Int} {p2 : Pos} (ha : DE g l e ρ (.tup xs)) (h1 : DP g l lo ρ i) (h2 : DP g l hi ρ j) : DE g l (.Subscript e (.Slice lo hi none p2) pos) ρ (.tup (cutG xs i j)) :=
  DE.by _ (fun X o => pe_slice (by have := sl_tupA (X := X); rw [o.K] at this; exact this) (UE.pe o e) (UP.po o lo) (UP.po o hi)) (ev_sl ha h1 h2 sd_tup)
theorem de_slL {xs : List DV} {lo hi : Option Expr} {i j : Option Int} {p2 : Pos} (ha : DE g l e ρ (.lst xs)) (h1 : DP g l lo ρ i) (h2 : DP g l hi ρ j) : DE g l (.Subscript e (.Slice lo hi none p2) pos) ρ (.lst (cutG xs i j)) :=
  DE.by _ (fun X o => pe_slice (by have := sl_list (X := X); rw [o.K] at this; exact this) (UE.pe o e) (UP.po o lo) (UP.po o hi)) (ev_sl ha h1 h2 sd_lst)
theorem de_slF {xs : List DV} {lo hi : Option Expr} {i j : Option Int} {p2 : Pos} (ha : DE g l e ρ (.frz xs)) (h1 : DP g l lo ρ i) (h2 : DP g l hi ρ j) : DE g l (.Subscript e (.Slice lo hi none p2) pos) ρ (.lst (cutG xs i j)) :=
  DE.by _ (fun X o => pe_slice (by have := sl_list (X := X); rw [o.K] at this; exact this) (UE.pe o e) (UP.po o lo) (UP.po o hi)) (ev_sl ha h1 h2 sd_frz)
theorem de_slS {z : Str} {lo hi : Option Expr} {i j : Option Int} {p2 : Pos} (hz : z.length ≤ 100000) (ha : DE g l e ρ (.str z)) (h1 : DP g l lo ρ i) (h2 : DP g l hi ρ j) : DE g l (.Subscript e (.Slice lo hi none p2) pos) ρ (.str (cutS z i j)) :=
  DE.by _ (fun X o => pe_slice sl_str (UE.pe o e) (UP.po o lo) (UP.po o hi)) (ev_sl ha h1 h2 (sd_str hz))

/-! calls -/
/-- a def of the module that is known: at level k it does R -/
structure Fn (g : Gb) (k : Nat) (n : Str) (R : List DV → DV → Prop) : Prop where
  ex : ∃ f fd ps, FnOk g.P g.w g.K g.mg g.base CX0 k f fd ps (spR g.K R) ∧ g.mg n = some (.ref f) ∧ PySem.W.keepIn g.K (.ref f) = true ∧ Binds g.K fd ps []
theorem de_call {k : Nat} {n : Str} {p : Pos} {R : List DV → DV → Prop} (F : Fn g k n R) (ha : DA g l (e :: es) ρ ds) (hR : R ds d) (hk : k ≤ l.k := by decide) (hg : GlN l n := by rfl) (hdb : (n == ("__debug__" : Str)) = false := by decide)
    (he : ∀ env, starEach (e :: es) env = (false, eval e env) :: starEach es env := by intro _; rfl) (hpl : ∀ env, (backTo pos (starEach es env)).any (·.1) = false := by intro _; rfl) : DE g l (.Call (.Name n p) (e :: es) [] pos) ρ d := by
  obtain ⟨f, fd, ps, ok, hm, hkp, hb⟩ := F.ex
  refine DE.by (tCall (spR g.K R) [] E0 (UA g l (e :: es))) (fun X o => ?_) (ev_call ha hR)
  exact pe_call (CX := CX0) (k := k) (f := f) (fd := fd) (ps := ps) (ds := []) (by rw [o.prog, o.w, o.K, o.mg, o.base]; exact ok) (o.room.mono hk) (o.gl hg) (by rw [o.mg]; exact hm) (by rw [o.K]; exact hkp) (by rw [o.K]; exact hb) .nil pass0 (UA.pa o _) hdb (he _) (hpl _)
theorem de_cb {n : Str} {id : String} {p : Pos} {r : List V → Hp → VK → Prop} (hc : ∀ X, Of g l X → CallR X (.builtin id) r) (hm : g.mg n = none) (hv : bootBuiltins n = some (.builtin id)) (hr : CaD g.K r ds d) (ha : DA g l (e :: es) ρ ds)
    (hg : GlN l n := by rfl) (hn : n ≠ "__name__" := by decide) (hdb : (n == ("__debug__" : Str)) = false := by decide)
    (he : ∀ env, starEach (e :: es) env = (false, eval e env) :: starEach es env := by intro _; rfl) (hpl : ∀ env, (backTo pos (starEach es env)).any (·.1) = false := by intro _; rfl) : DE g l (.Call (.Name n p) (e :: es) [] pos) ρ d :=
  DE.by _ (fun X o => pe_callB (hc X o) (o.gl hg) (by rw [o.mg]; exact hm) hv (UA.pa o _) hn hdb (he _) (hpl _)) (ev_cb ha hr)
theorem de_ct {n : Str} {T : String} {p : Pos} {r : List V → Hp → VK → Prop} (hc : ∀ X, Of g l X → CallR X (.type T) r) (hm : g.mg n = none) (hv : bootBuiltins n = some (.type T)) (hr : CaD g.K r ds d) (ha : DA g l (e :: es) ρ ds)
    (hg : GlN l n := by rfl) (hn : n ≠ "__name__" := by decide) (hdb : (n == ("__debug__" : Str)) = false := by decide)
    (he : ∀ env, starEach (e :: es) env = (false, eval e env) :: starEach es env := by intro _; rfl) (hpl : ∀ env, (backTo pos (starEach es env)).any (·.1) = false := by intro _; rfl) : DE g l (.Call (.Name n p) (e :: es) [] pos) ρ d :=
  DE.by _ (fun X o => pe_callTy (hc X o) (o.gl hg) (by rw [o.mg]; exact hm) hv (UA.pa o _) hn hdb (he _) (hpl _)) (ev_cb ha hr)
theorem de_len {p : Pos} (hm : g.mg "len" = none) (hi : da.items = some ds) (h : DE g l e ρ da) (hg : GlN l "len" := by rfl) (hs : ∀ env, starEach [e] env = [(false, eval e env)] := by intro _; rfl) : DE g l (.Call (.Name "len" p) [e] [] pos) ρ (.int ds.length) :=
  de_cb (r := rLenX g.K) (fun X o => by have := call_len_seq (X := X); rw [o.K] at this; exact this) hm boot_len (cd_len hi) (da_cons h da_nil (by intro env; rw [hs env]; rfl)) hg (by decide) (by decide) (by intro env; rw [hs env]; rfl) (by intro env; rfl)
theorem de_lenS {p : Pos} {z : Str} (hm : g.mg "len" = none) (hz : z.length ≤ 100000) (h : DE g l e ρ (.str z)) (hg : GlN l "len" := by rfl) (hs : ∀ env, starEach [e] env = [(false, eval e env)] := by intro _; rfl) : DE g l (.Call (.Name "len" p) [e] [] pos) ρ (.int z.length) :=
  de_cb (r := rLenT) (fun X o => call_len_str) hm boot_len (cd_lenS hz) (da_cons h da_nil (by intro env; rw [hs env]; rfl)) hg (by decide) (by decide) (by intro env; rw [hs env]; rfl) (by intro env; rfl)
theorem de_all {p : Pos} {bs : List Bool} (hm : g.mg "all" = none) (h : DE g l e ρ (.lst (bs.map DV.bl))) (hg : GlN l "all" := by rfl) (hs : ∀ env, starEach [e] env = [(false, eval e env)] := by intro _; rfl) : DE g l (.Call (.Name "all" p) [e] [] pos) ρ (.bl (bs.all id)) :=
  de_cb (fun X o => by have := cr_all (X := X) o.calm; rw [o.K] at this; exact this) hm (by decide +kernel) cd_all (da_cons h da_nil (by intro env; rw [hs env]; rfl)) hg (by decide) (by decide) (by intro env; rw [hs env]; rfl) (by intro env; rfl)
theorem de_any {p : Pos} {bs : List Bool} (hm : g.mg "any" = none) (h : DE g l e ρ (.lst (bs.map DV.bl))) (hg : GlN l "any" := by rfl) (hs : ∀ env, starEach [e] env = [(false, eval e env)] := by intro _; rfl) : DE g l (.Call (.Name "any" p) [e] [] pos) ρ (.bl (bs.any id)) :=
  de_cb (fun X o => by have := cr_any (X := X) o.calm; rw [o.K] at this; exact this) hm (by decide +kernel) cd_any (da_cons h da_nil (by intro env; rw [hs env]; rfl)) hg (by decide) (by decide) (by intro env; rw [hs env]; rfl) (by intro env; rfl)
theorem de_sum {p : Pos} {ns : List Int} (hm : g.mg "sum" = none) (h : DE g l e ρ (.lst (ns.map DV.int))) (hg : GlN l "sum" := by rfl) (hs : ∀ env, starEach [e] env = [(false, eval e env)] := by intro _; rfl) : DE g l (.Call (.Name "sum" p) [e] [] pos) ρ (.int ns.sum) :=
  de_cb (fun X o => by have := cr_sum (X := X) o.calm; rw [o.K] at this; exact this) hm (by decide +kernel) cd_sum (da_cons h da_nil (by intro env; rw [hs env]; rfl)) hg (by decide) (by decide) (by intro env; rw [hs env]; rfl) (by intro env; rfl)
theorem de_listOf {p : Pos} (hm : g.mg "list" = none) (hi : da.items = some ds) (h : DE g l e ρ da) (hg : GlN l "list" := by rfl) (hs : ∀ env, starEach [e] env = [(false, eval e env)] := by intro _; rfl) : DE g l (.Call (.Name "list" p) [e] [] pos) ρ (.lst ds) :=
  de_ct (r := rListX g.K) (fun X o => by have := call_list_of (X := X); rw [o.K] at this; exact this) hm (by decide +kernel) (cd_list hi) (da_cons h da_nil (by intro env; rw [hs env]; rfl)) hg (by decide) (by decide) (by intro env; rw [hs env]; rfl) (by intro env; rfl)
theorem de_tupleOf {p : Pos} (hm : g.mg "tuple" = none) (hi : da.items = some ds) (h : DE g l e ρ da) (hg : GlN l "tuple" := by rfl) (hs : ∀ env, starEach [e] env = [(false, eval e env)] := by intro _; rfl) : DE g l (.Call (.Name "tuple" p) [e] [] pos) ρ (.tup ds) :=
  de_ct (r := rTupX g.K) (fun X o => by have := call_tuple_of (X := X); rw [o.K] at this; exact this) hm (by decide +kernel) (cd_tuple hi) (da_cons h da_nil (by intro env; rw [hs env]; rfl)) hg (by decide) (by decide) (by intro env; rw [hs env]; rfl) (by intro env; rfl)
theorem de_intOf {p : Pos} {i : Int} (hm : g.mg "int" = none) (h : DE g l e ρ (.int i)) (hg : GlN l "int" := by rfl) (hs : ∀ env, starEach [e] env = [(false, eval e env)] := by intro _; rfl) : DE g l (.Call (.Name "int" p) [e] [] pos) ρ (.int i) :=
  de_ct (r := rInt1) (fun X o => call_int1) hm (by decide +kernel) cd_int (da_cons h da_nil (by intro env; rw [hs env]; rfl)) hg (by decide) (by decide) (by intro env; rw [hs env]; rfl) (by intro env; rfl)
/-- isinstance(x, T), T a built-in type -/
theorem de_isi {p p2 : Pos} {n : Str} {T t : String} (hm : g.mg "isinstance" = none) (hmT : g.mg n = none) (hv : bootBuiltins n = some (.type T)) (hk : da.kind = some t) (hb : kitB t T = some x) (h : DE g l e ρ da) (hg : GlN l "isinstance" := by rfl) (hgT : GlN l n := by rfl)
    (hn : n ≠ "__name__" := by decide) (hdb : (n == ("__debug__" : Str)) = false := by decide)
    (hs : ∀ env, starEach (e :: [.Name n p2]) env = (false, eval e env) :: starEach [.Name n p2] env := by intro _; rfl) : DE g l (.Call (.Name "isinstance" p) (e :: [.Name n p2]) [] pos) ρ (.bl x) :=
  DE.by (tIsi g.K (UE g l e) T) (fun X o => by
    have := call_isi (X := X)
    rw [o.K] at this
    exact pe_callB this (o.gl hg) (by rw [o.mg]; exact hm) (by decide +kernel) (pa_cons (UE.pe o e) (pa_cons (pe_bltn (v := .ty T) (o.gl hgT) (by rw [o.mg]; exact hmT) hv rfl hn hdb) pa_nil) (hs _)) (by decide) (by decide) (hs _) (by rfl)) (ev_isi h hk hb)

/-! what is walked -/
theorem di_l {tg : Expr} (h : DE g l e ρ (.lst ds)) : DI g l tg e ρ ds := DI.by (iList g.K (UE g l e)) (fun X o => by have := pi_list (tg := tg) (UE.pe o e); rw [o.K] at this; exact this) (iv_list h)
theorem di_t {tg : Expr} (h : DE g l e ρ (.tup ds)) : DI g l tg e ρ ds := DI.by (iTup g.K (UE g l e)) (fun X o => by have := pi_tup (tg := tg) (UE.pe o e); rw [o.K] at this; exact this) (iv_tup h)
theorem di_s {tg : Expr} {z : Str} (h : DE g l e ρ (.str z)) : DI g l tg e ρ (signD z) := DI.by (iStr (UE g l e)) (fun X o => pi_str (UE.pe o e)) (iv_str h)
theorem di_r {tg : Expr} {n : Nat} {p : Pos} (hm : g.mg "range" = none) (hn : n ≤ 100000) (h : DE g l e ρ (.int n)) (hg : GlN l "range" := by rfl) (hs : ∀ env, starEach [e] env = [(false, eval e env)] := by intro _; rfl) : DI g l tg (.Call (.Name "range" p) [e] [] pos) ρ (rangeD 0 n) :=
  DI.by _ (fun X o => pi_range1 (o.gl hg) (by rw [o.mg]; exact hm) (pa_cons (UE.pe o e) pa_nil (by rw [hs]; rfl)) (hs _)) (iv_range h hn)
theorem di_enumL {elts : List Expr} {kk : Nat} {tpos p : Pos} (hm : g.mg "enumerate" = none) (h : DE g l e ρ (.lst ds)) (hg : GlN l "enumerate" := by rfl) (hs : ∀ env, starEach [e] env = [(false, eval e env)] := by intro _; rfl) : DI g l (.Tuple elts kk tpos) (.Call (.Name "enumerate" p) [e] [] pos) ρ (enumD ds) :=
  DI.by (iEnum g.K (tCons (UE g l e) tNil)) (fun X o => by have := pi_enum (X := X) (elts := elts) (kk := kk) (tpos := tpos) (p := p) (pos := pos) (o.gl hg) (by rw [o.mg]; exact hm) (pa_cons (UE.pe o e) pa_nil (by rw [hs]; rfl)) (hs _); rw [o.K] at this; exact this) (iv_enum h)

/-! targets: read in every context -/
structure DG (g : Gb) (l : Lc) (tg : Expr) (is : List Nat) (d : DV) (ρ ρ' : Rho) : Prop where
  ex : ∃ t, (∀ X, Of g l X → PG X tg t) ∧ TgD g.K t is d ρ ρ'
def UG (g : Gb) (l : Lc) (tg : Expr) : TG := fun v σ H Q => ∃ t, (∀ X, Of g l X → PG X tg t) ∧ t v σ H Q
theorem UG.pg {X : Cx} (o : Of g l X) (tg : Expr) : PG X tg (UG g l tg) := ⟨fun pins s σ H v u Q I r ⟨t, h, q⟩ => (h X o).run pins s σ H v u Q I r q⟩
theorem DG.tg {tg : Expr} {is : List Nat} (h : DG g l tg is d ρ ρ') : TgD g.K (UG g l tg) is d ρ ρ' := fun H0 σ S H v e n r Q q => by
  obtain ⟨t, ht, hv⟩ := h.ex
  exact ⟨t, ht, hv H0 σ S H v e n r Q q⟩
theorem dg_n (i : Nat) {n : Str} (nd : l.N.Nodup) (hN : l.N[i]? = some n := by rfl) (hx : Loc l.sc n := by first | exact Or.inl rfl | exact Or.inr rfl) (hf : l.fn n = true ∨ l.sc.names.lookup n = some .local := by first | exact .inl rfl | exact .inr rfl) : DG g l (.Name n pos) [i] d ρ (ρ.set i (.val d)) :=
  ⟨gName i, fun X o => pg_name (by rw [o.N]; exact nd) (by rw [o.N]; exact hN) (by rw [o.sc]; exact hx) (by rcases hf with h | h; exact .inl (o.fn _ h); exact .inr (by rw [o.sc]; exact h)), tg_name⟩
structure DGs (g : Gb) (l : Lc) (tg : List Expr) (is : List Nat) (d : List DV) (ρ ρ' : Rho) : Prop where
  ex : ∃ t, (∀ X, Of g l X → PGs X tg t) ∧ TgsD g.K t is d ρ ρ'
theorem dgs_nil : DGs g l [] [] [] ρ ρ := ⟨_, fun X o => pgs_nil, tgs_nil⟩
theorem dgs_cons {is js : List Nat} {ρ'' : Rho} (h : DG g l e is d ρ ρ') (hs : DGs g l es js ds ρ' ρ'') (hst : ∀ env, (assignEach (e :: es) env).map (·.2) = assign e env :: (assignEach es env).map (·.2) := by intro _; rfl) : DGs g l (e :: es) (is ++ js) (d :: ds) ρ ρ'' := by
  obtain ⟨t, ht, hv⟩ := h.ex
  obtain ⟨u, hu, hw⟩ := hs.ex
  exact ⟨_, fun X o => pgs_cons (ht X o) (hu X o) (hst _), tgs_cons hv hw⟩
theorem dg_tup {is : List Nat} {k n : Nat} (h : DGs g l es is ds ρ ρ') (hl : ds.length = n := by rfl) (hn : ∀ env, (assignEach es env).length = n := by intro _; rfl) (hst : ∀ env, (assignEach es env).findIdx? (·.1) = none := by intro _; rfl) : DG g l (.Tuple es k pos) is (.tup ds) ρ ρ' := by
  obtain ⟨t, ht, hv⟩ := h.ex
  exact ⟨gTup g.K n t, fun X o => by have := pg_tup (pos := pos) (k := k) o.calm (ht X o) (hn _) (hst _); rw [o.K] at this; exact this, tg_tup hv hl⟩
end
end PD

/-! Data: comprehensions, statements, defs. -/
namespace PD
open PySem PySem.Spec PyProof.Rows L2

/-! ### comprehensions -/
def relS (scope sc : Scope) : Scope := { scope with names := scope.names.map fun (n, k) => if (k == .free && sc.kind == .function && sc.names.lookup n == some .cell) then (n, .cell) else (n, k) }
def inn (l : Lc) (scope : Scope) : Lc := ⟨l.k, l.N, relS scope l.sc, fun x => scope.names.lookup x == some .cell⟩
theorem Of.blk {g : Gb} {l : Lc} {X : Cx} (o : Of g l X) (scope : Scope) (s : Shared) (H : Hp) (C : Addr) (cl : List (Str × Addr)) (fp : List Addr) : Of g (inn l scope) (X.blk s H scope (compEnvC scope cl C X.env) fp) where
  prog := o.prog
  w := o.w
  K := o.K
  mg := o.mg
  base := o.base
  N := o.N
  sc := by
    show relabel scope X.env = relS scope l.sc
    rw [← o.sc]
    rfl
  fn := fun _ h => h
  calm := o.calm
  room := o.room
  po := PassesOwn.never
section
variable {g : Gb} {l : Lc} {ρ ρ' : Rho} {a b c e elt tg iter tg1 iter1 : Expr} {es rest ifs ifs1 : List Expr} {da db d : DV} {pos : Pos} {ds : List DV} {x y : Bool} {scope : Scope} {own : List (Str × Nat)}
/-- a comprehension's reading, one clause -/
def rL (g : Gb) (l : Lc) (elt tg iter : Expr) (ifs : List Expr) (scope : Scope) (own : List (Str × Nat)) : TE := tLc (UI g l tg iter) (UG g (inn l scope) tg) (UTs g (inn l scope) ifs) (UE g (inn l scope) elt) (own.map (·.2))
theorem rL.pe {X : Cx} (o : Of g l X) (nd : l.N.Nodup) (ok : blkC l.N l.sc scope own = true) (hs : ∀ env x, foldedSetIterable iter env x = pure x) : PE X (.ListComp elt [⟨tg, iter, ifs, 0⟩] scope pos) (rL g l elt tg iter ifs scope own) :=
  pe_lc (own := own) o.calm (by rw [o.N]; exact nd) (UI.pi o tg iter) (blkOk_by (by rw [o.N, o.sc]; exact ok)) (fun s H C cl fp => UG.pg (o.blk scope s H C cl fp) tg) (fun s H C cl fp => UTs.pts (o.blk scope s H C cl fp) ifs) (fun s H C cl fp => UE.pe (o.blk scope s H C cl fp) elt) (hs _)
theorem rL.ev {is : List Nat} (hi : DI g l tg iter ρ ds) (hlen : ds.length ≤ 100000) (his : ∀ j ∈ is, j ∈ own.map (·.2)) (ρ1 : DV → Rho) (p : DV → Bool) (f : DV → DV)
    (hg : ∀ d ∈ ds, DG g (inn l scope) tg is d (wipeR ρ (own.map (·.2))) (ρ1 d)) (ht : ∀ d ∈ ds, DTs g (inn l scope) ifs (ρ1 d) (p d)) (he : ∀ d ∈ ds, p d = true → DE g (inn l scope) elt (ρ1 d) (f d)) : EvL g.K (rL g l elt tg iter ifs scope own) ρ ((ds.filter p).map f) :=
  el_lc hi hlen his ρ1 p f (fun d hd => (hg d hd).tg) ht he
theorem dl_rL (nd : l.N.Nodup) (ok : blkC l.N l.sc scope own = true) (h : EvL g.K (rL g l elt tg iter ifs scope own) ρ ds) (hs : ∀ env x, foldedSetIterable iter env x = pure x := by intro _ _; rfl) : DL g l (.ListComp elt [⟨tg, iter, ifs, 0⟩] scope pos) ρ ds :=
  DL.by _ (fun X o => rL.pe o nd ok hs) h
theorem dts_nil : DTs g l [] ρ true := DTs.by _ (fun X o => pts_nil) eb_yes
theorem dts_one (h : DT g l c ρ x) : DTs g l [c] ρ x := DTs.by _ (fun X o => pts_one (UT.pt o c)) h
/-- two clauses -/
def rL2 (g : Gb) (l : Lc) (elt tg iter : Expr) (ifs : List Expr) (tg1 iter1 : Expr) (ifs1 : List Expr) (scope : Scope) (own : List (Str × Nat)) (vs1 : List Nat) : TE :=
  tLc2 (UI g l tg iter) (UG g (inn l scope) tg) (UTs g (inn l scope) ifs) (UI g (inn l scope) tg1 iter1) (UG g (inn l scope) tg1) (UTs g (inn l scope) ifs1) (UE g (inn l scope) elt) (own.map (·.2)) vs1
theorem rL2.pe {X : Cx} {vs1 : List Nat} (o : Of g l X) (nd : l.N.Nodup) (ok : blkC l.N l.sc scope own = true) (hv : ∀ i ∈ vs1, i ∈ own.map (·.2)) (hs : ∀ env x, foldedSetIterable iter env x = pure x) (hs1 : ∀ env x, foldedSetIterable iter1 env x = pure x) :
    PE X (.ListComp elt [⟨tg, iter, ifs, 0⟩, ⟨tg1, iter1, ifs1, 0⟩] scope pos) (rL2 g l elt tg iter ifs tg1 iter1 ifs1 scope own vs1) :=
  pe_lc2 (own := own) o.calm (by rw [o.N]; exact nd) (UI.pi o tg iter) (blkOk_by (by rw [o.N, o.sc]; exact ok)) hv (fun s H C cl fp => UG.pg (o.blk scope s H C cl fp) tg) (fun s H C cl fp => UTs.pts (o.blk scope s H C cl fp) ifs)
    (fun s H C cl fp => UI.pi (o.blk scope s H C cl fp) tg1 iter1) (fun s H C cl fp => UG.pg (o.blk scope s H C cl fp) tg1) (fun s H C cl fp => UTs.pts (o.blk scope s H C cl fp) ifs1) (fun s H C cl fp => UE.pe (o.blk scope s H C cl fp) elt) (hs _) hs1
theorem rL2.ev {is is1 vs1 : List Nat} (hi : DI g l tg iter ρ ds) (his : ∀ j ∈ is, j ∈ own.map (·.2)) (his1 : ∀ j ∈ is1, j ∈ vs1) (ρ1 : DV → Rho) (p : DV → Bool) (es : DV → List DV) (ρ2 : DV → DV → Rho) (p1 : DV → DV → Bool) (f : DV → DV → DV)
    (hno : ∀ d ∈ ds, noOwn (ρ1 d) = true) (hlen : ((ds.filter p).flatMap fun d => ((es d).filter (p1 d)).map (f d)).length ≤ 100000)
    (hg : ∀ d ∈ ds, DG g (inn l scope) tg is d (wipeR ρ (own.map (·.2))) (ρ1 d)) (ht : ∀ d ∈ ds, DTs g (inn l scope) ifs (ρ1 d) (p d)) (hi1 : ∀ d ∈ ds, p d = true → DI g (inn l scope) tg1 iter1 (ρ1 d) (es d))
    (hg1 : ∀ d ∈ ds, p d = true → ∀ c ∈ es d, DG g (inn l scope) tg1 is1 c (wipeR (ρ1 d) vs1) (ρ2 d c)) (ht1 : ∀ d ∈ ds, p d = true → ∀ c ∈ es d, DTs g (inn l scope) ifs1 (ρ2 d c) (p1 d c))
    (he : ∀ d ∈ ds, p d = true → ∀ c ∈ es d, p1 d c = true → DE g (inn l scope) elt (ρ2 d c) (f d c)) : EvL g.K (rL2 g l elt tg iter ifs tg1 iter1 ifs1 scope own vs1) ρ ((ds.filter p).flatMap fun d => ((es d).filter (p1 d)).map (f d)) :=
  el_lc2 hi his his1 ρ1 p es ρ2 p1 f hno hlen (fun d hd => (hg d hd).tg) ht hi1 (fun d hd hp c hc => (hg1 d hd hp c hc).tg) ht1 he
theorem dl_rL2 {vs1 : List Nat} (nd : l.N.Nodup) (ok : blkC l.N l.sc scope own = true) (hv : ∀ i ∈ vs1, i ∈ own.map (·.2)) (h : EvL g.K (rL2 g l elt tg iter ifs tg1 iter1 ifs1 scope own vs1) ρ ds)
    (hs : ∀ env x, foldedSetIterable iter env x = pure x := by intro _ _; rfl) (hs1 : ∀ env x, foldedSetIterable iter1 env x = pure x := by intro _ _; rfl) : DL g l (.ListComp elt [⟨tg, iter, ifs, 0⟩, ⟨tg1, iter1, ifs1, 0⟩] scope pos) ρ ds :=
  DL.by _ (fun X o => rL2.pe o nd ok hv hs hs1) h
/-! y = [..] on one line, y a local -/
theorem sw_of {X : Cx} {gs : List Comprehension} {py : Pos} {n : Str} {k : Nat} (o : Of g l X) (hk : l.sc.kind = .function) (hy : l.sc.names.lookup n = some .local) (hl : (py.line == pos.line) = true)
    (ha : (scope.names.any fun (m, k) => m == n && (k == .local || k == .cell)) = false) : swapsWith (.ListComp elt gs scope pos) (some (.Name n py)) k X.env = pure true :=
  sw_true (by rw [o.sc]; exact hk) (by rw [o.sc]; exact hy) hl ha
theorem ps_rL {X : Cx} {i : Nat} {n : Str} {py spos : Pos} (o : Of g l X) (nd : l.N.Nodup) (ok : blkC l.N l.sc scope own = true) (hs : ∀ env x, foldedSetIterable iter env x = pure x) (hN : l.N[i]? = some n) (hk : l.sc.kind = .function) (hy : l.sc.names.lookup n = some .local) (hl : (py.line == pos.line) = true)
    (ha : (scope.names.any fun (m, k) => m == n && (k == .local || k == .cell)) = false) : PS X (.Assign [.Name n py] (.ListComp elt [⟨tg, iter, ifs, 0⟩] scope pos) spos) (tAsg (rL g l elt tg iter ifs scope own) (gName i)) :=
  ps_setLc (own := own) o.calm (by rw [o.N]; exact nd) (by rw [o.N]; exact hN) (by rw [o.sc]; exact hy) (sw_of o hk hy hl ha) (UI.pi o tg iter) (blkOk_by (by rw [o.N, o.sc]; exact ok)) (fun s H C cl fp => UG.pg (o.blk scope s H C cl fp) tg) (fun s H C cl fp => UTs.pts (o.blk scope s H C cl fp) ifs) (fun s H C cl fp => UE.pe (o.blk scope s H C cl fp) elt) (hs _)
theorem ps_rL2 {X : Cx} {i : Nat} {n : Str} {py spos : Pos} {vs1 : List Nat} (o : Of g l X) (nd : l.N.Nodup) (ok : blkC l.N l.sc scope own = true) (hv : ∀ i ∈ vs1, i ∈ own.map (·.2)) (hs : ∀ env x, foldedSetIterable iter env x = pure x) (hs1 : ∀ env x, foldedSetIterable iter1 env x = pure x) (hN : l.N[i]? = some n) (hk : l.sc.kind = .function) (hy : l.sc.names.lookup n = some .local) (hl : (py.line == pos.line) = true)
    (ha : (scope.names.any fun (m, k) => m == n && (k == .local || k == .cell)) = false) : PS X (.Assign [.Name n py] (.ListComp elt [⟨tg, iter, ifs, 0⟩, ⟨tg1, iter1, ifs1, 0⟩] scope pos) spos) (tAsg (rL2 g l elt tg iter ifs tg1 iter1 ifs1 scope own vs1) (gName i)) :=
  ps_setLc2 (own := own) o.calm (by rw [o.N]; exact nd) (by rw [o.N]; exact hN) (by rw [o.sc]; exact hy) (sw_of o hk hy hl ha) (UI.pi o tg iter) (blkOk_by (by rw [o.N, o.sc]; exact ok)) hv (fun s H C cl fp => UG.pg (o.blk scope s H C cl fp) tg) (fun s H C cl fp => UTs.pts (o.blk scope s H C cl fp) ifs)
    (fun s H C cl fp => UI.pi (o.blk scope s H C cl fp) tg1 iter1) (fun s H C cl fp => UG.pg (o.blk scope s H C cl fp) tg1) (fun s H C cl fp => UTs.pts (o.blk scope s H C cl fp) ifs1) (fun s H C cl fp => UE.pe (o.blk scope s H C cl fp) elt) (hs _) hs1
end

/-! ### statements -/
section
variable {g : Gb} {l : Lc} {ρ ρ' : Rho} {a b c e elt tg iter : Expr} {es : List Expr} {d : DV} {pos py spos : Pos} {ds : List DV} {x : Bool} {E : Po} {st : Stmt} {sts body orelse : List Stmt} {scope : Scope} {own : List (Str × Nat)} {n : Str}
theorem dss_nil (h : E.nx ρ) : DSs g l [] ρ E := DSs.by _ (fun X o => pss_nil) (st_next h)
theorem dss_cons (h : DS g l st ρ { E with nx := fun ρ' => DSs g l sts ρ' E }) : DSs g l (st :: sts) ρ E := DSs.by _ (fun X o => pss_cons (US.ps o st) (USs.pss o sts)) (st_seq h)
theorem dss_one (h : DS g l st ρ E) : DSs g l [st] ρ E := DSs.by _ (fun X o => pss_one (US.ps o st)) h
theorem ds_set (i : Nat) (nd : l.N.Nodup) (h : DE g l e ρ d) (q : E.nx (ρ.set i (.val d))) (hN : l.N[i]? = some n := by rfl) (hx : Loc l.sc n := by first | exact Or.inl rfl | exact Or.inr rfl) (hf : l.fn n = true ∨ l.sc.names.lookup n = some .local := by first | exact .inl rfl | exact .inr rfl)
    (hs : ∀ env, swapsWith e (some (.Name n py)) pos.line env = pure false := by intro _; rfl) : DS g l (.Assign [.Name n py] e pos) ρ E :=
  DS.by _ (fun X o => ps_set (i := i) (by rw [o.N]; exact nd) (by rw [o.N]; exact hN) (by rw [o.sc]; exact hx) (UE.pe o e) (hs _) (by rcases hf with h | h; exact .inl (o.fn _ h); exact .inr (by rw [o.sc]; exact h))) (st_asg h q)
theorem ds_setL (i : Nat) (nd : l.N.Nodup) (h : DL g l e ρ ds) (q : E.nx (ρ.set i (.own ds))) (hN : l.N[i]? = some n := by rfl) (hx : Loc l.sc n := by first | exact Or.inl rfl | exact Or.inr rfl) (hf : l.fn n = true ∨ l.sc.names.lookup n = some .local := by first | exact .inl rfl | exact .inr rfl)
    (hs : ∀ env, swapsWith e (some (.Name n py)) pos.line env = pure false := by intro _; rfl) : DS g l (.Assign [.Name n py] e pos) ρ E :=
  DS.by _ (fun X o => ps_set (i := i) (by rw [o.N]; exact nd) (by rw [o.N]; exact hN) (by rw [o.sc]; exact hx) (UE.pe o e) (hs _) (by rcases hf with h | h; exact .inl (o.fn _ h); exact .inr (by rw [o.sc]; exact h))) (st_asgL h q)
/-- a target of any form -/
theorem ds_asg {is : List Nat} (h : DE g l e ρ d) (hg : DG g l tg is d ρ ρ') (q : E.nx ρ') (hs : ∀ env, swapsWithSole [tg] e pos.line env = pure false := by intro _; rfl) (hw : ∀ env, swappedStores [tg] e env = pure none := by intro _; rfl)
    (h1 : ∀ env, (assignEach [tg] env).map (·.2) = [assign tg env] := by intro _; rfl) : DS g l (.Assign [tg] e pos) ρ E :=
  DS.by _ (fun X o => ps_asg (UE.pe o e) (UG.pg o tg) (hs _) (hw _) (h1 _)) (st_asgG h hg.tg q)
theorem ds_ret (h : DE g l e ρ d) (q : E.rt d) : DS g l (.Return (some e) pos) ρ E := DS.by _ (fun X o => ps_ret (UE.pe o e)) (st_ret h q)
theorem ds_retN (q : E.rt .non) : DS g l (.Return none pos) ρ E := DS.by _ (fun X o => ps_retN) (st_retN q)
theorem ds_if (h : DT g l c ρ x) (h1 : x = true → DSs g l body ρ E) (h2 : x = false → DSs g l orelse ρ E) : DS g l (.If c body orelse pos) ρ E := DS.by _ (fun X o => ps_if (UT.pt o c) (USs.pss o body) (USs.pss o orelse)) (st_if h h1 h2)
theorem ds_ex (h : DE g l e ρ d) (q : E.nx ρ) (hs : ∀ env, swapsWith e none pos.line env = pure false := by intro _; rfl) : DS g l (.Expr e pos) ρ E := DS.by _ (fun X o => ps_expr (UE.pe o e) (hs _)) (st_drop h q)
theorem dss_freeze (i : Nat) (hi : ρ[i]? = some (.own ds)) (h : DSs g l sts (ρ.set i (.val (.lst ds))) E) : DSs g l sts ρ E := st_freeze hi h
theorem ds_freeze (i : Nat) (hi : ρ[i]? = some (.own ds)) (h : DS g l st (ρ.set i (.val (.lst ds))) E) : DS g l st ρ E := st_freeze hi h
theorem ds_for {is : List Nat} (hi : DI g l tg iter ρ ds) (I : Nat → Rho → Prop) (h0 : I 0 ρ)
    (hs : ∀ i d ρ', ds[i]? = some d → I i ρ' → ∃ ρ'', DG g l tg is d ρ' ρ'' ∧ DSs g l body ρ'' { nx := I (i + 1), ct := I (i + 1), bk := E.nx, rt := E.rt }) (hd : ∀ ρ', I ds.length ρ' → E.nx ρ')
    (hf : ∀ env x, foldedSetIterable iter env x = pure x := by intro _ _; rfl) : DS g l (.For tg iter body [] pos) ρ E :=
  DS.by _ (fun X o => ps_for o.po o.calm (UI.pi o tg iter) (UG.pg o tg) (USs.pss o body) (hf _)) (st_for hi I h0 (fun i d ρ' hd hI => let ⟨ρ'', h1, h2⟩ := hs i d ρ' hd hI; ⟨ρ'', h1.tg, h2⟩) hd)
theorem ds_append (i : Nat) {p2 apos cpos : Pos} (hi : ρ[i]? = some (.own ds)) (h : DE g l e ρ d) (hl : ds.length < 100000) (q : E.nx (ρ.set i (.own (ds ++ [d])))) (hN : l.N[i]? = some n := by rfl) (hv : Vis l.sc n := by first | exact Or.inl rfl | exact Or.inr (Or.inl rfl) | exact Or.inr (Or.inr rfl))
    (hd : (n == ("__debug__" : Str)) = false := by decide) (hcd : (n == ("__classdict__" : Str)) = false := by decide) (hst : ∀ env, starEach [e] env = [(false, eval e env)] := by intro _; rfl)
    (hbase : ∀ env, attributeBase (.Name n p2) ("append" : Str) env (eval (.Name n p2) env) = eval (.Name n p2) env := by intro _; rfl)
    (hfew : ∀ env, ((backTo cpos (starEach [e] env)).all (fun x => !x.1) && (backToKw cpos (keywordEach [] env)).all (fun x => x.1.isSome) && decide (([e] : List Expr).length + ([] : List Keyword).length + (if ([] : List Keyword).isEmpty then 0 else 1) < 30)) = true := by intro _; rfl)
    (hline : (apos.endLine == cpos.line) = true := by rfl) (hsw : ∀ env, swapsWith (.Call (.Attribute (.Name n p2) "append" apos) [e] [] cpos) none pos.line env = pure false := by intro _; rfl) : DS g l (.Expr (.Call (.Attribute (.Name n p2) "append" apos) [e] [] cpos) pos) ρ E :=
  DS.by (tDrop (tBM g.K "list" rAppend (tVar i) (tCons (UE g l e) tNil))) (fun X o => by
    have he : PE X (.Call (.Attribute (.Name n p2) "append" apos) [e] [] cpos) (tBM X.K "list" rAppend (tVar i) (tCons (UE g l e) tNil)) :=
      pe_bm PySem.F.plainAttrs_list PySem.F.slot_list_append PySem.F.type_list_append mt_append (pe_var (i := i) (by rw [o.N]; exact hN) (o.vis hv) hd hcd) (pa_cons (UE.pe o e) pa_nil (by rw [hst]; rfl)) (hbase _) (hfew _) hline (by rw [hst]; rfl) (by rfl)
    rw [o.K] at he
    exact ps_expr he (hsw _)) (st_append hi h hl q)
theorem ds_extend (i : Nat) {p2 apos cpos : Pos} {es' : List DV} (hi : ρ[i]? = some (.own ds)) (h : DE g l e ρ (.lst es')) (hl : ds.length + es'.length ≤ 100000) (q : E.nx (ρ.set i (.own (ds ++ es')))) (hN : l.N[i]? = some n := by rfl) (hv : Vis l.sc n := by first | exact Or.inl rfl | exact Or.inr (Or.inl rfl) | exact Or.inr (Or.inr rfl))
    (hd : (n == ("__debug__" : Str)) = false := by decide) (hcd : (n == ("__classdict__" : Str)) = false := by decide) (hst : ∀ env, starEach [e] env = [(false, eval e env)] := by intro _; rfl)
    (hbase : ∀ env, attributeBase (.Name n p2) ("extend" : Str) env (eval (.Name n p2) env) = eval (.Name n p2) env := by intro _; rfl)
    (hfew : ∀ env, ((backTo cpos (starEach [e] env)).all (fun x => !x.1) && (backToKw cpos (keywordEach [] env)).all (fun x => x.1.isSome) && decide (([e] : List Expr).length + ([] : List Keyword).length + (if ([] : List Keyword).isEmpty then 0 else 1) < 30)) = true := by intro _; rfl)
    (hline : (apos.endLine == cpos.line) = true := by rfl) (hsw : ∀ env, swapsWith (.Call (.Attribute (.Name n p2) "extend" apos) [e] [] cpos) none pos.line env = pure false := by intro _; rfl) : DS g l (.Expr (.Call (.Attribute (.Name n p2) "extend" apos) [e] [] cpos) pos) ρ E :=
  DS.by (tDrop (tBM g.K "list" rExtR (tVar i) (tCons (UE g l e) tNil))) (fun X o => by
    have he : PE X (.Call (.Attribute (.Name n p2) "extend" apos) [e] [] cpos) (tBM X.K "list" rExtR (tVar i) (tCons (UE g l e) tNil)) :=
      pe_bm PySem.F.plainAttrs_list PySem.F.slot_list_extend PySem.F.type_list_extend mt_extR (pe_var (i := i) (by rw [o.N]; exact hN) (o.vis hv) hd hcd) (pa_cons (UE.pe o e) pa_nil (by rw [hst]; rfl)) (hbase _) (hfew _) hline (by rw [hst]; rfl) (by rfl)
    rw [o.K] at he
    exact ps_expr he (hsw _)) (st_extend hi h hl q)
/-- y = [..], kept as one's own, or as a value -/
theorem ds_lcO (i : Nat) {ifs : List Expr} (nd : l.N.Nodup) (ok : blkC l.N l.sc scope own = true) (h : EvL g.K (rL g l elt tg iter ifs scope own) ρ ds) (q : E.nx (ρ.set i (.own ds))) (hN : l.N[i]? = some n := by rfl) (hk : l.sc.kind = .function := by rfl) (hy : l.sc.names.lookup n = some .local := by rfl) (hl : (py.line == pos.line) = true := by rfl)
    (ha : (scope.names.any fun (m, k) => m == n && (k == .local || k == .cell)) = false := by decide +kernel) (hs : ∀ env x, foldedSetIterable iter env x = pure x := by intro _ _; rfl) : DS g l (.Assign [.Name n py] (.ListComp elt [⟨tg, iter, ifs, 0⟩] scope pos) spos) ρ E :=
  DS.by _ (fun X o => ps_rL o nd ok hs hN hk hy hl ha) (st_asgL h q)
theorem ds_lcV (i : Nat) {ifs : List Expr} (nd : l.N.Nodup) (ok : blkC l.N l.sc scope own = true) (h : EvL g.K (rL g l elt tg iter ifs scope own) ρ ds) (q : E.nx (ρ.set i (.val (.lst ds)))) (hN : l.N[i]? = some n := by rfl) (hk : l.sc.kind = .function := by rfl) (hy : l.sc.names.lookup n = some .local := by rfl) (hl : (py.line == pos.line) = true := by rfl)
    (ha : (scope.names.any fun (m, k) => m == n && (k == .local || k == .cell)) = false := by decide +kernel) (hs : ∀ env x, foldedSetIterable iter env x = pure x := by intro _ _; rfl) : DS g l (.Assign [.Name n py] (.ListComp elt [⟨tg, iter, ifs, 0⟩] scope pos) spos) ρ E :=
  DS.by _ (fun X o => ps_rL o nd ok hs hN hk hy hl ha) (st_asg h.ev q)
theorem ds_lc2O (i : Nat) {ifs ifs1 : List Expr} {tg1 iter1 : Expr} {vs1 : List Nat} (nd : l.N.Nodup) (ok : blkC l.N l.sc scope own = true) (hv : ∀ i ∈ vs1, i ∈ own.map (·.2)) (h : EvL g.K (rL2 g l elt tg iter ifs tg1 iter1 ifs1 scope own vs1) ρ ds) (q : E.nx (ρ.set i (.own ds))) (hN : l.N[i]? = some n := by rfl) (hk : l.sc.kind = .function := by rfl) (hy : l.sc.names.lookup n = some .local := by rfl) (hl : (py.line == pos.line) = true := by rfl)
    (ha : (scope.names.any fun (m, k) => m == n && (k == .local || k == .cell)) = false := by decide +kernel) (hs : ∀ env x, foldedSetIterable iter env x = pure x := by intro _ _; rfl) (hs1 : ∀ env x, foldedSetIterable iter1 env x = pure x := by intro _ _; rfl) :
    DS g l (.Assign [.Name n py] (.ListComp elt [⟨tg, iter, ifs, 0⟩, ⟨tg1, iter1, ifs1, 0⟩] scope pos) spos) ρ E :=
  DS.by _ (fun X o => ps_rL2 o nd ok hv hs hs1 hN hk hy hl ha) (st_asgL h q)
theorem ds_lc2V (i : Nat) {ifs ifs1 : List Expr} {tg1 iter1 : Expr} {vs1 : List Nat} (nd : l.N.Nodup) (ok : blkC l.N l.sc scope own = true) (hv : ∀ i ∈ vs1, i ∈ own.map (·.2)) (h : EvL g.K (rL2 g l elt tg iter ifs tg1 iter1 ifs1 scope own vs1) ρ ds) (q : E.nx (ρ.set i (.val (.lst ds)))) (hN : l.N[i]? = some n := by rfl) (hk : l.sc.kind = .function := by rfl) (hy : l.sc.names.lookup n = some .local := by rfl) (hl : (py.line == pos.line) = true := by rfl)
    (ha : (scope.names.any fun (m, k) => m == n && (k == .local || k == .cell)) = false := by decide +kernel) (hs : ∀ env x, foldedSetIterable iter env x = pure x := by intro _ _; rfl) (hs1 : ∀ env x, foldedSetIterable iter1 env x = pure x := by intro _ _; rfl) :
    DS g l (.Assign [.Name n py] (.ListComp elt [⟨tg, iter, ifs, 0⟩, ⟨tg1, iter1, ifs1, 0⟩] scope pos) spos) ρ E :=
  DS.by _ (fun X o => ps_rL2 o nd ok hv hs hs1 hN hk hy hl ha) (st_asg h.ev q)
end

/-! ### defs -/
def rho0 (N : List Str) (ds : List DV) : Rho := ds.map EV.val ++ List.replicate (N.length - ds.length) .un
theorem en_start {K : PySem.W.Frag} {H0 S H : Hp} {N : List Str} {vs : List V} {ds : List DV} (r : RpA K S vs ds) : En K H0 S H (L2.start N vs) (rho0 N ds) where
  len := by
    unfold L2.start rho0
    rw [List.length_append, List.length_append, List.length_map, List.length_map, List.length_replicate, List.length_replicate, r.len]
  at_ := fun i v e a b => by
    unfold L2.start at a
    unfold rho0 at b
    by_cases h : i < ds.length
    · rw [List.getElem?_append_left (by rw [List.length_map, r.len]; exact h), List.getElem?_map] at a
      rw [List.getElem?_append_left (by rw [List.length_map]; exact h), List.getElem?_map, List.getElem?_eq_getElem h] at b
      cases b
      obtain ⟨u, hu, ru⟩ := r.get (List.getElem?_eq_getElem h)
      rw [hu] at a
      cases a
      exact ⟨u, rfl, ru⟩
    · rw [List.getElem?_append_right (by rw [List.length_map]; omega)] at b
      rw [List.getElem?_replicate] at b
      split at b
      · cases b
        trivial
      · cases b
  sep := fun i j p q ds' es hij a b c e => by
    exfalso
    unfold rho0 at a
    by_cases h : i < ds.length
    · rw [List.getElem?_append_left (by rw [List.length_map]; exact h), List.getElem?_map, List.getElem?_eq_getElem h] at a
      cases a
    · rw [List.getElem?_append_right (by rw [List.length_map]; omega), List.getElem?_replicate] at a
      split at a <;> cases a
theorem fn_ok {g : Gb} {x qual : Str} {st : Stmt} {f : Addr} {fd : FuncData} {N ps : List Str} {k : Nat} {R : List DV → DV → Prop} (F : Fun g.K x qual st f fd) (S : FnScope N ps (defScope st)) (len : ∀ ds d, R ds d → ds.length = ps.length)
    (body : ∀ ds d, R ds d → DSs g ⟨k, N, defScope st, fun _ => true⟩ (defBody st) (rho0 N ds) { nx := fun _ => d = .non, rt := fun r => r = d }) : FnOk g.P g.w g.K g.mg g.base CX0 (k + 1) f fd ps (spR g.K R) := by
  refine F.ok S (fun vs H Q E ⟨S0, ds, d, e, ra, hR, _⟩ => by rw [ra.len]; exact len ds d hR) (fun cdv A outer s H vs Q E hr ⟨S0, ds, d, e, ra, hR, q⟩ => ?_)
  refine ⟨USs g ⟨k, N, defScope st, fun _ => true⟩ (defBody st), USs.pss ⟨rfl, rfl, rfl, rfl, rfl, rfl, rfl, fun _ _ => rfl, rfl, hr, PassesOwn.never⟩ _, ?_⟩
  refine body ds d hR S0 H S0 _ S0 H _ (Go.rf e) (Ex.rf _) (en_start ra) ⟨fun ρ σ S1 H1 z g1 _ n1 => ?_, fun r v S1 H1 z g1 r1 => ?_, fun _ _ _ _ z => z.elim, fun _ _ _ _ z => z.elim⟩
  · have z' : d = .non := z
    subst z'
    exact q .non S1 H1 g1 .non
  · have z' : r = d := z
    subst z'
    exact q v S1 H1 g1 r1
theorem Fn.mk' {g : Gb} {x qual : Str} {st : Stmt} {f : Addr} {fd : FuncData} {ps : List Str} {k : Nat} {R : List DV → DV → Prop} (F : Fun g.K x qual st f fd) (ok : FnOk g.P g.w g.K g.mg g.base CX0 k f fd ps (spR g.K R)) (hm : g.mg x = some (.ref f)) (hb : Binds g.K fd ps []) : Fn g k x R := ⟨f, fd, ps, ok, hm, F.kp, hb⟩
end PD

/-! Data: built-ins by name; isinstance. -/
namespace PD
open PySem PySem.Spec PyProof.Rows L2
/-- the built-ins that no name of the module hides -/
structure Bt (g : Gb) : Prop where
  isi : g.mg "isinstance" = none
  int : g.mg "int" = none
  bool : g.mg "bool" = none
  str : g.mg "str" = none
  tuple : g.mg "tuple" = none
  list : g.mg "list" = none
  len : g.mg "len" = none
  all : g.mg "all" = none
  range : g.mg "range" = none
  enum : g.mg "enumerate" = none
  sum : g.mg "sum" = none
def DV.isInt : DV → Bool
  | .int _ => true | .bl _ => true | _ => false
def DV.isBool : DV → Bool
  | .bl _ => true | _ => false
def DV.isStr : DV → Bool
  | .str _ => true | _ => false
def DV.isTup : DV → Bool
  | .tup _ => true | _ => false
def DV.isLst : DV → Bool
  | .lst _ => true | _ => false
def DV.isObj : DV → Bool
  | .obj _ _ => true | .frz _ => true | _ => false
theorem kb (a b : String) (r : Bool) (h : kitB a b = some r := by decide +kernel) : kitB a b = some r := h
section
variable {g : Gb} {l : Lc} {ρ : Rho} {e : Expr} {d : DV} {pos p p2 : Pos}
theorem kind_some (h : d.isObj = false) : ∃ t, d.kind = some t := by
  cases d <;> first | exact ⟨_, rfl⟩ | cases h
theorem de_isInt (B : Bt g) (ho : d.isObj = false) (h : DE g l e ρ d) (hg : GlN l "isinstance" := by rfl) (hgT : GlN l "int" := by rfl) (hs : ∀ env, starEach (e :: [.Name "int" p2]) env = (false, eval e env) :: starEach [.Name "int" p2] env := by intro _; rfl) :
    DE g l (.Call (.Name "isinstance" p) (e :: [.Name "int" p2]) [] pos) ρ (.bl d.isInt) := by
  obtain ⟨t, hk⟩ := kind_some ho
  refine de_isi (T := "int") (t := t) B.isi B.int (by decide +kernel) hk ?_ h hg hgT (by decide) (by decide) hs
  cases d <;> cases hk <;> first | exact kb _ _ true | exact kb _ _ false
theorem de_isBool (B : Bt g) (ho : d.isObj = false) (h : DE g l e ρ d) (hg : GlN l "isinstance" := by rfl) (hgT : GlN l "bool" := by rfl) (hs : ∀ env, starEach (e :: [.Name "bool" p2]) env = (false, eval e env) :: starEach [.Name "bool" p2] env := by intro _; rfl) :
    DE g l (.Call (.Name "isinstance" p) (e :: [.Name "bool" p2]) [] pos) ρ (.bl d.isBool) := by
  obtain ⟨t, hk⟩ := kind_some ho
  refine de_isi (T := "bool") (t := t) B.isi B.bool (by decide +kernel) hk ?_ h hg hgT (by decide) (by decide) hs
  cases d <;> cases hk <;> first | exact kb _ _ true | exact kb _ _ false
theorem de_isStr (B : Bt g) (ho : d.isObj = false) (h : DE g l e ρ d) (hg : GlN l "isinstance" := by rfl) (hgT : GlN l "str" := by rfl) (hs : ∀ env, starEach (e :: [.Name "str" p2]) env = (false, eval e env) :: starEach [.Name "str" p2] env := by intro _; rfl) :
    DE g l (.Call (.Name "isinstance" p) (e :: [.Name "str" p2]) [] pos) ρ (.bl d.isStr) := by
  obtain ⟨t, hk⟩ := kind_some ho
  refine de_isi (T := "str") (t := t) B.isi B.str (by decide +kernel) hk ?_ h hg hgT (by decide) (by decide) hs
  cases d <;> cases hk <;> first | exact kb _ _ true | exact kb _ _ false
theorem de_isTup (B : Bt g) (ho : d.isObj = false) (h : DE g l e ρ d) (hg : GlN l "isinstance" := by rfl) (hgT : GlN l "tuple" := by rfl) (hs : ∀ env, starEach (e :: [.Name "tuple" p2]) env = (false, eval e env) :: starEach [.Name "tuple" p2] env := by intro _; rfl) :
    DE g l (.Call (.Name "isinstance" p) (e :: [.Name "tuple" p2]) [] pos) ρ (.bl d.isTup) := by
  obtain ⟨t, hk⟩ := kind_some ho
  refine de_isi (T := "tuple") (t := t) B.isi B.tuple (by decide +kernel) hk ?_ h hg hgT (by decide) (by decide) hs
  cases d <;> cases hk <;> first | exact kb _ _ true | exact kb _ _ false
theorem de_isLst (B : Bt g) (ho : d.isObj = false) (h : DE g l e ρ d) (hg : GlN l "isinstance" := by rfl) (hgT : GlN l "list" := by rfl) (hs : ∀ env, starEach (e :: [.Name "list" p2]) env = (false, eval e env) :: starEach [.Name "list" p2] env := by intro _; rfl) :
    DE g l (.Call (.Name "isinstance" p) (e :: [.Name "list" p2]) [] pos) ρ (.bl d.isLst) := by
  obtain ⟨t, hk⟩ := kind_some ho
  refine de_isi (T := "list") (t := t) B.isi B.list (by decide +kernel) hk ?_ h hg hgT (by decide) (by decide) hs
  cases d <;> cases hk <;> first | exact kb _ _ true | exact kb _ _ false
end
/-! comparisons by name: value and test -/
section
variable {g : Gb} {l : Lc} {ρ : Rho} {a b c : Expr} {pos : Pos} {da db : DV} {ds : List DV}
theorem de_ltI {i j : Int} (ha : DE g l a ρ (.int i)) (hb : DE g l b ρ (.int j)) : DE g l (.Compare a [.Lt] [b] pos) ρ (.bl (decide (i < j))) := de_cmp (fun X o => op_lt) (od_I0 fun S => .bl _) ha hb (nomark _)
theorem de_leI {i j : Int} (ha : DE g l a ρ (.int i)) (hb : DE g l b ρ (.int j)) : DE g l (.Compare a [.LtE] [b] pos) ρ (.bl (decide (i ≤ j))) := de_cmp (fun X o => op_le) (od_I0 fun S => .bl _) ha hb (nomark _)
theorem de_gtI {i j : Int} (ha : DE g l a ρ (.int i)) (hb : DE g l b ρ (.int j)) : DE g l (.Compare a [.Gt] [b] pos) ρ (.bl (decide (j < i))) := de_cmp (fun X o => op_gt) (od_I0 fun S => .bl _) ha hb (nomark _)
theorem de_geI {i j : Int} (ha : DE g l a ρ (.int i)) (hb : DE g l b ρ (.int j)) : DE g l (.Compare a [.GtE] [b] pos) ρ (.bl (decide (j ≤ i))) := de_cmp (fun X o => op_ge) (od_I0 fun S => .bl _) ha hb (nomark _)
theorem dt_ltI {i j : Int} (ha : DE g l a ρ (.int i)) (hb : DE g l b ρ (.int j)) : DT g l (.Compare a [.Lt] [b] pos) ρ (decide (i < j)) := dt_cmp (fun X o => op_lt) (od_I0 fun S => .bl _) ha hb (nomark _)
theorem dt_leI {i j : Int} (ha : DE g l a ρ (.int i)) (hb : DE g l b ρ (.int j)) : DT g l (.Compare a [.LtE] [b] pos) ρ (decide (i ≤ j)) := dt_cmp (fun X o => op_le) (od_I0 fun S => .bl _) ha hb (nomark _)
theorem dt_gtI {i j : Int} (ha : DE g l a ρ (.int i)) (hb : DE g l b ρ (.int j)) : DT g l (.Compare a [.Gt] [b] pos) ρ (decide (j < i)) := dt_cmp (fun X o => op_gt) (od_I0 fun S => .bl _) ha hb (nomark _)
theorem dt_geI {i j : Int} (ha : DE g l a ρ (.int i)) (hb : DE g l b ρ (.int j)) : DT g l (.Compare a [.GtE] [b] pos) ρ (decide (j ≤ i)) := dt_cmp (fun X o => op_ge) (od_I0 fun S => .bl _) ha hb (nomark _)
theorem de_eqI {i j : Int} (ha : DE g l a ρ (.int i)) (hb : DE g l b ρ (.int j)) : DE g l (.Compare a [.Eq] [b] pos) ρ (.bl (decide (i = j))) := de_cmp (fun X o => op_eq) od_eqI ha hb (nomark _)
theorem de_neI {i j : Int} (ha : DE g l a ρ (.int i)) (hb : DE g l b ρ (.int j)) : DE g l (.Compare a [.NotEq] [b] pos) ρ (.bl (!decide (i = j))) := de_cmp (fun X o => op_ne) od_neI ha hb (nomark _)
theorem dt_eqI {i j : Int} (ha : DE g l a ρ (.int i)) (hb : DE g l b ρ (.int j)) : DT g l (.Compare a [.Eq] [b] pos) ρ (decide (i = j)) := dt_cmp (fun X o => op_eq) od_eqI ha hb (nomark _)
theorem dt_neI {i j : Int} (ha : DE g l a ρ (.int i)) (hb : DE g l b ρ (.int j)) : DT g l (.Compare a [.NotEq] [b] pos) ρ (!decide (i = j)) := dt_cmp (fun X o => op_ne) od_neI ha hb (nomark _)
theorem de_eqS {i j : Str} (ha : DE g l a ρ (.str i)) (hb : DE g l b ρ (.str j)) : DE g l (.Compare a [.Eq] [b] pos) ρ (.bl (decide (i = j))) := de_cmp (fun X o => op_eq) od_eqS ha hb (nomark _)
theorem de_neS {i j : Str} (ha : DE g l a ρ (.str i)) (hb : DE g l b ρ (.str j)) : DE g l (.Compare a [.NotEq] [b] pos) ρ (.bl (!decide (i = j))) := de_cmp (fun X o => op_ne) od_neS ha hb (nomark _)
theorem dt_eqS {i j : Str} (ha : DE g l a ρ (.str i)) (hb : DE g l b ρ (.str j)) : DT g l (.Compare a [.Eq] [b] pos) ρ (decide (i = j)) := dt_cmp (fun X o => op_eq) od_eqS ha hb (nomark _)
theorem dt_neS {i j : Str} (ha : DE g l a ρ (.str i)) (hb : DE g l b ρ (.str j)) : DT g l (.Compare a [.NotEq] [b] pos) ρ (!decide (i = j)) := dt_cmp (fun X o => op_ne) od_neS ha hb (nomark _)
theorem de_eqD (h : da.ok = true) (h' : db.ok = true) (ha : DE g l a ρ da) (hb : DE g l b ρ db) : DE g l (.Compare a [.Eq] [b] pos) ρ (.bl (da.eqv db)) := de_cmp (r := rEqD g.K) (fun X o => by have := op_eqD (X := X) o.u64; rw [o.K] at this; exact this) (od_eqD h h') ha hb (nomark _)
theorem de_neD (h : da.ok = true) (h' : db.ok = true) (ha : DE g l a ρ da) (hb : DE g l b ρ db) : DE g l (.Compare a [.NotEq] [b] pos) ρ (.bl (!da.eqv db)) := de_cmp (r := rNeD g.K) (fun X o => by have := op_neD (X := X) o.u64; rw [o.K] at this; exact this) (od_neD h h') ha hb (nomark _)
theorem dt_eqD (h : da.ok = true) (h' : db.ok = true) (ha : DE g l a ρ da) (hb : DE g l b ρ db) : DT g l (.Compare a [.Eq] [b] pos) ρ (da.eqv db) := dt_cmp (r := rEqD g.K) (fun X o => by have := op_eqD (X := X) o.u64; rw [o.K] at this; exact this) (od_eqD h h') ha hb (nomark _)
theorem dt_neD (h : da.ok = true) (h' : db.ok = true) (ha : DE g l a ρ da) (hb : DE g l b ρ db) : DT g l (.Compare a [.NotEq] [b] pos) ρ (!da.eqv db) := dt_cmp (r := rNeD g.K) (fun X o => by have := op_neD (X := X) o.u64; rw [o.K] at this; exact this) (od_neD h h') ha hb (nomark _)
theorem de_inSign {ch : Nat} {z : Str} (ha : DE g l a ρ (.str ⟨#[ch]⟩)) (hb : DE g l b ρ (.str z)) (hm : behindInMarks .In b = false := by rfl) : DE g l (.Compare a [.In] [b] pos) ρ (.bl (decide (ch ∈ z.cps.toList))) := de_cmp (fun X o => op_in_sign) od_inSign ha hb hm
theorem de_in (h : da.flat = true) (hi : db.items = some ds) (hf : ds.all DV.flat = true) (ha : DE g l a ρ da) (hb : DE g l b ρ db) (hm : behindInMarks .In b = false := by rfl) : DE g l (.Compare a [.In] [b] pos) ρ (.bl (inD da ds)) := de_cmp (r := rIn g.K false) (fun X o => by have := op_in_seq (X := X); rw [o.K] at this; exact this) (od_is h hi hf) ha hb hm
theorem de_notIn (h : da.flat = true) (hi : db.items = some ds) (hf : ds.all DV.flat = true) (ha : DE g l a ρ da) (hb : DE g l b ρ db) (hm : behindInMarks .NotIn b = false := by rfl) : DE g l (.Compare a [.NotIn] [b] pos) ρ (.bl (!inD da ds)) := de_cmp (r := rIn g.K true) (fun X o => by have := op_notIn_seq (X := X); rw [o.K] at this; exact this) (od_notin h hi hf) ha hb hm
theorem dt_in (h : da.flat = true) (hi : db.items = some ds) (hf : ds.all DV.flat = true) (ha : DE g l a ρ da) (hb : DE g l b ρ db) (hm : behindInMarks .In b = false := by rfl) : DT g l (.Compare a [.In] [b] pos) ρ (inD da ds) := dt_cmp (r := rIn g.K false) (fun X o => by have := op_in_seq (X := X); rw [o.K] at this; exact this) (od_is h hi hf) ha hb hm
theorem dt_notIn (h : da.flat = true) (hi : db.items = some ds) (hf : ds.all DV.flat = true) (ha : DE g l a ρ da) (hb : DE g l b ρ db) (hm : behindInMarks .NotIn b = false := by rfl) : DT g l (.Compare a [.NotIn] [b] pos) ρ (!inD da ds) := dt_cmp (r := rIn g.K true) (fun X o => by have := op_notIn_seq (X := X); rw [o.K] at this; exact this) (od_notin h hi hf) ha hb hm
/-- a ≤ b < c -/
theorem de_leLt {i j k : Int} (ha : DE g l a ρ (.int i)) (hb : DE g l b ρ (.int j)) (hc : DE g l c ρ (.int k)) (hm : lastMarks [.LtE, .Lt] [b, c] = false := by with_unfolding_all rfl) : DE g l (.Compare a [.LtE, .Lt] [b, c] pos) ρ (.bl (decide (i ≤ j) && decide (j < k))) :=
  de_chain (fun X o => op_le) (fun X o => op_lt) (od_I0 fun S => .bl _) (fun _ => od_I0 fun S => .bl _) ha hb (fun _ => hc) hm
theorem de_leLe {i j k : Int} (ha : DE g l a ρ (.int i)) (hb : DE g l b ρ (.int j)) (hc : DE g l c ρ (.int k)) (hm : lastMarks [.LtE, .LtE] [b, c] = false := by with_unfolding_all rfl) : DE g l (.Compare a [.LtE, .LtE] [b, c] pos) ρ (.bl (decide (i ≤ j) && decide (j ≤ k))) :=
  de_chain (fun X o => op_le) (fun X o => op_le) (od_I0 fun S => .bl _) (fun _ => od_I0 fun S => .bl _) ha hb (fun _ => hc) hm
theorem dt_leLe {i j k : Int} (ha : DE g l a ρ (.int i)) (hb : DE g l b ρ (.int j)) (hc : DE g l c ρ (.int k)) (hm : lastMarks [.LtE, .LtE] [b, c] = false := by with_unfolding_all rfl) : DT g l (.Compare a [.LtE, .LtE] [b, c] pos) ρ (decide (i ≤ j) && decide (j ≤ k)) :=
  dt_chain (fun X o => op_le) (fun X o => op_le) (od_I0 fun S => .bl _) (fun _ => od_I0 fun S => .bl _) ha hb (fun _ => hc) hm
end
end PD

/-! enumerate over a tuple. -/
namespace PDT
open PySem PyProof.Rows
open Builtin
open AutoSeq1 (wpAny_loadPart')
theorem tup_isT {h : Heap} {a : Addr} {items : Array Value} (x : IsTup h a items) : h.IsTuple a items := let ⟨o, ho, hc, n, hd⟩ := x; ⟨o, ho, hc, n, hd⟩
section
variable {prog : Program} {w : World} {A : Around} {E : Value → Shared → Prop} {s : Shared}
theorem nx_item {I T : Addr} {i : Nat} {vs : Array Value} {x : Value} {Q : Value → Shared → Prop} (hI : IsTupIter s.heap I T i) (hT : IsTup s.heap T vs) (hx : vs[i]? = some x)
    (hQ : ∀ h', IsTupIter h' I T (i + 1) → Heap.SameBut I s.heap h' → Q x { s with heap := h' }) : wpAny (model prog w) A (Builtin.SmallTypes.nextOf (.ref I)) Q E s := by
  obtain ⟨oI, eI, cI, dI⟩ := id hI; obtain ⟨oT, eT, _, nT, dT⟩ := hT
  unfold Builtin.SmallTypes.nextOf
  refine wpAny_bind (wpAny_callSpecial?_slot (name := Str.ofString "__next__") hI.typeIs slot_tupleiter_next (wpAny_call_entry slot_tupleiter_next hI.typeIs entry_tupleiter_next ?_ (args_tupleiter_next _)))
  show wpAny _ _ (field (.ref I) 0 >>= _) _ _ s
  refine wpAny_bind (wpAny_field eI dI (x := .ref T) rfl ?_)
  show wpAny _ _ (if (Value.ref T == Value.none) = true then _ else _) _ _ s
  rw [if_neg (show ¬ ((Value.ref T == Value.none) = true) from Bool.false_ne_true)]
  show wpAny _ _ (field (.ref I) 1 >>= _) _ _ s
  refine wpAny_bind (wpAny_field eI dI (x := .int i 0) rfl ?_)
  show wpAny _ _ (seqItems? (.ref T) >>= _) _ _ s
  refine wpAny_bind (wpAny_seqItems eT dT ?_)
  simp only [Int.toNat_natCast, hx]
  refine wpAny_bind (wpAny_setField eI dI (by simp) (wpAny_pure ⟨x, rfl, wpAny_pure (hQ _ ⟨_, Heap.get?_update_self _ eI (Obj.isFreed_of_fields (Obj.data_mapFields dI _)), (Obj.cls_mapFields ..).trans cI, ?_⟩ (Heap.SameBut.update ..))⟩))
  rw [Obj.data_mapFields dI] <;> simp [rawInt]
theorem nx_end {I T : Addr} {i : Nat} {vs : Array Value} {Q : Value → Shared → Prop} (hh : A.handled = none) (hI : IsTupIter s.heap I T i) (hT : IsTup s.heap T vs) (hx : vs[i]? = none)
    (hE : ∀ h' e, Heap.ExtBut I s.heap h' → (∃ o, h'.get? e = some o ∧ o.cls = .type "StopIteration") → E (.ref e) { s with heap := h' }) : wpAny (model prog w) A (Builtin.SmallTypes.nextOf (.ref I)) Q E s := by
  obtain ⟨oI, eI, cI, dI⟩ := id hI; obtain ⟨oT, eT, _, nT, dT⟩ := hT
  unfold Builtin.SmallTypes.nextOf
  refine wpAny_bind (wpAny_callSpecial?_slot (name := Str.ofString "__next__") hI.typeIs slot_tupleiter_next (wpAny_call_entry slot_tupleiter_next hI.typeIs entry_tupleiter_next ?_ (args_tupleiter_next _)))
  show wpAny _ _ (field (.ref I) 0 >>= _) _ _ s
  refine wpAny_bind (wpAny_field eI dI (x := .ref T) rfl ?_)
  show wpAny _ _ (if (Value.ref T == Value.none) = true then _ else _) _ _ s
  rw [if_neg (show ¬ ((Value.ref T == Value.none) = true) from Bool.false_ne_true)]
  show wpAny _ _ (field (.ref I) 1 >>= _) _ _ s
  refine wpAny_bind (wpAny_field eI dI (x := .int i 0) rfl ?_)
  show wpAny _ _ (seqItems? (.ref T) >>= _) _ _ s
  refine wpAny_bind (wpAny_seqItems eT dT ?_)
  simp only [Int.toNat_natCast, hx]
  refine wpAny_bind (wpAny_rule (wpAny_bind (wpAny_setField eI dI (by simp) ?_)))
  show wpAny _ _ (newExc (.type "StopIteration") [] >>= _) _ _ _
  refine wpAny_bind ?_; simp only [newExc, newTuple]; refine wpAny_bind (wpAny_newObj_type ?_ (by size_fits))
  refine wpAny_bind (m := firstArgMember _ _) (wpAny_of_eq (a := Value.none) (by first | rfl | (simp only [firstArgMember]; rfl)) ?_); refine wpAny_newObj_type ?_ (by size_fits)
  simp only [raiseNew]; refine wpAny_bind (wpAny_handled ?_)
  first | rw [show A.in1.handled = none from hh] | rw [hh]
  refine wpAny_bind (wpAny_pure (wpAny_throw (hE _ _ (((Heap.SameBut.update ..).extBut.push _).push _) ⟨_, Heap.get?_push_size _ rfl, rfl⟩)))
end
theorem draws_tup {prog : Program} {w : World} {A : Around} (hh : A.handled = none) (I T : Addr) (hne : T ≠ I) (vs : Array Value) :
    Draws prog w A I [I, T] vs.size (fun i v => vs[i]? = some v) (fun i h => IsTupIter h I T i ∧ IsTup h T vs) where
  live := fun _ _ st => let ⟨o, ho, _⟩ := st.1; ⟨o, ho⟩
  frame := fun _ _ _ st hk => ⟨let ⟨o, ho, r⟩ := st.1; ⟨o, hk I (by simp) o ho, r⟩, let ⟨o, ho, r⟩ := st.2; ⟨o, hk T (by simp) o ho, r⟩⟩
  item := fun i s Q E hi st hQ => nx_item st.1 st.2 (x := vs[i]) (by simp [hi]) fun h' hit' hs' => hQ _ h' s.toks (by simp [hi]) ⟨hit', st.2.extBut hs'.extBut hne⟩ hs'
  done := fun s Q E st hE => nx_end hh st.1 st.2 (by simp) hE
theorem newT (T : Addr) (vs : Array Value) (n : Nat) (dct : Option Addr) (sl : Array (Option Value)) :
    Meets (Builtin.«enumerate.__new__» ⟨[.type "enumerate", .ref T], []⟩) (fun _ R s => s.heap.get? T = some { cls := .type "tuple", dict := dct, data := .seq vs n, slots := sl } ∧
      R (.ok (.ret (.ref (s.heap.push { cls := .type "tuple_iterator", data := .fields #[.ref T, .int 0 0] }).objs.size)))
        { s with heap := (s.heap.push { cls := .type "tuple_iterator", data := .fields #[.ref T, .int 0 0] }).push { cls := .type "enumerate", data := .fields #[.none, .bool false, .ref s.heap.objs.size, rawInt 0, .none, .none] } }) :=
  .of_wp fun prog w A R s h => by
    obtain ⟨hp, g, d, tk, os⟩ := s; obtain ⟨eT, h⟩ := h
    have hsub := sub_enumerate
    have hL : IsTup (Shared.heap ⟨hp, g, d, tk, os⟩) T vs := ⟨_, eT, rfl, n, rfl⟩
    wp_walk using wpAny_loadPart' eT
    refine wpAny_stack_any fun st => wpAny_pure ?_
    split
    · rename_i c _ _ _ _ _
      cases (c == Value.type "enumerate")
      · (wp_walk using wpAny_loadPart' eT, iter_tuple hL); exact ⟨_, rfl, h⟩
      · (wp_walk using wpAny_loadPart' eT, iter_tuple hL); exact ⟨_, rfl, h⟩
    · (wp_walk using wpAny_loadPart' eT, iter_tuple hL); exact ⟨_, rfl, h⟩
theorem call_T {prog : Program} {w : World} {A : Around} {E : Value → Shared → Prop} {s : Shared} {T : Addr} {vs : Array Value} {Q : Value → Shared → Prop} (hT : IsTup s.heap T vs)
    (h : ∀ h', IsEnum h' (s.heap.objs.size + 1) s.heap.objs.size 0 .none → IsTupIter h' s.heap.objs.size T 0 → h'.objs.size = s.heap.objs.size + 2 → (∀ b o, s.heap.get? b = some o → h'.get? b = some o) → Q (.ref (s.heap.objs.size + 1)) { s with heap := h' }) :
    wpAny (model prog w) A (call (.type "enumerate") [.ref T]) Q E s := by
  obtain ⟨⟨c, dct, dt, sl⟩, eT, cT, n, dT⟩ := hT
  have cT' : c = .type "tuple" := cT
  have dT' : dt = .seq vs n := dT
  subst cT' dT'
  refine callType_new F.called_enumerate (by decide) (F.typeCall_enumerate_1 _) (F.newCall_enumerate_1 _) (fun obj => F.args_object_init_2 obj _) F.entry_enumerate_new (newT T vs n dct sl) ⟨eT, ?_⟩
  have z1 : (s.heap.push { cls := .type "tuple_iterator", data := .fields #[.ref T, .int 0 0] }).objs.size = s.heap.objs.size + 1 := Heap.size_push ..
  show _ ∧ _
  rw [z1]
  have he : IsEnum ((s.heap.push { cls := .type "tuple_iterator", data := .fields #[.ref T, .int 0 0] }).push { cls := .type "enumerate", data := .fields #[.none, .bool false, .ref s.heap.objs.size, rawInt 0, .none, .none] }) (s.heap.objs.size + 1) s.heap.objs.size 0 .none := by
    have q := Heap.get?_push_size (s.heap.push { cls := .type "tuple_iterator", data := .fields #[.ref T, .int 0 0] }) (o := { cls := .type "enumerate", data := .fields #[.none, .bool false, .ref s.heap.objs.size, rawInt 0, .none, .none] }) rfl
    rw [z1] at q
    exact q
  exact ⟨⟨_, he, rfl⟩, h _ he ⟨_, Heap.get?_push_of_some _ (Heap.get?_push_size _ rfl), rfl, rfl⟩ (by rw [Heap.size_push, z1]) fun b o x => Heap.get?_push_of_some _ (Heap.get?_push_of_some _ x)⟩
end PDT
namespace PD
open PySem PySem.Spec PyProof.Rows L2
/-- the tuple at a, its items numbered, in new pairs -/
def Iet (K : PySem.W.Frag) (a : Addr) : It :=
  ⟨fun i H => ∃ (xs : List V) (x : V), SqT K H a xs ∧ xs[i]? = some x, fun i H v H' => ∃ T x, v = .ref T ∧ H T = none ∧ H' = upd H T (.tup [.int (i : Nat), x]) ∧ ∀ xs, SqT K H a xs → xs[i]? = some x, fun i H => ∃ xs : List V, SqT K H a xs ∧ xs.length ≤ i⟩
theorem turn_et {P : Program} {w : World} {K : PySem.W.Frag} {elts : List Expr} {kk : Nat} {tpos : Pos} (a e it : Addr) :
    Turn P w K (.Tuple elts kk tpos) (Iet K a) [e, it] e (fun i h => (∃ old, IsEnum h e it ((i : Nat) : Int) old) ∧ IsTupIter h it a i ∧ e ≠ it ∧ a ≠ it ∧ a ≠ e) where
  mem := by simp
  obj := fun i h st b hb => by
    obtain ⟨⟨old, he⟩, ⟨o, ho, hc, hd⟩, _⟩ := st
    have q : b = e ∨ b = it := by simpa using hb
    rcases q with rfl | rfl
    · exact ⟨_, he, fun v q => nomatch q⟩
    · exact ⟨o, ho, fun v q => by rw [hd] at q; cases q⟩
  keep := fun i h h' st k => let ⟨⟨old, he⟩, ⟨o, ho, r⟩, hne⟩ := st; ⟨⟨old, k e (by simp) _ he⟩, ⟨o, k it (by simp) o ho, r⟩, hne⟩
  item := by
    rintro X rfl rfl rfl hc i pins s σ H E I hf ⟨⟨old, he⟩, hit, hne, hai, hae⟩ ⟨xs, x, hq, hx⟩
    obtain ⟨its, rv, p, hz⟩ := I.tuple hq
    obtain ⟨u, hu, ru⟩ := rv.get hx
    have D := PDT.draws_tup (prog := X.prog) (w := X.w) (A := X.A.in1) (I.ok.hd hc) it a hai its.toArray
    have hlt : i < its.toArray.size := by
      rw [List.size_toArray]
      exact (List.getElem?_eq_some_iff.mp hu).1
    refine wpAny_pyNext_enum_itemD D he ⟨hit, p⟩ hlt hne (by simp [hne, hae.symm]) fun y h' tk hy ho hs' hT hsz hk => ?_
    have ey : y = u := by
      rw [List.getElem?_toArray, hu] at hy
      exact (Option.some.inj hy).symm
    subst ey
    have hel : e < s.heap.objs.size := Heap.lt_size he
    have hil : it < s.heap.objs.size := by obtain ⟨_, q, _⟩ := hit; exact Heap.lt_size q
    refine ⟨_, rfl, wpAny_letOwnedTupleGo_enum (s := { s with heap := h', toks := tk + 1 }) ho fun h'' he' sb => ?_⟩
    have hT2 : h''.get? s.heap.objs.size = some { cls := .type "tuple", data := .seq #[.int i tk, y] } := (sb.2 _ (Nat.ne_of_gt hel)).trans hT
    have nw : ObjOk X.prog X.w (upd H s.heap.objs.size (.tup [.int (i : Nat), x])) h'' s.heap.objs.size (.tup [.int (i : Nat), x]) := ⟨by show 2 ≤ sizeLine; decide, [.int i tk, y], .cons ⟨_, rfl⟩ (.cons ru .nil), ⟨_, hT2, rfl, _, rfl⟩⟩
    have I1 : Inv X pins σ (upd H s.heap.objs.size (.tup [.int (i : Nat), x])) { s with heap := h'', toks := tk + 1 } := I.turnedNew (ch := [e, it]) (fun b ob hb q => (sb.2 b (fun z => hb (by simp [z]))).trans (hk b ob (fun z => hb (by simp [z])) (fun z => hb (by simp [z])) q)) hf (Nat.le_refl _) nw
    refine ⟨.ref s.heap.objs.size, _, I1, rfl, ⟨_, x, rfl, I.hok.fresh (Nat.le_refl _), rfl, fun ys hy => by rw [I.tuple_inj hy hq]; exact hx⟩, ⟨⟨y, ?_⟩, ?_, hne, hai, hae⟩, fun b hb => ?_⟩
    · rw [show ((i + 1 : Nat) : Int) = (i : Int) + 1 by omega]; exact he'
    · obtain ⟨o, q, r⟩ := hs'.1
      exact ⟨o, (sb.2 it (Ne.symm hne)).trans q, r⟩
    · have hb' : b < s.heap.objs.size := by
        have q : b = e ∨ b = it := by simpa using hb
        rcases q with rfl | rfl
        · exact hel
        · exact hil
      rw [upd_ne (Nat.ne_of_lt hb')]; exact (hf b hb).1
  done := by
    rintro X rfl rfl rfl hc i pins s σ H E I hf ⟨⟨old, he⟩, hit, hne, hai, hae⟩ ⟨xs, hq, hx⟩
    obtain ⟨its, rv, p, hz⟩ := I.tuple hq
    obtain ⟨f0, f1, f2, f3, f4, f5⟩ := hf it (by simp)
    have hl := rv.length
    unfold pyNext
    have hT : s.TypeIs (.ref e) "enumerate" := ⟨_, he, rfl⟩
    refine wpAny_bind (wpAny_attempt (wpAny_callSpecial?_slot (name := Str.ofString "__next__") hT F.slot_enumerate_next (wpAny_call_entry F.slot_enumerate_next hT F.entry_enumerate_next ?_ (F.args_enumerate_next_1 _))))
    show wpAny _ _ (field (.ref e) 2 >>= _) _ _ _
    refine wpAny_bind (wpAny_field he rfl (x := .ref it) rfl ?_)
    refine wpAny_bind (PDT.nx_end (I.ok.hd hc) hit p (by simp; omega) fun h' x he' ⟨o, ho, hc'⟩ => ?_)
    exact wpAny_bind (wpAny_isInstance (T := "StopIteration") (b := true) ⟨o, ho, hc'⟩ isSubtype_stop (wpAny_pure ⟨rfl, I.turned (t' := s.toks) (fun b o hb q => he' b o hb q) f0 f1 f3 f4 f5⟩))
  self := fun A i s Q E st h => let ⟨⟨_, he⟩, _⟩ := st; wpAny_pyIter_enum he h
def iEt (K : PySem.W.Frag) (ta : TA) : TI := fun σ H R => ta σ H fun vs H1 => ∃ a xs, vs = [.ref a] ∧ SqT K H1 a xs ∧ R (Iet K a) H1
theorem pi_et {X : Cx} {e : Expr} {ta : TA} {p pos tpos : Pos} {elts : List Expr} {kk : Nat} (hg : Gl X "enumerate") (hm : X.mg "enumerate" = none) (ha : PA X [e] ta) (hs : starEach [e] X.env = [(false, eval e X.env)]) :
    PI X (.Tuple elts kk tpos) (.Call (.Name "enumerate" p) [e] [] pos) (iEt X.K ta) := by
  refine ⟨fun pins s σ H R I h => Call_ (ld_blt I hg hm boot_enumerate (PyProof.Rows.callWith_type1 (thn (ha.run pos pins s σ H _ I h) fun us s1 ⟨vs, H1, I1, r1, q1⟩ => ?_) hs rfl))⟩
  obtain ⟨a, xs, rfl, hq, q⟩ := q1
  cases r1 with
  | cons r rr =>
    cases rr; cases r
    obtain ⟨its, rv, p', hz⟩ := I1.tuple hq
    have hal := p'.lt
    refine PDT.call_T p' fun h' he hit hsz hk => wpAny_pyIter_enum he ?_
    have I2 : Inv X pins σ H1 { s1 with heap := h' } := I1.kept (t' := s1.toks) hk
    refine ⟨s1.heap.objs.size + 1, [s1.heap.objs.size + 1, s1.heap.objs.size], _, _, H1, rfl, I2, turn_et a (s1.heap.objs.size + 1) s1.heap.objs.size, ⟨⟨.none, he⟩, hit, Nat.succ_ne_self _, Nat.ne_of_lt hal, Nat.ne_of_lt (Nat.lt_succ_of_lt hal)⟩, fun b hb => ?_, q⟩
    have hle : s1.heap.objs.size ≤ b := by
      have z : b = s1.heap.objs.size + 1 ∨ b = s1.heap.objs.size := by simpa using hb
      rcases z with z | z
      · exact z ▸ Nat.le_succ _
      · exact z ▸ Nat.le_refl _
    exact I1.fpOk hle (I1.hok.fresh hle)
section
variable {K : PySem.W.Frag} {ρ : Rho} {te : TE}
theorem wk_et {S : Hp} {a : Addr} {xs : List V} {ds : List DV} (h : SqT K S a xs) (r : RpA K S xs ds) : WkD K (Iet K a) S (enumD ds) where
  stop := fun H e => ⟨xs, ex_t e h, by rw [enumD_len, r.len]; exact Nat.le_refl _⟩
  go := fun i H e hi => ⟨xs, xs[i]'(by rw [enumD_len] at hi; rw [r.len]; exact hi), ex_t e h, List.getElem?_eq_getElem _⟩
  yld := fun i H x H' y d hd S1 e e1 => by
    obtain ⟨T, x, rfl, nT, rfl, f⟩ := y
    have hi : i < ds.length := by
      have z := (List.getElem?_eq_some_iff.mp hd).1
      rwa [enumD_len] at z
    have hx := f xs (ex_t (e.tr e1) h)
    have rx := (r.getV hx (List.getElem?_eq_getElem hi)).up e
    rw [enumD_get (List.getElem?_eq_getElem hi) hd]
    exact ⟨_, Go.up e1 nT, .tup (.inl (.inl upd_same)) (.cons (.int _) (.cons (rx.up (Ex.new (e1.free nT))) .nil))⟩
theorem iv_et {ds : List DV} (h : EvD K te ρ (.tup ds)) : IvD K (iEt K (tCons te tNil)) ρ (enumD ds) := fun H0 σ S H e n R q =>
  h H0 σ S H e n _ fun v S1 H1 g1 r1 => by
    cases r1 with
    | tup s a => exact ⟨_, _, rfl, ex_t g1.sub s, q _ S1 H1 g1 (wk_et s a)⟩
end
theorem di_enumT {g : Gb} {l : Lc} {ρ : Rho} {e : Expr} {pos : Pos} {ds : List DV} {elts : List Expr} {kk : Nat} {tpos p : Pos} (hm : g.mg "enumerate" = none) (h : DE g l e ρ (.tup ds)) (hg : GlN l "enumerate" := by rfl) (hs : ∀ env, starEach [e] env = [(false, eval e env)] := by intro _; rfl) :
    DI g l (.Tuple elts kk tpos) (.Call (.Name "enumerate" p) [e] [] pos) ρ (enumD ds) :=
  DI.by (iEt g.K (tCons (UE g l e) tNil)) (fun X o => by have := pi_et (X := X) (elts := elts) (kk := kk) (tpos := tpos) (p := p) (pos := pos) (o.gl hg) (by rw [o.mg]; exact hm) (pa_cons (UE.pe o e) pa_nil (by rw [hs]; rfl)) (hs _); rw [o.K] at this; exact this) (iv_et h)
end PD

/-! Data: join, list(text), text[::-1], isinstance with two types. -/
namespace PD
open PySem PySem.Spec PyProof.Rows L2
/-! list(text) -/
def rListS : List V → Hp → VK → Prop := fun xs H Q => ∃ z : Str, xs = [.str z] ∧ z.length ≤ sizeLine ∧ ∀ p, H p = none → Q (.ref p) (upd H p (.lst (z.cps.toList.map fun c => .str ⟨#[c]⟩)))
theorem call_listS {X : Cx} (hc : X.calm = true) : CallR X (.type "list") rListS := by
  rintro pins s σ H _ us Q I r ⟨z, rfl, hz, q⟩
  obtain ⟨u, rfl, t, rfl⟩ := vals1 r
  refine call_list_str (I.ok.hd hc) z t (hn := hz) fun h' tk acc c' hk hS hacc => ?_
  have hv : Vals (z.cps.toList.map fun c => V.str ⟨#[c]⟩) acc.toList := by
    obtain ⟨hl, ha⟩ := hacc
    have go : ∀ (cs : List Nat) (vs : List Value), vs.length = cs.length → (∀ (j : Nat) v, vs[j]? = some v → ∃ c u, cs[j]? = some c ∧ v = Value.str ⟨#[c]⟩ u) → Vals (cs.map fun c => V.str ⟨#[c]⟩) vs := by
      intro cs
      induction cs with
      | nil => intro vs e _; cases vs with
        | nil => exact .nil
        | cons _ _ => cases e
      | cons c cs ih => intro vs e f; cases vs with
        | nil => cases e
        | cons v vs =>
          obtain ⟨d, u, hd, rfl⟩ := f 0 v rfl
          cases hd
          exact .cons ⟨u, rfl⟩ (ih vs (by simpa using e) fun j w hw => f (j + 1) w hw)
    refine go _ _ (by simpa using hl) fun j v hv => ?_
    obtain ⟨c, u, hc', e⟩ := ha j v (by simpa using hv)
    exact ⟨c, u, by simpa using hc', e⟩
  exact ⟨.ref s.heap.objs.size, _, I.laid (t' := tk) (fun b ob e => hk b ob e) (Nat.le_refl _) (show ObjOk X.prog X.w _ h' _ (.lst _) from ⟨by rw [List.length_map, Array.length_toList]; exact hz, acc.toList, c', hv, by simpa using hS⟩), rfl, q _ (I.hok.fresh (Nat.le_refl _))⟩
section
variable {K : PySem.W.Frag}
theorem rpa_signs {S : Hp} (cs : List Nat) : RpA K S (cs.map fun c => V.str ⟨#[c]⟩) (cs.map fun c => DV.str ⟨#[c]⟩) := by
  induction cs with
  | nil => exact .nil
  | cons c cs ih => exact .cons (.str _) ih
theorem cd_listS {z : Str} (hz : z.length ≤ 100000) : CaD K rListS [.str z] (.lst (signD z)) := fun S H xs e r0 Q q => by
  obtain ⟨v, rfl, r⟩ := one r0
  cases r
  exact ⟨z, rfl, sz5 hz, fun p hp => q _ _ _ (Go.up e hp) (.lst (.inl upd_same) (rpa_signs _))⟩
end
section
variable {g : Gb} {l : Lc} {ρ : Rho} {e a : Expr} {pos : Pos} {ds : List DV} {d da : DV}
theorem de_listS {p : Pos} {z : Str} (hm : g.mg "list" = none) (hz : z.length ≤ 100000) (h : DE g l e ρ (.str z)) (hg : GlN l "list" := by rfl) (hs : ∀ env, starEach [e] env = [(false, eval e env)] := by intro _; rfl) : DE g l (.Call (.Name "list" p) [e] [] pos) ρ (.lst (signD z)) :=
  de_ct (r := rListS) (fun X o => call_listS o.calm) hm (by decide +kernel) (cd_listS hz) (da_cons h da_nil (by intro env; rw [hs env]; rfl)) hg (by decide) (by decide) (by intro env; rw [hs env]; rfl) (by intro env; rfl)
/-! sep.join(list of texts) -/
def rJoinX (K : PySem.W.Frag) : V → List V → Hp → VK → Prop := fun x xs H Q => ∃ a p, ∃ ys : List Str, x = .str a ∧ xs = [.ref p] ∧ (SqL K H p (ys.map V.str) ∨ SqT K H p (ys.map V.str)) ∧ (ys.map (·.length)).sum + ys.length * a.length ≤ 16777216 ∧ Q (.str (Txt.join a ys)) H
theorem ev_join {K : PySem.W.Frag} {to te : TE} {sep : Str} {ys : List Str} (h1 : EvD K to ρ (.str sep)) (h2 : EvD K te ρ da) (hi : da.items = some (ys.map DV.str)) (hz : (ys.map (·.length)).sum + ys.length * sep.length ≤ 16777216) : EvD K (tM1 (rJoinX K) to te) ρ (.str (Txt.join sep ys)) := fun H0 σ S H ex n Q q =>
  h1 H0 σ S H ex n _ fun x S1 H1 g1 r1 => by
    cases r1
    refine ⟨⟨sep, rfl⟩, h2 H0 σ S1 H1 g1.sub (n.go g1) _ fun y S2 H2 g2 r2 => ?_⟩
    obtain ⟨p, xs, rfl, hs, ra⟩ := items_rp hi r2
    have z := strsD ra
    subst z
    exact ⟨sep, p, ys, rfl, rfl, sq_up g2.sub hs, hz, q _ S2 H2 (g1.tr g2) (.str _)⟩
theorem de_join {apos : Pos} {sep : Str} {ys : List Str} (h1 : DE g l a ρ (.str sep)) (h2 : DE g l e ρ da) (hi : da.items = some (ys.map DV.str)) (hz : (ys.map (·.length)).sum + ys.length * sep.length ≤ 16777216) (hs : ∀ env, starEach [e] env = [(false, eval e env)] := by intro _; rfl)
    (hbase : ∀ env, attributeBase a ("join" : Str) env (eval a env) = eval a env := by intro _; rfl) (hline : (apos.endLine == pos.line) = true := by rfl) : DE g l (.Call (.Attribute a "join" apos) [e] [] pos) ρ (.str (Txt.join sep ys)) :=
  DE.by (tM1 (rJoinX g.K) (UE g l a) (UE g l e)) (fun X o => by have := pe_join (X := X) (apos := apos) (pos := pos) (UE.pe o a) (UE.pe o e) (hs _) (hbase _) hline; rw [o.K] at this; exact this) (ev_join h1 h2 hi hz)
/-! text[::-1] -/
def revS (z : Str) : Str := Txt.sliceBy z none none (-1, 0)
theorem revS_cps (z : Str) : (revS z).cps.toList = (List.range z.length).map fun i => z.cps.getD (z.length - 1 - i) 0 := step_rev_list z 0
theorem revS_len (z : Str) : (revS z).length = z.length := by
  have h := congrArg List.length (revS_cps z)
  rw [Array.length_toList, List.length_map, List.length_range] at h
  exact h
theorem revS_mem {z : Str} {c : Nat} (h : c ∈ (revS z).cps.toList) : c ∈ z.cps.toList := by
  rw [revS_cps, List.mem_map] at h
  obtain ⟨i, hi, rfl⟩ := h
  rw [List.mem_range] at hi
  have hl : z.length - 1 - i < z.cps.size := by
    have : z.length = z.cps.size := rfl
    omega
  rw [Array.getD_eq_getD_getElem?, Array.getElem?_eq_getElem hl]
  exact Array.mem_toList_iff.mpr (Array.getElem_mem hl)
def tRevS (te : TE) : TE := fun σ H Q => te σ H fun x H1 => ∃ z : Str, x = .str z ∧ z.length ≤ sizeLine ∧ Q (.str (revS z)) H1
theorem pe_revS {X : Cx} {te : TE} {k : Nat} {p1 p2 p3 : Pos} (he : PE X e te) : PE X (.Subscript e (.Slice none none (some (.UnaryOp .USub (.Constant (.int 1) k p1) p2)) p3) pos) (tRevS te) := by
  refine ⟨fun pins s σ H Q I h => Subscript_ (thn (he.run pins s σ H _ I h) fun v s1 ⟨x, H1, I1, r1, z, ex, hz, q⟩ => ?_)⟩
  subst ex; obtain ⟨tz, rfl⟩ := r1
  have hst : PO X (some (.UnaryOp .USub (.Constant (.int 1) k p1) p2)) (tPart (tUn (rU fun i => .int (-i)) (tC (.int 1)))) := po_some (pe_un un_neg pe_int)
  refine wpAny_Slice (thn (po_none.run pins s1 σ H1 (fun o H2 => o = none ∧ H2 = H1) I1 ⟨rfl, rfl⟩) fun vl s2 ⟨lo, H2, I2, pl, e1, e2⟩ => ?_); subst e1 e2
  refine thn (po_none.run pins s2 σ H2 (fun o H3 => o = none ∧ H3 = H2) I2 ⟨rfl, rfl⟩) fun vu s3 ⟨up, H3, I3, pu, e1, e2⟩ => ?_; subst e1 e2
  refine thn (hst.run pins s3 σ H3 (fun o H4 => o = some (-1) ∧ H4 = H3) I3 ⟨1, rfl, -1, rfl, rfl, rfl⟩) fun vs s4 ⟨o, H4, I4, ps, e1, e2⟩ => ?_; subst e1 e2
  have I5 : Inv X pins σ H4 { s4 with heap := s4.heap.push { cls := .type "slice", data := .fields #[vl, vu, vs] } } := I4.kept (t' := s4.toks) fun b ob w => Heap.get?_push_of_some _ w
  obtain ⟨l1, rfl, e1⟩ := IsPart.raw pl; obtain ⟨u1, rfl, e2⟩ := IsPart.raw pu; obtain ⟨w1, rfl, e3⟩ := IsPart.raw ps
  cases l1 with
  | some _ => cases e1
  | none => cases u1 with
    | some _ => cases e2
    | none => cases w1 with
      | none => cases e3
      | some w1 =>
        obtain ⟨i1, t1⟩ := w1
        have hi : i1 = -1 := Option.some.inj (show some i1 = some (-1 : Int) from e3)
        subst hi
        show wpAny (model X.prog X.w) X.A (subscriptTail e (.Slice none none (some (.UnaryOp .USub (.Constant (.int 1) k p1) p2)) p3) (.str z tz) (.ref s4.heap.objs.size)) (EP X pins σ Q) X.xe { s4 with heap := s4.heap.push _ }
        refine tail_any (ops := [.str z tz, .ref s4.heap.objs.size]) (typeIs_str _ _ _) F.slot_str_getitem.lookup ?_ (by with_unfolding_all rfl)
        refine wpAny_getItem_str_slice (l := none) (u := none) (st := some (-1, t1)) ⟨_, Heap.get?_push_size _ rfl, rfl, rfl⟩ rfl ?_
        have hn : ¬ (((some ((-1 : Int), t1)).map (·.1)).getD 1 == 1 && (PySem.slicePicked z none none (some (-1, t1))).length == z.length) = true := by
          intro w
          rw [Bool.and_eq_true] at w
          exact absurd (show ((-1 : Int) == 1) = true from w.1) (by decide)
        have er : ((PySem.slicePicked z none none (some (-1, t1))).filterMap (z.cps[·]?)).toArray = (revS z).cps := by
          have r1 := step_rev_list z t1
          unfold Txt.sliceBy at r1
          rw [if_neg hn] at r1
          have r2 := revS_cps z
          exact Array.toList_inj.mp (r1.trans r2.symm)
        unfold PySem.sliceMade
        rw [if_neg hn, er]
        exact ⟨by rw [show (⟨(revS z).cps⟩ : Str).length = (revS z).length from rfl, revS_len]; exact hz, .str _, H4, I5.tok _, ⟨_, rfl⟩, q⟩
theorem de_revS {k : Nat} {p1 p2 p3 : Pos} {z : Str} (hz : z.length ≤ 100000) (h : DE g l e ρ (.str z)) : DE g l (.Subscript e (.Slice none none (some (.UnaryOp .USub (.Constant (.int 1) k p1) p2)) p3) pos) ρ (.str (revS z)) :=
  DE.by (tRevS (UE g l e)) (fun X o => pe_revS (UE.pe o e)) fun H0 σ S H ex n Q q => h H0 σ S H ex n _ fun v S1 H1 g1 r1 => by
    cases r1
    exact ⟨z, rfl, sz5 hz, q _ S1 H1 g1 (.str _)⟩
/-! isinstance(x, (list, tuple)) -/
theorem de_isLT {p p2 p3 p4 : Pos} {k : Nat} (B : Bt g) (ho : d.isObj = false) (h : DE g l e ρ d) (hg : GlN l "isinstance" := by rfl) (hgL : GlN l "list" := by rfl) (hgT : GlN l "tuple" := by rfl)
    (hs : ∀ env, starEach (e :: [.Tuple [.Name "list" p2, .Name "tuple" p3] k p4]) env = (false, eval e env) :: starEach [.Tuple [.Name "list" p2, .Name "tuple" p3] k p4] env := by intro _; rfl) :
    DE g l (.Call (.Name "isinstance" p) (e :: [.Tuple [.Name "list" p2, .Name "tuple" p3] k p4]) [] pos) ρ (.bl (d.isLst || d.isTup)) :=
  DE.by (tCB (rIsiT g.K) (tCons (UE g l e) (tCons (tTup (tCons (tC (.ty "list")) (tCons (tC (.ty "tuple")) tNil))) tNil))) (fun X o => by
    have := call_isiT (X := X)
    rw [o.K] at this
    exact pe_callB this (o.gl hg) (by rw [o.mg]; exact B.isi) (by decide +kernel) (pa_cons (UE.pe o e) (pa_cons (pe_tup (pa_cons (pe_bltn (v := .ty "list") (o.gl hgL) (by rw [o.mg]; exact B.list) (by decide +kernel) rfl) (pa_cons (pe_bltn (v := .ty "tuple") (o.gl hgT) (by rw [o.mg]; exact B.tuple) (by decide +kernel) rfl) pa_nil))) pa_nil) (hs _)) (by decide) (by decide) (hs _) (by rfl))
    fun H0 σ S H ex n Q q => h H0 σ S H ex n _ fun v S1 H1 g1 r1 => ⟨by show 2 ≤ sizeLine; decide, fun tp hp => by
      obtain ⟨t, hk⟩ := kind_some ho
      refine ⟨v, tp, _, _, _, d.isLst || d.isTup, rfl, upd_same, .cons (.ty _) (.cons (.ty _) .nil), ty_of (g1.sub.tr (Ex.new hp)) hk r1, ?_, q _ _ _ (g1.tr (Go.side g1.sub (Ex.new hp))) (.bl _)⟩
      have nl : ∀ (t : Value), PySem.W.kitAny g.K t [] = some false := fun _ => rfl
      cases d <;> cases hk <;> first
        | exact kitAny_cons (b := true) (kit_ty (kb _ _ true)) (fun z => by cases z) (fun _ => rfl)
        | exact kitAny_cons (b := false) (kit_ty (kb _ _ false)) (fun _ => kitAny_cons (b := true) (kit_ty (kb _ _ true)) (fun z => by cases z) (fun _ => rfl)) (fun z => by cases z)
        | exact kitAny_cons (b := false) (kit_ty (kb _ _ false)) (fun _ => kitAny_cons (b := false) (kit_ty (kb _ _ false)) (fun _ => nl _) (fun z => by cases z)) (fun z => by cases z)
        | cases ho⟩
end
end PD

/-! Data: instances: attributes, properties, methods, len, ==, !=, isinstance, making. -/
namespace PD
open PySem PySem.Spec PyProof.Rows L2
section
variable {g : Gb} {l : Lc} {ρ : Rho} {e a b o : Expr} {es : List Expr} {pos : Pos} {ds : List DV} {d da db : DV} {C : Addr} {gs : List (Str × DV)} {n : Str}
theorem obj_rp {K : PySem.W.Frag} {S : Hp} {v : V} (r : Rp K S v (.obj C gs)) : ∃ a dx fs, v = .ref a ∧ S a = some (.ins C dx fs) ∧ RpF K S fs gs := by
  cases r with
  | obj h q => exact ⟨_, _, _, rfl, h, q⟩
/-- e.n, an attribute -/
theorem ev_fld {K : PySem.W.Frag} {te : TE} (c : Cls K C) (hn : NoAttr K C n) (h : EvD K te ρ (.obj C gs)) (hl : gs.lookup n = some d) : EvD K (tFld K te n) ρ d := fun H0 σ S H ex m Q q =>
  h H0 σ S H ex m _ fun v S1 H1 g1 r1 => by
    obtain ⟨p, dx, fs, rfl, hp, rf⟩ := obj_rp r1
    obtain ⟨u, hu, ru⟩ := rf.look hl
    exact ⟨p, C, dx, fs, u, rfl, g1.sub _ _ hp, c, hn, hu, q u S1 H1 g1 ru⟩
theorem de_fld (c : Cls g.K C) (hn : NoAttr g.K C n) (hl : gs.lookup n = some d) (h : DE g l e ρ (.obj C gs)) (hab : ∀ env, attributeBase e n env (eval e env) = eval e env := by intro _; rfl) : DE g l (.Attribute e n pos) ρ d :=
  DE.by (tFld g.K (UE g l e) n) (fun X o => by have := pe_fld (f := n) (pos := pos) (UE.pe o e) (hab _); rw [o.K] at this; exact this) (ev_fld c hn h hl)
/-- a def that is known, wherever it stands -/
structure Fd (g : Gb) (k : Nat) (f : Addr) (R : List DV → DV → Prop) : Prop where
  ex : ∃ fd ps, FnOk g.P g.w g.K g.mg g.base CX0 k f fd ps (spR g.K R) ∧ Binds g.K fd ps []
/-- e.n, a property -/
structure Pr (g : Gb) (k : Nat) (C : Addr) (n : Str) (R : List DV → DV → Prop) : Prop where
  ex : ∃ p f, PropOf g.K C n p f ∧ Fd g k f R
theorem ev_prop {K : PySem.W.Frag} {te : TE} {R : List DV → DV → Prop} (h : EvD K te ρ (.obj C gs)) (hR : R [.obj C gs] d) : EvD K (tProp C (spR K R) [] E0 te) ρ d := fun H0 σ S H ex m Q q =>
  h H0 σ S H ex m _ fun v S1 H1 g1 r1 => by
    obtain ⟨p, dx, fs, rfl, hp, rf⟩ := obj_rp r1
    exact ⟨p, dx, fs, rfl, g1.sub _ _ hp, S1, _, _, g1.sub, .cons (.obj hp rf) .nil, hR, fun v S2 H2 g2 r2 => q v S2 H2 (g1.tr g2) r2⟩
theorem de_prop {k : Nat} {R : List DV → DV → Prop} (c : Cls g.K C) (P : Pr g k C n R) (hR : R [.obj C gs] d) (h : DE g l e ρ (.obj C gs)) (hk : k + 1 ≤ l.k := by decide) (hab : ∀ env, attributeBase e n env (eval e env) = eval e env := by intro _; rfl) : DE g l (.Attribute e n pos) ρ d := by
  obtain ⟨p, f, hp, fd, ps, ok, hb⟩ := P.ex
  exact DE.by (tProp C (spR g.K R) [] E0 (UE g l e)) (fun X o => pe_prop (UE.pe o e) (by rw [o.K]; exact c) (by rw [o.K]; exact hp) (CX := CX0) (k := k) (by rw [o.prog, o.w, o.K, o.mg, o.base]; exact ok) (o.room.mono hk) (ds := []) (by rw [o.K]; exact hb) .nil pass0 (hab _)) (ev_prop h hR)
/-- e.n(), a method without arguments -/
structure Me (g : Gb) (k : Nat) (C : Addr) (n : Str) (R : List DV → DV → Prop) : Prop where
  ex : ∃ f, Meth g.K C n f ∧ Fd g k f R
theorem ev_meth {K : PySem.W.Frag} {te : TE} {ta : TA} {R : List DV → DV → Prop} (h : EvD K te ρ (.obj C gs)) (ha : EvA K ta ρ ds) (hno : gs.lookup n = none) (hR : R (.obj C gs :: ds) d) : EvD K (tMeth C n (spR K R) [] E0 te ta) ρ d := fun H0 σ S H ex m Q q =>
  h H0 σ S H ex m _ fun v S1 H1 g1 r1 => by
    obtain ⟨p, dx, fs, rfl, hp, rf⟩ := obj_rp r1
    refine ⟨p, dx, fs, rfl, g1.sub _ _ hp, rf.no hno, ha H0 σ S1 H1 g1.sub (m.go g1) _ fun vs S2 H2 g2 r2 => ?_⟩
    exact ⟨S2, _, _, g2.sub, by rw [List.append_nil]; exact .cons (.obj (g2.s _ _ hp) (rf.up g2.s)) r2, hR, fun v S3 H3 g3 r3 => q v S3 H3 ((g1.tr g2).tr g3) r3⟩
theorem de_meth0 {k : Nat} {apos : Pos} {R : List DV → DV → Prop} {pl : Env → Sem Bool} (c : Cls g.K C) (M : Me g k C n R) (hno : gs.lookup n = none) (hR : R [.obj C gs] d) (h : DE g l e ρ (.obj C gs)) (hk : k ≤ l.k := by decide)
    (ht : ∀ env, eval (.Call (.Attribute e n apos) [] [] pos) env = (do
      let ov ← eval e env; standAt apos.atName; let (f, first) ← holding [ov] (getMethod ov n (pl env)); callWith pos f first (backTo pos (starEach [] env)) (backToKw pos (keywordEach [] env))) := by intro _; rfl) : DE g l (.Call (.Attribute e n apos) [] [] pos) ρ d := by
  obtain ⟨f, hm, fd, ps, ok, hb⟩ := M.ex
  exact DE.by (tMeth C n (spR g.K R) [] E0 (UE g l e) tNil) (fun X o => pe_meth0 (pl := pl _) (CX := CX0) (k := k) (UE.pe o e) (by rw [o.K]; exact c) (by rw [o.K]; exact hm) (by rw [o.prog, o.w, o.K, o.mg, o.base]; exact ok) (o.room.mono hk) (ds := []) (by rw [o.K]; exact hb) .nil pass0 (ht _)) (ev_meth h ea_nil hno hR)
end
/-! isinstance(x, C), an own class -/
structure Kl (g : Gb) (C : Addr) (x : Str) : Prop where
  c : Cls g.K C
  ha : PySem.W.findIn g.K (.ref C) "__class__" = some (some (.builtin "object.__class__"))
  hn : PySem.W.specialIn g.K (.builtin "object.__class__") "__get__" = some (some (.builtin "getset_descriptor.__get__"))
  ht : PySem.W.takesIn g.K (.builtin "object.__class__") = some true
  hm : PySem.W.mroIn g.K C (.type "object") = some true
  mg : g.mg x = some (.ref C)
section
variable {g : Gb} {l : Lc} {ρ : Rho} {e a b o : Expr} {es : List Expr} {pos : Pos} {ds : List DV} {d da db : DV} {C : Addr} {gs hs : List (Str × DV)} {n : Str}
theorem de_isOwn {p p2 : Pos} (B : Bt g) (k : Kl g C n) (h : DE g l e ρ (.obj C gs)) (hg : GlN l "isinstance" := by rfl) (hgC : GlN l n := by rfl) (hdb : (n == ("__debug__" : Str)) = false := by decide)
    (hs : ∀ env, starEach (e :: [.Name n p2]) env = (false, eval e env) :: starEach [.Name n p2] env := by intro _; rfl) : DE g l (.Call (.Name "isinstance" p) (e :: [.Name n p2]) [] pos) ρ (.bl true) :=
  DE.by (tCB (rIsi g.K) (tCons (UE g l e) (tCons (tC (.ref C)) tNil))) (fun X o => by
    have := call_isi (X := X)
    rw [o.K] at this
    exact pe_callB this (o.gl hg) (by rw [o.mg]; exact B.isi) (by decide +kernel) (pa_cons (UE.pe o e) (pa_cons (pe_glob (v := .ref C) (o.gl hgC) (by rw [o.mg]; exact k.mg) rfl hdb) pa_nil) (hs _)) (by decide) (by decide) (hs _) (by rfl))
    fun H0 σ S H ex m Q q => h H0 σ S H ex m _ fun v S1 H1 g1 r1 => by
      obtain ⟨p, dx, fs, rfl, hp, rf⟩ := obj_rp r1
      refine ⟨.ref p, .ref C, _, _, true, rfl, .own C, .base (.ins (g1.sub _ _ hp) k.c k.ha k.hn k.ht k.hm), ?_, q _ S1 H1 g1 (.bl _)⟩
      unfold PySem.W.kitOne
      rw [if_pos (by simp)]
/-! a call from within a built-in -/
theorem run1 {X : Cx} {k : Nat} {f : Addr} {fd : FuncData} {ps : List Str} {sp : Sp} {pins : List (Addr × Obj)} {σ : L2.St} {H : Hp} {s : Shared} {Q : VK} {us : List Value} {vs : List V} {E : Value → Shared → Prop} (F : FnOk X.prog X.w X.K X.mg X.base CX0 k f fd ps sp) (hr : Room (k + 1) X.A) (hb : Binds X.K fd ps [])
    (I : Inv X pins σ H s) (r : Vals vs us) (h : sp vs H Q E0) : wpAny (model X.prog X.w) X.A.in1 (call (.ref f) us) (EP X pins σ Q) E s := by
  have hl : us.length = ps.length := by rw [← r.length]; exact F.len _ _ _ _ h
  have hb' := hb s us I.kIn (by rw [List.append_nil]; exact hl)
  rw [List.append_nil] at hb'
  refine wpAny_call (codeAny_mono (F.run X.A.in1 X.stack s H ⟨us, []⟩ us vs Q E0 hr.in1 I.env0.in1 hb' r h) fun r s' hq => ?_)
  cases r with
  | error er => exact hq.elim
  | ok fl => cases fl with
    | ret u => exact I.after hq
    | _ => exact hq.elim
/-- len(x) by an own __len__ -/
theorem call_lenO {X : Cx} {k : Nat} {f : Addr} {fd : FuncData} {ps : List Str} {sp : Sp} (F : FnOk X.prog X.w X.K X.mg X.base CX0 k f fd ps sp) (hr : Room (k + 1) X.A) (hb : Binds X.K fd ps []) (hm : Meth X.K C "__len__" f) :
    CallR X (.builtin "len") (fun xs H Q => ∃ p dx fs, xs = [.ref p] ∧ H p = some (.ins C dx fs) ∧ sp [.ref p] H (fun v H' => ∃ i : Int, v = .int i ∧ 0 ≤ i ∧ i < 2 ^ 63 ∧ Q (.int i) H') E0) := by
  rintro pins s σ H _ us Q I r ⟨p, dx, fs, rfl, hp, h⟩
  obtain ⟨u, rfl, hu⟩ := vals1 r
  cases hu
  obtain ⟨mA, J, _⟩ := ins_get I.hok hp
  obtain ⟨od, J, _⟩ := J.look
  obtain ⟨m, hF⟩ := I.fr
  refine PySem.W.len_K hF I.ok.mod.kin J hm.at_ hm.fn (wpAny_mono (run1 (vs := [.ref p]) (us := [.ref p]) F hr hb I (.cons rfl .nil) h) (fun v s' ⟨w, H', I', rw, i, e, h0, h1, q⟩ => ?_) fun _ _ z => z)
  subst e
  obtain ⟨t, rfl⟩ := rw
  exact ⟨⟨h0, h1⟩, .int i, H', I'.tok _, ⟨_, rfl⟩, q⟩
structure Lo (g : Gb) (k : Nat) (C : Addr) (R : List DV → DV → Prop) : Prop where
  ex : ∃ f, Meth g.K C "__len__" f ∧ Fd g k f R
theorem de_lenO {k : Nat} {p : Pos} {i : Nat} {R : List DV → DV → Prop} (B : Bt g) (M : Lo g k C R) (hR : R [.obj C gs] (.int i)) (hi : i ≤ 100000) (h : DE g l e ρ (.obj C gs)) (hk : k + 1 ≤ l.k := by decide) (hg : GlN l "len" := by rfl) (hs : ∀ env, starEach [e] env = [(false, eval e env)] := by intro _; rfl) : DE g l (.Call (.Name "len" p) [e] [] pos) ρ (.int i) := by
  obtain ⟨f, hm, fd, ps, ok, hb⟩ := M.ex
  refine DE.by (tCB (fun xs H Q => ∃ p dx fs, xs = [.ref p] ∧ H p = some (.ins C dx fs) ∧ (spR g.K R) [.ref p] H (fun v H' => ∃ i : Int, v = .int i ∧ 0 ≤ i ∧ i < 2 ^ 63 ∧ Q (.int i) H') E0) (tCons (UE g l e) tNil)) (fun X o => ?_) ?_
  · refine pe_callB (call_lenO (k := k) (fd := fd) (ps := ps) (by rw [o.prog, o.w, o.K, o.mg, o.base]; exact ok) (o.room.mono hk) (by rw [o.K]; exact hb) (by rw [o.K]; exact hm)) (o.gl hg) (by rw [o.mg]; exact B.len) boot_len (pa_cons (UE.pe o e) pa_nil (by rw [hs]; rfl)) (by decide) (by decide) (by rw [hs]; rfl) (by rfl)
  · exact fun H0 σ S H ex m Q q => h H0 σ S H ex m _ fun v S1 H1 g1 r1 => by
      obtain ⟨p, dx, fs, rfl, hp, rf⟩ := obj_rp r1
      refine ⟨p, dx, fs, rfl, g1.sub _ _ hp, S1, _, _, g1.sub, .cons (.obj hp rf) .nil, hR, fun v S2 H2 g2 r2 => ?_⟩
      cases r2
      exact ⟨(i : Int), rfl, by omega, by omega, q _ S2 H2 (g1.tr g2) (.int _)⟩
/-- x == y, x != y by an own __eq__ (and no own __ne__) -/
def rEqO (C : Addr) (sp : Sp) : R2 := fun x y H Q => ∃ p q dx dy fs hs, x = .ref p ∧ y = .ref q ∧ H p = some (.ins C dx fs) ∧ H q = some (.ins C dy hs) ∧ sp [.ref p, .ref q] H (fun v H' => ∃ b : Bool, v = .bl b ∧ Q (.bl b) H') E0
def rNeO (C : Addr) (sp : Sp) : R2 := fun x y H Q => ∃ p q dx dy fs hs, x = .ref p ∧ y = .ref q ∧ H p = some (.ins C dx fs) ∧ H q = some (.ins C dy hs) ∧ sp [.ref p, .ref q] H (fun v H' => ∃ b : Bool, v = .bl b ∧ Q (.bl (!b)) H') E0
theorem op_eqO {X : Cx} {k : Nat} {f : Addr} {fd : FuncData} {ps : List Str} {sp : Sp} (F : FnOk X.prog X.w X.K X.mg X.base CX0 k f fd ps sp) (hr : Room k X.A) (hb : Binds X.K fd ps []) (hm : Meth X.K C "__eq__" f) : OpR X (compareOp .Eq) (rEqO C sp) := by
  rintro pins s σ H _ _ v u Q I rx ry ⟨p, q, dx, dy, fs, hs, rfl, rfl, hp, hq, h⟩
  cases rx; cases ry
  obtain ⟨mA, J, _⟩ := ins_get I.hok hp
  obtain ⟨mB, J', _⟩ := ins_get I.hok hq
  obtain ⟨od, J, _⟩ := J.look
  obtain ⟨od', J', _⟩ := J'.look
  obtain ⟨m, hF⟩ := I.fr
  show wpAny _ _ (richCompare .Eq _ _) _ _ _
  refine PySem.W.cmp_K (op := .Eq) (tb := .ref C) hr.units0 hF I.ok.mod.kin J J'.type (by simp [PySem.W.notFirst]) hm.at_ hm.fn ?_
  refine wpAny_mono (run_fn (us := [.ref p, .ref q]) (vs := [.ref p, .ref q]) (ds := []) (dvs := []) F hr hb .nil pass0 I (.cons rfl (.cons rfl .nil)) h) (fun w s' ⟨z, H', I', rz, b, e, k⟩ => ?_) fun _ _ z => z
  subst e; cases rz
  exact ⟨.bl b, H', I', rfl, k⟩
open PySem.W in
theorem ne_own {prog : Program} {w : World} {A : Around} {E : Value → Shared → Prop} {s : Shared} {K : Frag} {x y C L f : Addr} {h₀ : Heap} {m : Str → Option Value} {ox oy : Obj} {od oe : Option Obj} {Q : Value → Shared → Prop} (hu : A.units + 1 < cLine) (Fr' : Fr h₀ L s.heap m) (X₀ : K.In h₀) (I : InstAt s.heap x ox C od) (J : InstAt s.heap y oy C oe)
    (hn : findIn K (.ref C) "__ne__" = some (some (.builtin "object.__ne__"))) (hs : findIn K (.ref C) "__eq__" = some (some (.ref f))) (hf : isFn K (.ref f) = true) (hsub : subIn K (.ref C) (.type "object") = some true)
    (h : wpAny (model prog w) A.in1 (call (.ref f) [.ref x, .ref y]) (fun v s' => ∃ b, v = .bool b ∧ Q (.bool (!b)) s') E s) : wpAny (model prog w) A (richCompare .NotEq (.ref x) (.ref y)) Q E s := by
  have X := X₀.keeps Fr'.keep
  have slot := F.cmp_object.ne
  have body : wpAny (model prog w) A.in1 (Builtin.«object.__ne__» ⟨[.ref x, .ref y], []⟩) (fun fin s' => ∃ b, fin = .done (.ret (.bool (!b))) ∧ Q (.bool (!b)) s') E s := by
    unfold Builtin.«object.__ne__»
    refine wpAny_bind (m := slotArgs "__ne__" 1 _) (wpAny_pure ?_)
    refine wpAny_bind (wpAny_cRoomFor hu ?_)
    refine wpAny_bind (m := callSpecialIfBound? (.ref x) (Str.ofString "__eq__") [.ref y]) (ifBound_K X I hs hf (wpAny_mono h (fun v s' ⟨b, e, q⟩ => ?_) fun _ _ z => z))
    subst e
    refine wpAny_bind (m := truthy (.bool b)) (wpAny_truthy_bool ?_)
    exact wpAny_pure ⟨b, rfl, q⟩
  have one : wpAny (model prog w) A (tryCompare (.ref x) "__ne__" (.ref y)) (fun r s' => ∃ v, r = some v ∧ Q v s') E s := by
    unfold tryCompare
    refine wpAny_bind ?_
    simp only [callSpecialIfBound?, bindSpecialIfBound?]
    refine wpAny_holding (wpAny_bind (wpAny_bind (wpAny_bind (I.type.here ((looks_findIn X hn).here ?_)))))
    simp only [slot.bind]
    refine wpAny_bind (wpAny_askSetting (wpAny_ite ?_))
    have chk : wpAny (model prog w) A.in1 (checkBuiltinCall "object.__ne__" ⟨[.ref x, .ref y], []⟩) (fun _ s₁ => s₁ = s) E s := by
      simp only [checkBuiltinCall, F.cmpKind_ne, F.cmpSplit_ne]
      refine wpAny_bind ?_
      unfold isInstance
      refine wpAny_bind (I.type.here ((looks_subIn X hsub).here ?_))
      have ha := F.cmpArgs_ne (.ref x) (.ref y)
      cases hsig : Manifest.signature? "object.__ne__" with
      | none => exact wpAny_pure rfl
      | some sig =>
        simp only [argsOk, hsig] at ha
        show wpAny _ _ (Bind.checkArgs _ sig _) _ _ _
        rw [show Bind.checkArgs "object.__ne__" sig ⟨[.ref x, .ref y], []⟩ = pure () from ha]
        exact wpAny_pure rfl
    have fin : wpAny (model prog w) A (call (.builtin "object.__ne__") ([.ref x] ++ [.ref y]) >>= fun v => pure (some v)) (fun r s' => ∃ b, r = some (.bool b) ∧ Q (.bool b) s') E s := by
      refine wpAny_bind (wpAny_call (codeAny_call_builtin slot.plain F.cmpEntry_ne (wpAny_mono chk (fun _ s₁ e => ?_) fun _ _ z => z)))
      rw [e]
      refine wpAny_mono body (fun fin s' ⟨b, e2, q⟩ => ?_) fun _ _ z => z
      rw [e2]
      exact wpAny_pure ⟨_, rfl, q⟩
    have fin2 := wpAny_mono (Q' := fun r s' => wpAny (model prog w) A (match r with | some Value.notImplemented => pure none | none => pure none | some v => pure (some v)) (fun r s' => ∃ v, r = some v ∧ Q v s') E s') fin (fun r s' ⟨b, e, q⟩ => by subst e; exact wpAny_pure ⟨_, rfl, q⟩) fun _ _ z => z
    split
    · exact wpAny_bind (wpAny_pure (wpAny_pure (by exact fin2)))
    · exact wpAny_tryCatch (wpAny_bind (wpAny_pure (wpAny_pure (by exact fin2))))
  unfold richCompare
  simp only [oneThing_ref]
  refine wpAny_holding (wpAny_bind (wpAny_cRoomFor (Nat.lt_of_succ_lt hu) ?_))
  refine wpAny_bind (I.type.here (wpAny_bind (J.type.here ?_)))
  rw [show (Value.ref C != Value.ref C) = false by simp]
  simp only [Bool.false_eq_true, if_false]
  refine wpAny_bind (wpAny_pure ?_)
  simp only [Bool.false_eq_true, if_false]
  refine wpAny_bind (wpAny_mono one (fun r s' ⟨v, e, q⟩ => ?_) fun _ _ z => z)
  rw [e]
  exact wpAny_pure q
end
end PD

/-! Data: == and != of instances; an instance is made. -/
namespace PD
open PySem PySem.Spec PyProof.Rows L2
section
variable {g : Gb} {l : Lc} {ρ : Rho} {e a b o : Expr} {es : List Expr} {pos : Pos} {ds : List DV} {d da db : DV} {C : Addr} {gs hs : List (Str × DV)} {n : Str}
theorem op_neO {X : Cx} {k : Nat} {f : Addr} {fd : FuncData} {ps : List Str} {sp : Sp} (F : FnOk X.prog X.w X.K X.mg X.base CX0 k f fd ps sp) (hr : Room (k + 1) X.A) (hb : Binds X.K fd ps []) (hm : Meth X.K C "__eq__" f)
    (hn : PySem.W.findIn X.K (.ref C) "__ne__" = some (some (.builtin "object.__ne__"))) (hsub : PySem.W.subIn X.K (.ref C) (.type "object") = some true) : OpR X (compareOp .NotEq) (rNeO C sp) := by
  rintro pins s σ H _ _ v u Q I rx ry ⟨p, q, dx, dy, fs, hs, rfl, rfl, hp, hq, h⟩
  cases rx; cases ry
  obtain ⟨mA, J, _⟩ := ins_get I.hok hp
  obtain ⟨mB, J', _⟩ := ins_get I.hok hq
  obtain ⟨od, J, _⟩ := J.look
  obtain ⟨od', J', _⟩ := J'.look
  obtain ⟨m, hF⟩ := I.fr
  have hu : X.A.units + 1 < cLine := by
    have := hr.un
    omega
  show wpAny _ _ (richCompare .NotEq _ _) _ _ _
  refine ne_own hu hF I.ok.mod.kin J J' hn hm.at_ hm.fn hsub (wpAny_mono (run1 (vs := [.ref p, .ref q]) (us := [.ref p, .ref q]) F hr hb I (.cons rfl (.cons rfl .nil)) h) (fun w s' ⟨z, H', I', rz, b, e, k⟩ => ?_) fun _ _ z => z)
  subst e; cases rz
  exact ⟨b, rfl, .bl (!b), H', I', rfl, k⟩
structure Eo (g : Gb) (k : Nat) (C : Addr) (R : List DV → DV → Prop) : Prop where
  ex : ∃ f, Meth g.K C "__eq__" f ∧ Fd g k f R
  hn : PySem.W.findIn g.K (.ref C) "__ne__" = some (some (.builtin "object.__ne__"))
  hs : PySem.W.subIn g.K (.ref C) (.type "object") = some true
theorem od_eqO {K : PySem.W.Frag} {R : List DV → DV → Prop} {x : Bool} (hR : R [.obj C gs, .obj C hs] (.bl x)) : OpD K (rEqO C (spR K R)) (.obj C gs) (.obj C hs) (.bl x) := fun S H v w ex r1 r2 Q q => by
  obtain ⟨p, dx, fs, rfl, hp, rf⟩ := obj_rp r1
  obtain ⟨p', dx', fs', rfl, hp', rf'⟩ := obj_rp r2
  refine ⟨p, p', dx, dx', fs, fs', rfl, rfl, ex _ _ hp, ex _ _ hp', S, _, _, ex, .cons (.obj hp rf) (.cons (.obj hp' rf') .nil), hR, fun v S2 H2 g2 r2 => ?_⟩
  cases r2
  exact ⟨x, rfl, q _ S2 H2 g2 (.bl _)⟩
theorem od_neO {K : PySem.W.Frag} {R : List DV → DV → Prop} {x : Bool} (hR : R [.obj C gs, .obj C hs] (.bl x)) : OpD K (rNeO C (spR K R)) (.obj C gs) (.obj C hs) (.bl (!x)) := fun S H v w ex r1 r2 Q q => by
  obtain ⟨p, dx, fs, rfl, hp, rf⟩ := obj_rp r1
  obtain ⟨p', dx', fs', rfl, hp', rf'⟩ := obj_rp r2
  refine ⟨p, p', dx, dx', fs, fs', rfl, rfl, ex _ _ hp, ex _ _ hp', S, _, _, ex, .cons (.obj hp rf) (.cons (.obj hp' rf') .nil), hR, fun v S2 H2 g2 r2 => ?_⟩
  cases r2
  exact ⟨x, rfl, q _ S2 H2 g2 (.bl _)⟩
theorem de_eqO {k : Nat} {R : List DV → DV → Prop} {x : Bool} (M : Eo g k C R) (hR : R [.obj C gs, .obj C hs] (.bl x)) (ha : DE g l a ρ (.obj C gs)) (hb : DE g l b ρ (.obj C hs)) (hk : k + 1 ≤ l.k := by decide) : DE g l (.Compare a [.Eq] [b] pos) ρ (.bl x) := by
  obtain ⟨⟨f, hm, fd, ps, ok, hb'⟩, _, _⟩ := M
  exact de_cmp (fun X o => op_eqO (k := k) (fd := fd) (ps := ps) (by rw [o.prog, o.w, o.K, o.mg, o.base]; exact ok) (o.room.mono (Nat.le_of_succ_le hk)) (by rw [o.K]; exact hb') (by rw [o.K]; exact hm)) (od_eqO hR) ha hb (nomark _)
theorem de_neO {k : Nat} {R : List DV → DV → Prop} {x : Bool} (M : Eo g k C R) (hR : R [.obj C gs, .obj C hs] (.bl x)) (ha : DE g l a ρ (.obj C gs)) (hb : DE g l b ρ (.obj C hs)) (hk : k + 1 ≤ l.k := by decide) : DE g l (.Compare a [.NotEq] [b] pos) ρ (.bl (!x)) := by
  obtain ⟨⟨f, hm, fd, ps, ok, hb'⟩, h1, h2⟩ := M
  exact de_cmp (fun X o => op_neO (k := k) (fd := fd) (ps := ps) (by rw [o.prog, o.w, o.K, o.mg, o.base]; exact ok) (o.room.mono hk) (by rw [o.K]; exact hb') (by rw [o.K]; exact hm) (by rw [o.K]; exact h1) (by rw [o.K]; exact h2)) (od_neO hR) ha hb (nomark _)
theorem dt_neO {k : Nat} {R : List DV → DV → Prop} {x : Bool} (M : Eo g k C R) (hR : R [.obj C gs, .obj C hs] (.bl x)) (ha : DE g l a ρ (.obj C gs)) (hb : DE g l b ρ (.obj C hs)) (hk : k + 1 ≤ l.k := by decide) : DT g l (.Compare a [.NotEq] [b] pos) ρ (!x) := by
  obtain ⟨⟨f, hm, fd, ps, ok, hb'⟩, h1, h2⟩ := M
  exact dt_cmp (fun X o => op_neO (k := k) (fd := fd) (ps := ps) (by rw [o.prog, o.w, o.K, o.mg, o.base]; exact ok) (o.room.mono hk) (by rw [o.K]; exact hb') (by rw [o.K]; exact hm) (by rw [o.K]; exact h1) (by rw [o.K]; exact h2)) (od_neO hR) ha hb (nomark _)
end
/-! keywords -/
def UK (g : Gb) (l : Lc) (kws : List Keyword) : TA := fun σ H Q => ∃ t, (∀ X, Of g l X → PK X kws t) ∧ t σ H Q
theorem UK.pk {g : Gb} {l : Lc} {X : Cx} (o : Of g l X) (kws : List Keyword) : PK X kws (UK g l kws) := ⟨fun pos pins s σ H Q I ⟨t, h, q⟩ => (h X o).run pos pins s σ H Q I q⟩
def DK (g : Gb) (l : Lc) (kws : List Keyword) (ρ : Rho) (ds : List DV) : Prop := EvA g.K (UK g l kws) ρ ds
section
variable {g : Gb} {l : Lc} {ρ : Rho} {e : Expr} {es : List Expr} {pos : Pos} {ds es' : List DV} {d : DV} {C : Addr} {gs : List (Str × DV)} {n : Str} {kws : List Keyword}
theorem dk_nil : DK g l [] ρ [] := fun H0 σ S H ex m Q q => ⟨_, fun X o => pk_nil, ea_nil H0 σ S H ex m Q q⟩
theorem dk_cons {nm : Option Str} {kp : Pos} (h : DE g l e ρ d) (hr : DK g l kws ρ ds) : DK g l (⟨nm, e, kp⟩ :: kws) ρ (d :: ds) := fun H0 σ S H ex m Q q => ⟨_, fun X o => pk_cons (UE.pe o e) (UK.pk o kws), ea_cons h hr H0 σ S H ex m Q q⟩
/-- the promise of an __init__: from ds the attributes gs -/
def spI (K : PySem.W.Frag) (C : Addr) (R : List DV → List (Str × DV) → Prop) : Sp := fun vs H Q _ => ∃ (x dx : Addr) (vs' : List V) (S : Hp) (ds : List DV) (gs : List (Str × DV)), vs = .ref x :: vs' ∧ H x = some (.ins C dx []) ∧ Ex S H ∧ S x = none ∧ RpA K S vs' ds ∧ R ds gs ∧
  ∀ S' H' fs, Go S (fun a => if a = x then none else H a) S' H' → S' x = none → H' x = some (.ins C dx fs) → RpF K S' fs gs → Q .non H'
structure Mf (g : Gb) (k n : Nat) (ks : List Str) (C : Addr) (x : Str) (ms : List DV) (R : List DV → List (Str × DV) → Prop) : Prop where
  mg : g.mg x = some (.ref C)
  ex : ∃ f fd ps gg gV mv, Mk g.K C f ∧ FnOk g.P g.w g.K g.mg g.base CX0 k f fd ps (spI g.K C R) ∧ KBn g.K fd ps (n + 1) ks gg gV ∧ (∀ (v : V) (vs zs : List V), gV (v :: vs) zs = v :: (vs ++ zs ++ mv)) ∧ ∀ S, RpA g.K S mv ms
theorem ev_make {K : PySem.W.Frag} {ta tk : TA} {k m : Nat} {gV : List V → List V → List V} {mv : List V} {ms : List DV} {R : List DV → List (Str × DV) → Prop} (ha : EvA K ta ρ ds) (hk : EvA K tk ρ es') (hm : ∀ S, RpA K S mv ms) (hg : ∀ (v : V) (vs zs : List V), gV (v :: vs) zs = v :: (vs ++ zs ++ mv)) (l1 : ds.length = k) (l2 : es'.length = m) (hR : R (ds ++ es' ++ ms) gs) :
    EvD K (tMakeK C k m (spI K C R) gV E0 ta tk) ρ (.obj C gs) := fun H0 σ S H ex n Q q =>
  ha H0 σ S H ex n _ fun vs S1 H1 g1 r1 => hk H0 σ S1 H1 g1.sub (n.go g1) _ fun zs S2 H2 g2 r2 => ⟨by rw [r1.len, l1], by rw [r2.len, l2], fun x dx nx ndx nex => by
    have sx : S2 x = none := g2.sub.free nx
    have e1 : Ex H2 (upd (upd H2 dx (.own x)) x (.ins C dx [])) := fun a u z => by
      rw [upd_ne (ne_of_none z nx), upd_ne (ne_of_none z ndx)]
      exact z
    refine ⟨x, dx, vs ++ zs ++ mv, S2, _, gs, hg _ _ _, upd_same, g2.sub.tr e1, sx, ((r1.up g2.s).append r2).append (hm S2), hR, fun S3 H3 fs g3 n3 hx rf => ⟨rfl, ?_⟩⟩
    have e3 : Ex H2 H3 := fun a u z => g3.h a u (by
      have ne := ne_of_none z nx
      show (if a = x then none else (upd (upd H2 dx (.own x)) x (.ins C dx [])) a) = some u
      rw [if_neg ne]
      exact e1 a u z)
    have g4 : Go S2 H2 S3 H3 := ⟨g3.s, e3, g3.sub, fun p u a b => by
      have z := g3.new p u a b
      by_cases w : p = x
      · rw [w]; exact nx
      · have z' : (upd (upd H2 dx (.own x)) x (.ins C dx [])) p = none := by
          have : (if p = x then none else (upd (upd H2 dx (.own x)) x (.ins C dx [])) p) = none := z
          rwa [if_neg w] at this
        exact e1.free z'⟩
    exact q _ _ H3 (((g1.tr g2).tr g4).frz n3 ((g1.tr g2).h.free nx) hx) (.obj upd_same (rf.up (Ex.new n3)))⟩
theorem de_make {k m : Nat} {ks : List Str} {p : Pos} {ms : List DV} {R : List DV → List (Str × DV) → Prop} (M : Mf g k m ks C n ms R) (ha : DA g l (e :: es) ρ ds) (hkw : DK g l kws ρ es') (hR : R (ds ++ es' ++ ms) gs) (l1 : ds.length = m := by rfl) (l2 : es'.length = ks.length := by rfl) (hk : k + 1 ≤ l.k := by decide) (hg : GlN l n := by rfl)
    (hall : ∀ env, (backToKw pos (keywordEach kws env)).all (·.1.isSome) = true := by intro _; rfl) (hks : ∀ env, (backToKw pos (keywordEach kws env)).filterMap (·.1) = ks := by intro _; rfl) (hdb : (n == ("__debug__" : Str)) = false := by decide)
    (he : ∀ env, starEach (e :: es) env = (false, eval e env) :: starEach es env := by intro _; rfl) (hpl : ∀ env, ((backTo pos (starEach (e :: es) env)).any (·.1) || (backToKw pos (keywordEach kws env)).any (·.1.isNone)) = false := by intro _; rfl) :
    DE g l (.Call (.Name n p) (e :: es) kws pos) ρ (.obj C gs) := by
  obtain ⟨hmg, f, fd, ps, gg, gV, mv, mk, ok, kb, hgV, hmv⟩ := M
  exact DE.by (tMakeK C m ks.length (spI g.K C R) gV E0 (UA g l (e :: es)) (UK g l kws)) (fun X o => pe_makeK (CX := CX0) (k := k) (by rw [o.K]; exact mk) (by rw [o.prog, o.w, o.K, o.mg, o.base]; exact ok) (o.room.mono hk) (o.gl hg) (by rw [o.mg]; exact hmg) (by rw [o.K]; exact kb) pass0 (UA.pa o _) (UK.pk o kws) (hall _) (hks _) hdb (he _) (hpl _)) (ev_make ha hkw hmv hgV l1 l2 hR)
end
end PD

/-! Data: a, b = x, y; list(range(n)). -/
namespace PD
open PySem PySem.Spec PyProof.Rows L2
section
variable {g : Gb} {l : Lc} {ρ : Rho} {a b c e : Expr} {pos px py pz pt pt2 : Pos} {kt k2 : Nat} {d1 d2 d3 : DV} {ds : List DV} {E : Po} {x y z : Str}
theorem ds_par (i j : Nat) (nd : l.N.Nodup) (ha : DE g l a ρ d1) (hb : DE g l b ρ d2) (q : E.nx ((ρ.set i (.val d1)).set j (.val d2))) (hi : l.N[i]? = some x := by rfl) (hj : l.N[j]? = some y := by rfl) (hij : i ≠ j := by decide)
    (hx : l.sc.names.lookup x = some .local := by rfl) (hy : l.sc.names.lookup y = some .local := by rfl) (hs : ∀ env, starEach [a, b] env = (false, eval a env) :: starEach [b] env := by intro _; rfl) (hs2 : ∀ env, starEach [b] env = (false, eval b env) :: starEach [] env := by intro _; rfl)
    (hw : ∀ env, env.scope = l.sc → swappedStores [.Tuple [.Name x px, .Name y py] kt pt] (.Tuple [a, b] k2 pt2) env = pure (some [x, y]) := by intro env h; cases env; cases h; rfl)
    (hsw : ∀ env, swapsWithSole [.Tuple [.Name x px, .Name y py] kt pt] (.Tuple [a, b] k2 pt2) pos.line env = pure false := by intro _; rfl) : DS g l (.Assign [.Tuple [.Name x px, .Name y py] kt pt] (.Tuple [a, b] k2 pt2) pos) ρ E :=
  DS.by (tPar i j (tCons (UE g l a) (tCons (UE g l b) tNil))) (fun X o => ps_par o.calm (by rw [o.N]; exact nd) (by rw [o.N]; exact hi) (by rw [o.N]; exact hj) hij (by rw [o.sc]; exact hx) (by rw [o.sc]; exact hy) (pa_cons (UE.pe o a) (pa_cons (UE.pe o b) pa_nil (hs2 _)) (hs _)) (hw _ o.sc) (hsw _))
    fun S0 H0 B σ S H D g0 bb n o => ha H0 σ S H g0.sub n _ fun v1 S1 H1 g1 r1 => hb H0 σ S1 H1 g1.sub (n.go g1) _ fun v2 S2 H2 g2 r2 =>
      ⟨v1, v2, rfl, o.nx _ _ S2 H2 q ((g0.tr g1).tr g2) (bb.tr (g1.s.tr g2.s)) ((((n.go g1).go g2).set (r1.up g2.s)).set r2)⟩
/-- three names; the second is to hold a new list -/
theorem ds_par3O (i j k : Nat) (nd : l.N.Nodup) (ha : DE g l a ρ d1) (hb : DL g l b ρ ds) (hc : DE g l c ρ d3) (q : E.nx (((ρ.set i (.val d1)).set k (.val d3)).set j (.own ds))) (hi : l.N[i]? = some x := by rfl) (hj : l.N[j]? = some y := by rfl) (hk : l.N[k]? = some z := by rfl) (hij : i ≠ j := by decide) (hik : i ≠ k := by decide) (hjk : j ≠ k := by decide)
    (hx : l.sc.names.lookup x = some .local := by rfl) (hy : l.sc.names.lookup y = some .local := by rfl) (hz : l.sc.names.lookup z = some .local := by rfl) (hs : ∀ env, starEach [a, b, c] env = (false, eval a env) :: starEach [b, c] env := by intro _; rfl) (hs2 : ∀ env, starEach [b, c] env = (false, eval b env) :: starEach [c] env := by intro _; rfl) (hs3 : ∀ env, starEach [c] env = (false, eval c env) :: starEach [] env := by intro _; rfl)
    (hw : ∀ env, env.scope = l.sc → swappedStores [.Tuple [.Name x px, .Name y py, .Name z pz] kt pt] (.Tuple [a, b, c] k2 pt2) env = pure (some [x, y, z]) := by intro env h; cases env; cases h; rfl)
    (hsw : ∀ env, swapsWithSole [.Tuple [.Name x px, .Name y py, .Name z pz] kt pt] (.Tuple [a, b, c] k2 pt2) pos.line env = pure false := by intro _; rfl) : DS g l (.Assign [.Tuple [.Name x px, .Name y py, .Name z pz] kt pt] (.Tuple [a, b, c] k2 pt2) pos) ρ E :=
  DS.by (tPar3 i j k (tCons (UE g l a) (tCons (UE g l b) (tCons (UE g l c) tNil)))) (fun X o => ps_par3 o.calm (by rw [o.N]; exact nd) (by rw [o.N]; exact hi) (by rw [o.N]; exact hj) (by rw [o.N]; exact hk) hij hik hjk (by rw [o.sc]; exact hx) (by rw [o.sc]; exact hy) (by rw [o.sc]; exact hz) (pa_cons (UE.pe o a) (pa_cons (UE.pe o b) (pa_cons (UE.pe o c) pa_nil (hs3 _)) (hs2 _)) (hs _)) (hw _ o.sc) (hsw _))
    fun S0 H0 B σ S H D g0 bb n o => ha H0 σ S H g0.sub n _ fun v1 S1 H1 g1 r1 => hb H0 σ S1 H1 g1.sub (n.go g1) _ fun p vs S2 H2 hp g2 nS hh rr => hc H0 σ S2 H2 g2.sub ((n.go g1).go g2) _ fun v3 S3 H3 g3 r3 => by
      refine ⟨v1, .ref p, v3, rfl, ?_⟩
      rw [List.set_comm _ _ hjk]
      have n3 := (((n.go g1).go g2).go g3)
      refine o.nx _ _ S3 H3 q (((g0.tr g1).tr g2).tr g3) (bb.tr (g1.s.tr (g2.s.tr g3.s))) (((n3.set ((r1.up g2.s).up g3.s)).set r3).setOwn (g0.h.free (g1.h.free hp)) (g3.off nS hh) (g3.h _ _ hh) (rr.up g3.s) fun m hm es hes w => ?_)
      obtain ⟨p', vs', e1, _, _, h2, _⟩ := ((n3.set ((r1.up g2.s).up g3.s)).set r3).own hes
      rw [e1] at w
      cases w
      rcases set_get hes with ⟨_, w⟩ | ⟨hm2, hes⟩
      · cases w
      · rcases set_get hes with ⟨_, w⟩ | ⟨hm1, hes⟩
        · cases w
        · obtain ⟨p2, vs2, e2, _, _, h4, _⟩ := (n.go g1).own hes
          have e3 : σ[m]? = some (some (.ref p)) := by
            have e4 := e1
            rw [List.getElem?_set_ne hm2, List.getElem?_set_ne hm1] at e4
            exact e4
          rw [e3] at e2
          cases e2
          rw [hp] at h4
          cases h4
/-- a target of any form, where the scope decides about the order of the stores -/
theorem ds_asgS {is : List Nat} {tg : Expr} {ρ' : Rho} {d : DV} (h : DE g l e ρ d) (hg : DG g l tg is d ρ ρ') (q : E.nx ρ') (hs : ∀ env, swapsWithSole [tg] e pos.line env = pure false := by intro _; rfl) (hw : ∀ env, env.scope = l.sc → swappedStores [tg] e env = pure none := by intro env h; cases env; cases h; rfl)
    (h1 : ∀ env, (assignEach [tg] env).map (·.2) = [assign tg env] := by intro _; rfl) : DS g l (.Assign [tg] e pos) ρ E :=
  DS.by _ (fun X o => ps_asg (UE.pe o e) (UG.pg o tg) (hs _) (hw _ o.sc) (h1 _)) (st_asgG h hg.tg q)
/-- a row: a list or a tuple -/
def SqD (D : DV) (ds : List DV) : Prop := D = .lst ds ∨ D = .tup ds
theorem de_ixQ {D : DV} {xs : List DV} {i : Int} {d : DV} (hq : SqD D xs) (h : atI xs i = some d) (ha : DE g l a ρ D) (hb : DE g l b ρ (.int i)) (hs : PlainIx b := by exact fun _ _ => rfl) : DE g l (.Subscript a b pos) ρ d := by
  rcases hq with rfl | rfl
  · exact de_ixL h ha hb hs
  · exact de_ixT h ha hb hs
theorem di_q {D : DV} {xs : List DV} {tg : Expr} (hq : SqD D xs) (h : DE g l e ρ D) : DI g l tg e ρ xs := by
  rcases hq with rfl | rfl
  · exact di_l h
  · exact di_t h
def rgD (n : Nat) : List DV := (List.range n).map fun (i : Nat) => DV.int (i : Int)
theorem rg_rgD (n : Nat) : rangeD 0 n = rgD n := by
  unfold rangeD rgD
  refine List.map_congr_left fun i _ => ?_
  rw [Int.zero_add]
theorem rgD_len (n : Nat) : (rgD n).length = n := by unfold rgD; rw [List.length_map, List.length_range]
theorem rgD_at {n i : Nat} {d : DV} (h : (rgD n)[i]? = some d) : i < n ∧ d = .int (i : Int) := by
  unfold rgD at h
  rw [List.getElem?_map] at h
  cases q : (List.range n)[i]? with
  | none => rw [q] at h; cases h
  | some j =>
    rw [q] at h
    obtain ⟨z1, z2⟩ := List.getElem?_eq_some_iff.mp q
    rw [List.getElem_range] at z2
    rw [List.length_range] at z1
    subst z2
    cases h
    exact ⟨z1, rfl⟩
theorem rgD_mem {n : Nat} {d : DV} (h : d ∈ rgD n) : ∃ i : Nat, i < n ∧ d = .int (i : Int) := by
  unfold rgD at h
  rw [List.mem_map] at h
  obtain ⟨i, hi, rfl⟩ := h
  exact ⟨i, List.mem_range.mp hi, rfl⟩
theorem di_rg {tg : Expr} {n : Nat} {p : Pos} (hm : g.mg "range" = none) (hn : n ≤ 100000) (h : DE g l e ρ (.int n)) (hg : GlN l "range" := by rfl) (hs : ∀ env, starEach [e] env = [(false, eval e env)] := by intro _; rfl) : DI g l tg (.Call (.Name "range" p) [e] [] pos) ρ (rgD n) :=
  DI.is (di_r hm hn h hg hs) (rg_rgD n)
theorem de_fd {i n : Int} (ha : DE g l a ρ (.int i)) (hb : DE g l b ρ (.int n)) (hn : 0 < n := by decide) (hn' : n < 1073741824 := by decide) : DE g l (.BinOp a .FloorDiv b pos) ρ (.int (i / n)) := de_fdiv ⟨hn, hn'⟩ ha hb
/-- list(range(n)) -/
theorem rg_range {n : Nat} {K : PySem.W.Frag} {S : Hp} : RpA K S (rgV 0 (n : Int)) (rangeD 0 n) := by
  unfold rgV rangeD
  rw [Int.sub_zero, Int.toNat_natCast]
  have go : ∀ l : List Nat, RpA K S (l.map fun (i : Nat) => V.int (0 + (i : Int))) (l.map fun (i : Nat) => DV.int (0 + (i : Int))) := by
    intro l
    induction l with
    | nil => exact .nil
    | cons x l ih => exact .cons (.int _) ih
  exact go _
theorem de_listRg {p1 p2 pos2 : Pos} {n : Nat} (B : Bt g) (hn : n ≤ 100000) (h : DE g l e ρ (.int n)) (hg : GlN l "list" := by rfl) (hg2 : GlN l "range" := by rfl) (hs : ∀ env, starEach [e] env = (false, eval e env) :: starEach [] env := by intro _; rfl)
    (hs2 : ∀ env, starEach [.Call (.Name "range" p2) [e] [] pos2] env = (false, eval (.Call (.Name "range" p2) [e] [] pos2) env) :: starEach [] env := by intro _; rfl) : DE g l (.Call (.Name "list" p1) [.Call (.Name "range" p2) [e] [] pos2] [] pos) ρ (.lst (rangeD 0 n)) :=
  DE.by (tLstRg (tRg1 (UE g l e))) (fun X o => pe_listRg o.calm (o.gl hg) (by rw [o.mg]; exact B.list) (prg_1 (o.gl hg2) (by rw [o.mg]; exact B.range) (UE.pe o e) (hs _)) (hs2 _))
    fun H0 σ S H ex m Q q => h H0 σ S H ex m _ fun v S1 H1 g1 r1 => by
      cases r1
      exact ⟨(n : Int), rfl, RgOk.of_le (by decide) (by omega) (by decide) (by omega), fun p hp => q _ _ _ (g1.tr (Go.up g1.sub hp)) (.lst (.inl upd_same) rg_range)⟩
end
end PD

/-! The program's data, and what its defs compute, as plain functions. -/
namespace SP
open PySem L2 PD
theorem filt {α : Type} (l : List α) : (l.filter fun _ => true) = l := List.filter_eq_self.mpr fun _ _ => rfl
/-! data that a def may be handed: no instances, no text or row that is too long -/
mutual
def fit : DV → Bool
  | .non => true | .bl _ => true | .int _ => true | .str x => decide (x.length ≤ 100000)
  | .tup xs => decide (xs.length ≤ 100000) && fits xs | .lst xs => decide (xs.length ≤ 100000) && fits xs | .obj _ _ => false | .frz _ => false
def fits : List DV → Bool
  | [] => true
  | d :: ds => fit d && fits ds
end
theorem fit_obj {v : DV} (h : fit v = true) : v.isObj = false := by
  cases v <;> first | rfl | (rw [fit] at h; cases h)
theorem fit_str {z : Str} (h : fit (.str z) = true) : z.length ≤ 100000 := by
  rw [fit] at h
  exact of_decide_eq_true h
theorem fit_tup {xs : List DV} (h : fit (.tup xs) = true) : xs.length ≤ 100000 ∧ fits xs = true := by
  rw [fit, Bool.and_eq_true] at h
  exact ⟨of_decide_eq_true h.1, h.2⟩
theorem fits_mem : ∀ {xs : List DV} {d : DV}, fits xs = true → d ∈ xs → fit d = true
  | [], _, _, h => by cases h
  | x :: xs, d, h, hm => by
    rw [fits, Bool.and_eq_true] at h
    rcases List.mem_cons.mp hm with rfl | hm
    · exact h.1
    · exact fits_mem h.2 hm
/-! words, pieces, texts -/
def codeOk (ls : Str) (c : Nat) : Bool := decide (c ∈ ls.cps.toList)
def wordOk (ls : Str) (m : Nat) (z : Str) : Bool := decide (z.length ≤ m) && z.cps.toList.all (codeOk ls)
def isNum : DV → Bool
  | .int _ => true | _ => false
def isWord (ls : Str) (m : Nat) : DV → Bool
  | .str z => wordOk ls m z | _ => false
def isBlock (n : Nat) : DV → Bool
  | .int i => decide (0 ≤ i) && decide (i < n) | _ => false
def isOrder (n : Nat) : DV → Bool
  | .tup xs => decide (xs.length ≤ 3) && xs.all (isBlock n) | _ => false
/-! states, writes -/
def psD (ps : List Str) : List DV := ps.map DV.str
def odD (od : List Nat) : List DV := od.map fun (b : Nat) => DV.int (b : Int)
def stD (ps : List Str) (od : List Nat) : DV := .tup [.tup (psD ps), .tup (odD od)]
theorem psD_len (ps : List Str) : (psD ps).length = ps.length := List.length_map ..
theorem odD_len (od : List Nat) : (odD od).length = od.length := List.length_map ..
theorem psD_get {ps : List Str} {i : Nat} {p : Str} (h : ps[i]? = some p) : (psD ps)[i]? = some (.str p) := by
  unfold psD
  rw [List.getElem?_map, h]
  rfl
inductive Wr where
  | piece (b : Nat) (p : Str) | order (o : List Nat)
  deriving DecidableEq
def Wr.d : Wr → DV
  | .piece b p => .tup [.str "piece", .int b, .str p]
  | .order o => .tup [.str "order", .tup (odD o)]
def isWr (ls : Str) (ps : List Str) (od : List Nat) : DV → Bool
  | .tup [.str a, b] => decide (a = "order") && isOrder ps.length b && !b.eqv (.tup (odD od))
  | .tup [.str a, b, c] => decide (a = "piece") && isBlock ps.length b && isWord ls 2 c && !(match b, c with | .int i, .str z => decide (z = ps.getD i.toNat ⟨#[]⟩) | _, _ => false)
  | _ => false
theorem eqvAll_odD : ∀ a b : List Nat, PyData.eqvAll (pdAll (odD a)) (pdAll (odD b)) = decide (a = b)
  | [], [] => by simp [odD, pdAll, PyData.eqvAll]
  | [], _ :: _ => by simp [odD, pdAll, PyData.eqvAll]
  | _ :: _, [] => by simp [odD, pdAll, PyData.eqvAll]
  | x :: a, y :: b => by
    have ih := eqvAll_odD a b
    show PyData.eqvAll (DV.pd (.int (x : Int)) :: pdAll (odD a)) (DV.pd (.int (y : Int)) :: pdAll (odD b)) = _
    rw [PyData.eqvAll, ih, DV.pd, DV.pd, PyData.eqv, Bool.eq_iff_iff]
    simp
    intro _
    omega
theorem eqv_odD (a b : List Nat) : (DV.tup (odD a)).eqv (.tup (odD b)) = decide (a = b) := by
  show PyData.eqv (DV.pd _) (DV.pd _) = _
  rw [DV.pd, DV.pd, PyData.eqv, eqvAll_odD]
theorem plain_odD : ∀ a : List Nat, plainAll (odD a) = true
  | [] => by simp [odD, plainAll]
  | x :: a => by
    show plainAll (DV.int (x : Int) :: odD a) = true
    rw [plainAll, plain_odD a, DV.plain]
    rfl
theorem dep_odD : ∀ a : List Nat, depAll (odD a) = 0
  | [] => by simp [odD, depAll]
  | x :: a => by
    show depAll (DV.int (x : Int) :: odD a) = 0
    rw [depAll, dep_odD a, DV.dep]
    rfl
theorem ok_odD (a : List Nat) : (DV.tup (odD a)).ok = true := by
  unfold DV.ok
  rw [DV.plain, plain_odD, DV.dep, dep_odD]
  rfl
theorem isOrder_form {n : Nat} {v : DV} (h : isOrder n v = true) : ∃ o : List Nat, v = .tup (odD o) ∧ o.length ≤ 3 ∧ ∀ b ∈ o, b < n := by
  cases v with
  | tup xs =>
    unfold isOrder at h
    rw [Bool.and_eq_true] at h
    obtain ⟨h1, h2⟩ := h
    have go : ∀ xs : List DV, xs.all (isBlock n) = true → ∃ o : List Nat, xs = odD o ∧ ∀ b ∈ o, b < n := by
      intro xs
      induction xs with
      | nil => intro _; exact ⟨[], rfl, fun b hb => by cases hb⟩
      | cons x xs ih =>
        intro h
        rw [List.all_cons, Bool.and_eq_true] at h
        obtain ⟨o, e, f⟩ := ih h.2
        cases x with
        | int i =>
          have h3 := h.1
          unfold isBlock at h3
          rw [Bool.and_eq_true, decide_eq_true_eq, decide_eq_true_eq] at h3
          refine ⟨i.toNat :: o, ?_, fun b hb => ?_⟩
          · rw [e]
            show _ = DV.int ((i.toNat : Nat) : Int) :: odD o
            rw [Int.toNat_of_nonneg h3.1]
          · rcases List.mem_cons.mp hb with rfl | hb
            · omega
            · exact f b hb
        | _ => exact absurd h.1 (by simp [isBlock])
    obtain ⟨o, e, f⟩ := go xs h2
    refine ⟨o, by rw [e], ?_, f⟩
    have := of_decide_eq_true h1
    rw [e, odD_len] at this
    exact this
  | _ => simp [isOrder] at h
theorem isOrder_of {n : Nat} {o : List Nat} (h : o.length ≤ 3) (f : ∀ b ∈ o, b < n) : isOrder n (.tup (odD o)) = true := by
  unfold isOrder
  rw [Bool.and_eq_true, odD_len]
  refine ⟨decide_eq_true h, ?_⟩
  rw [List.all_eq_true]
  intro d hd
  unfold odD at hd
  rw [List.mem_map] at hd
  obtain ⟨b, hb, rfl⟩ := hd
  unfold isBlock
  rw [Bool.and_eq_true]
  exact ⟨decide_eq_true (by omega), decide_eq_true (by have := f b hb; omega)⟩
/-! contents -/
def addD : DV → DV → DV
  | .str a, .str b => .str (a ++ b) | .tup a, .tup b => .tup (a ++ b) | _, _ => .non
def stepC (is L : List DV) : List DV := L.flatMap fun c => is.map (addD c)
def nthC (e : DV) (is : List DV) : Nat → List DV
  | 0 => [e]
  | n + 1 => stepC is (nthC e is n)
def contC (e : DV) (is : List DV) : Nat → List DV
  | 0 => [e]
  | n + 1 => contC e is n ++ nthC e is (n + 1)
theorem stepC_len (is L : List DV) : (stepC is L).length = L.length * is.length := by
  unfold stepC
  induction L with
  | nil => simp
  | cons x L ih => rw [List.flatMap_cons, List.length_append, List.length_map, ih, List.length_cons, Nat.succ_mul, Nat.add_comm]
theorem nthC_len (e : DV) (is : List DV) : ∀ n, (nthC e is n).length = is.length ^ n
  | 0 => by simp [nthC]
  | n + 1 => by rw [nthC, stepC_len, nthC_len e is n, Nat.pow_succ]
/-- of one kind, and not too long -/
def shortS (b : Nat) : DV → Bool
  | .str x => decide (x.length ≤ b) | _ => false
def shortT (b : Nat) : DV → Bool
  | .tup x => decide (x.length ≤ b) | _ => false
theorem addS {a b : DV} {m n : Nat} (h : shortS m a = true) (h' : shortS n b = true) : shortS (m + n) (addD a b) = true := by
  cases a <;> first | cases h | skip
  cases b <;> first | cases h' | skip
  rename_i x y
  have h1 : x.length ≤ m := of_decide_eq_true h
  have h2 : y.length ≤ n := of_decide_eq_true h'
  exact decide_eq_true (by rw [Str.length_append]; omega)
theorem addT {a b : DV} {m n : Nat} (h : shortT m a = true) (h' : shortT n b = true) : shortT (m + n) (addD a b) = true := by
  cases a <;> first | cases h | skip
  cases b <;> first | cases h' | skip
  rename_i x y
  have h1 : x.length ≤ m := of_decide_eq_true h
  have h2 : y.length ≤ n := of_decide_eq_true h'
  exact decide_eq_true (by rw [List.length_append]; omega)
theorem nthS {e : DV} {is : List DV} (he : shortS 0 e = true) (hi : is.all (shortS 1) = true) : ∀ n, ∀ d ∈ nthC e is n, shortS n d = true
  | 0, d, hd => by
    have : d = e := by simpa [nthC] using hd
    rw [this]; exact he
  | n + 1, d, hd => by
    unfold nthC stepC at hd
    rw [List.mem_flatMap] at hd
    obtain ⟨c, hc, hd⟩ := hd
    rw [List.mem_map] at hd
    obtain ⟨i, hi', rfl⟩ := hd
    exact addS (nthS he hi n c hc) (List.all_eq_true.mp hi i hi')
theorem nthT {e : DV} {is : List DV} (he : shortT 0 e = true) (hi : is.all (shortT 1) = true) : ∀ n, ∀ d ∈ nthC e is n, shortT n d = true
  | 0, d, hd => by
    have : d = e := by simpa [nthC] using hd
    rw [this]; exact he
  | n + 1, d, hd => by
    unfold nthC stepC at hd
    rw [List.mem_flatMap] at hd
    obtain ⟨c, hc, hd⟩ := hd
    rw [List.mem_map] at hd
    obtain ⟨i, hi', rfl⟩ := hd
    exact addT (nthT he hi n c hc) (List.all_eq_true.mp hi i hi')
/-- all pieces of some letters, all orders of n blocks -/
def letterSet (ls : Str) : Prop := ls = "ab" ∨ ls = "abc"
def onesS (ls : Str) : List Str := ls.cps.toList.map fun c => ⟨#[c]⟩
def piecesOf (ls : Str) : List Str := [⟨#[]⟩] ++ onesS ls ++ (onesS ls).flatMap fun a => (onesS ls).map fun b => a ++ b
def onesO (n : Nat) : List (List Nat) := (List.range n).map fun b => [b]
def ordersOf (n : Nat) : List (List Nat) := [[]] ++ onesO n ++ ((onesO n).flatMap fun a => (onesO n).map fun b => a ++ b) ++ (((onesO n).flatMap fun a => (onesO n).map fun b => a ++ b).flatMap fun a => (onesO n).map fun b => a ++ b)
theorem cont_pieces (ls : Str) : contC (.str ⟨#[]⟩) (psD (onesS ls)) 2 = psD (piecesOf ls) := by
  have e1 : nthC (.str ⟨#[]⟩) (psD (onesS ls)) 1 = psD (onesS ls) := by
    show stepC (psD (onesS ls)) [DV.str ⟨#[]⟩] = _
    unfold stepC psD
    rw [List.flatMap_cons, List.flatMap_nil, List.append_nil, List.map_map]
    refine List.map_congr_left fun x _ => ?_
    show DV.str (⟨#[]⟩ ++ x) = DV.str x
    congr 1
    exact Str.ext' (by show #[] ++ x.cps = x.cps; simp)
  have e2 : nthC (.str ⟨#[]⟩) (psD (onesS ls)) 2 = psD ((onesS ls).flatMap fun a => (onesS ls).map fun b => a ++ b) := by
    rw [nthC, e1]
    unfold stepC psD
    rw [List.map_flatMap, List.flatMap_map]
    refine congrArg (fun f => List.flatMap f (onesS ls)) ?_
    funext a
    rw [List.map_map, List.map_map]
    rfl
  rw [contC, contC, contC, e1, e2]
  unfold psD piecesOf
  rw [List.map_append, List.map_append]
  rfl
def oD (o : List Nat) : DV := .tup (odD o)
theorem add_oD (a b : List Nat) : addD (oD a) (oD b) = oD (a ++ b) := by
  show DV.tup (odD a ++ odD b) = DV.tup (odD (a ++ b))
  unfold odD
  rw [List.map_append]
theorem step_oD (xs ys : List (List Nat)) : stepC (xs.map oD) (ys.map oD) = (ys.flatMap fun a => xs.map fun b => a ++ b).map oD := by
  unfold stepC
  rw [List.map_flatMap, List.flatMap_map]
  refine congrArg (fun f => List.flatMap f ys) ?_
  funext a
  rw [List.map_map, List.map_map]
  refine List.map_congr_left fun b _ => ?_
  exact add_oD a b
theorem cont_orders (n : Nat) : contC (oD []) ((onesO n).map oD) 3 = (ordersOf n).map oD := by
  have e1 : nthC (oD []) ((onesO n).map oD) 1 = (onesO n).map oD := by
    show stepC _ (([[]] : List (List Nat)).map oD) = _
    rw [step_oD]
    simp
  have e2 : nthC (oD []) ((onesO n).map oD) 2 = ((onesO n).flatMap fun a => (onesO n).map fun b => a ++ b).map oD := by
    rw [nthC, e1, step_oD]
  have e3 : nthC (oD []) ((onesO n).map oD) 3 = (((onesO n).flatMap fun a => (onesO n).map fun b => a ++ b).flatMap fun a => (onesO n).map fun b => a ++ b).map oD := by
    rw [nthC, e2, step_oD]
  rw [contC, contC, contC, contC, e1, e2, e3]
  unfold ordersOf
  rw [List.map_append, List.map_append, List.map_append]
  rfl
theorem signD_ones (ls : Str) : signD ls = psD (onesS ls) := by
  unfold signD psD onesS
  rw [List.map_map]
  rfl
theorem nthC_le {e : DV} {is : List DV} {i : Nat} (h : is.length ≤ 4) (hi : i ≤ 3) : (nthC e is i).length ≤ 64 := by
  rw [nthC_len]
  refine Nat.le_trans (Nat.pow_le_pow_left h i) (Nat.le_trans (Nat.pow_le_pow_right (by decide) hi) (by decide))
theorem contC_le {e : DV} {is : List DV} (h : is.length ≤ 4) : ∀ {i : Nat}, i ≤ 3 → (contC e is i).length ≤ 1 + 64 * i
  | 0, _ => by simp [contC]
  | i + 1, hi => by
    have h1 := contC_le (e := e) h (i := i) (by omega)
    have h2 := nthC_le (e := e) h hi
    rw [contC, List.length_append]
    omega
/-! all writes -/
def writesOf (ls : Str) (ps : List Str) (od : List Nat) : List Wr :=
  (ps.zipIdx.flatMap fun p => ((piecesOf ls).filter fun n => !decide (n = p.1)).map fun n => Wr.piece p.2 n) ++ ((ordersOf ps.length).filter fun o => !decide (o = od)).map Wr.order
def pieceNew (d c : DV) : Bool := match d, c with | .tup [_, .str old], .str new => !decide (new = old) | _, _ => false
def pieceWr (d c : DV) : DV := match d with | .tup [b, _] => .tup [.str "piece", b, c] | _ => .non
theorem writes_pieces (ls : Str) (ps : List Str) : ((enumD (psD ps)).flatMap fun d => ((psD (piecesOf ls)).filter (pieceNew d)).map (pieceWr d)) = (ps.zipIdx.flatMap fun p => ((piecesOf ls).filter fun n => !decide (n = p.1)).map fun n => Wr.piece p.2 n).map Wr.d := by
  unfold enumD psD
  rw [List.zipIdx_map, List.map_map, List.flatMap_map, List.map_flatMap]
  refine congrArg (fun f => List.flatMap f ps.zipIdx) ?_
  funext p
  rw [List.map_map, List.filter_map, List.map_map]
  rfl
def orderNew (od : List Nat) (c : DV) : Bool := !c.eqv (.tup (odD od))
def orderWr (c : DV) : DV := .tup [.str "order", c]
theorem writes_orders (n : Nat) (od : List Nat) : (((ordersOf n).map oD).filter (orderNew od)).map orderWr = (((ordersOf n).filter fun o => !decide (o = od)).map Wr.order).map Wr.d := by
  rw [List.map_map, List.filter_map, List.map_map]
  have e : (orderNew od ∘ oD) = fun o => !decide (o = od) := by
    funext o
    show (!(DV.tup (odD o)).eqv (.tup (odD od))) = _
    rw [eqv_odD]
  rw [e]
  rfl
theorem onesS_len {ls : Str} (h : letterSet ls) : (onesS ls).length ≤ 3 := by rcases h with rfl | rfl <;> decide +kernel
theorem piecesOf_len {ls : Str} (h : letterSet ls) : (piecesOf ls).length ≤ 13 := by rcases h with rfl | rfl <;> decide +kernel
theorem ordersOf_len {n : Nat} (h : n ≤ 4) : (ordersOf n).length ≤ 85 := by
  have : ∀ n ≤ 4, (ordersOf n).length ≤ 85 := by decide +kernel
  exact this n h
theorem shortS_ones (ls : Str) : (psD (onesS ls)).all (shortS 1) = true := by
  rw [List.all_eq_true]
  intro d hd
  unfold psD onesS at hd
  rw [List.map_map, List.mem_map] at hd
  obtain ⟨c, _, rfl⟩ := hd
  rfl
theorem shortT_ones (n : Nat) : ((onesO n).map oD).all (shortT 1) = true := by
  rw [List.all_eq_true]
  intro d hd
  unfold onesO at hd
  rw [List.map_map, List.mem_map] at hd
  obtain ⟨c, _, rfl⟩ := hd
  rfl
/-! texts -/
def catS (l : List Str) : Str := l.foldl (· ++ ·) ⟨#[]⟩
def textOf (ps : List Str) (od : List Nat) : Str := catS (od.map fun b => ps.getD b ⟨#[]⟩)
theorem nil_app (x : Str) : (⟨#[]⟩ : Str) ++ x = x := Str.ext' (by show #[] ++ x.cps = x.cps; simp)
theorem app_nil (x : Str) : x ++ (⟨#[]⟩ : Str) = x := Str.ext' (by show x.cps ++ #[] = x.cps; simp)
theorem app_assoc (x y z : Str) : x ++ y ++ z = x ++ (y ++ z) := Str.ext' (by show x.cps ++ y.cps ++ z.cps = x.cps ++ (y.cps ++ z.cps); simp)
theorem foldl_app (l : List Str) (a : Str) : l.foldl (· ++ ·) a = a ++ catS l := by
  induction l generalizing a with
  | nil => exact (app_nil a).symm
  | cons x l ih =>
    show l.foldl (· ++ ·) (a ++ x) = a ++ (l.foldl (· ++ ·) (⟨#[]⟩ ++ x))
    rw [ih, nil_app, ih x, app_assoc]
theorem catS_cons (x : Str) (l : List Str) : catS (x :: l) = x ++ catS l := by
  show l.foldl (· ++ ·) (⟨#[]⟩ ++ x) = _
  rw [nil_app, foldl_app]
theorem join_cat' : ∀ l : List Str, Str.join ⟨#[]⟩ l = catS l
  | [] => rfl
  | [x] => by rw [catS_cons]; exact (app_nil x).symm
  | x :: y :: l => by
    have ih := join_cat' (y :: l)
    rw [catS_cons, ← ih]
    show x ++ ⟨#[]⟩ ++ Str.join ⟨#[]⟩ (y :: l) = _
    rw [app_nil]
theorem join_cat (l : List Str) : Txt.join ⟨#[]⟩ l = catS l := (eq_of_beq (PyProof.Rows.join_plain_closes ⟨#[]⟩ l)).trans (join_cat' l)
theorem catS_len (l : List Str) : (catS l).length = (l.map (·.length)).sum := by
  induction l with
  | nil => rfl
  | cons x l ih => rw [catS_cons, Str.length_append, ih, List.map_cons, List.sum_cons]
theorem sum_le {l : List Nat} {m : Nat} (h : ∀ x ∈ l, x ≤ m) : l.sum ≤ l.length * m := by
  induction l with
  | nil => simp
  | cons x l ih =>
    have h1 := h x (List.mem_cons_self ..)
    have h2 := ih fun y hy => h y (List.mem_cons_of_mem _ hy)
    rw [List.sum_cons, List.length_cons, Nat.succ_mul]
    omega
end SP

namespace SP
open PySem L2 PD
/-! slices -/
theorem cutG_to {α : Type} {xs : List α} {k : Nat} (h : k ≤ xs.length) : cutG xs none (some (k : Int)) = xs.take k := by
  unfold cutG
  rw [HT.sIx_none, HT.sIx_nat, List.drop_zero, Nat.sub_zero, Nat.min_eq_left h]
theorem cutG_from {α : Type} {xs : List α} {k : Nat} : cutG xs (some (k : Int)) none = xs.drop k := by
  unfold cutG
  rw [HT.sIx_none, HT.sIx_nat]
  by_cases h : k ≤ xs.length
  · rw [Nat.min_eq_left h, List.take_of_length_le (by rw [List.length_drop]; exact Nat.le_refl _)]
  · rw [Nat.min_eq_right (by omega), List.drop_length, List.drop_of_length_le (by omega)]
    simp
theorem set_cut {α : Type} {xs : List α} {b : Nat} {c : α} (h : b < xs.length) : xs.take b ++ [c] ++ xs.drop (b + 1) = xs.set b c := by
  rw [List.set_eq_take_append_cons_drop, if_pos h, List.append_assoc]
  rfl
def takeS (x : Str) (n : Nat) : Str := ⟨(x.cps.toList.take n).toArray⟩
def dropS (x : Str) (n : Nat) : Str := ⟨(x.cps.toList.drop n).toArray⟩
theorem len_toList (x : Str) : x.cps.toList.length = x.length := by rw [Array.length_toList]; rfl
theorem takeS_len (x : Str) (n : Nat) : (takeS x n).length ≤ n := by
  show (x.cps.toList.take n).toArray.size ≤ n
  rw [List.size_toArray, List.length_take]
  omega
theorem dropS_len (x : Str) (n : Nat) : (dropS x n).length = x.length - n := by
  show (x.cps.toList.drop n).toArray.size = _
  rw [List.size_toArray, List.length_drop, len_toList]
theorem cutS_to {x : Str} {k : Nat} (h : k ≤ x.length) : cutS x none (some (k : Int)) = takeS x k := by
  unfold cutS takeS
  rw [HT.sIx_none, HT.sIx_nat, List.drop_zero, Nat.sub_zero, Nat.min_eq_left h]
theorem cutS_from {x : Str} {k : Nat} : cutS x (some (k : Int)) none = dropS x k := by
  unfold cutS dropS
  rw [HT.sIx_none, HT.sIx_nat]
  by_cases h : k ≤ x.length
  · rw [Nat.min_eq_left h, List.take_of_length_le (by rw [List.length_drop, len_toList]; exact Nat.le_refl _)]
  · rw [Nat.min_eq_right (by omega), List.drop_of_length_le (by rw [len_toList]; exact Nat.le_refl _), List.drop_of_length_le (by rw [len_toList]; omega)]
    simp
/-! torn writes -/
def mixS (p q : Str) (n : Nat) : Str := takeS p n ++ dropS q n
def mixO (p q : List Nat) (n : Nat) : List Nat := p.take n ++ q.drop n
theorem mixS_len {p q : Str} {n : Nat} : (mixS p q n).length ≤ n + (q.length - n) := by
  unfold mixS
  have h1 := takeS_len p n
  have h2 := dropS_len q n
  rw [Str.length_append]
  omega
theorem mixO_len {p q : List Nat} {n : Nat} : (mixO p q n).length ≤ n + (q.length - n) := by
  unfold mixO
  rw [List.length_append, List.length_take, List.length_drop]
  omega
theorem mixO_mem {p q : List Nat} {n m : Nat} (h : ∀ b ∈ p, b < m) (h' : ∀ b ∈ q, b < m) : ∀ b ∈ mixO p q n, b < m := by
  intro b hb
  unfold mixO at hb
  rcases List.mem_append.mp hb with hb | hb
  · exact h b (List.mem_of_mem_take hb)
  · exact h' b (List.mem_of_mem_drop hb)
theorem odD_cut (o : List Nat) (q : List Nat) (n : Nat) : (odD o).take n ++ (odD q).drop n = odD (mixO o q n) := by
  unfold odD mixO
  rw [List.map_append, List.map_take, List.map_drop]
def oldP (ps : List Str) (b : Nat) : Str := ps.getD b ⟨#[]⟩
def oldC (ps : List Str) (od : List Nat) : Wr → DV
  | .piece b _ => .str (oldP ps b) | .order _ => .tup (odD od)
def newC : Wr → DV
  | .piece _ p => .str p | .order o => .tup (odD o)
def afterP (ps : List Str) : Wr → List Str
  | .piece b p => ps.set b p | .order _ => ps
def afterO (od : List Nat) : Wr → List Nat
  | .piece _ _ => od | .order o => o
/-- the states that are left, as pairs -/
def tornOf (ps : List Str) (od : List Nat) : Wr → List (List Str × List Nat)
  | .piece b p => (List.range p.length).map fun n => (ps.set b (mixS p (oldP ps b) n), od)
  | .order o => (List.range o.length).map fun n => (ps, mixO o od n)
def readingsOf (ps : List Str) (od : List Nat) (w : Wr) (tn : Bool) : List Str :=
  (if tn = true then (tornOf ps od w).map fun s => textOf s.1 s.2 else [textOf ps od]) ++ [textOf (afterP ps w) (afterO od w)]
def okText (a t r : Str) : Bool := inD (.str r) [.str a, .str t]
def safeOf (ps : List Str) (od : List Nat) (w : Wr) (tn : Bool) (t : Str) : Bool := (readingsOf ps od w tn).all (okText (textOf ps od) t)
/-! bounds -/
structure Bd (ps : List Str) (od : List Nat) : Prop where
  hps : ps.length ≤ 4
  hp : ∀ p ∈ ps, p.length ≤ 4
  hod : od.length ≤ 6
  hb : ∀ b ∈ od, b < ps.length
structure VS (ls : Str) (ps : List Str) (od : List Nat) : Prop where
  hls : letterSet ls
  hps1 : 1 ≤ ps.length
  hps : ps.length ≤ 4
  hp : ∀ p ∈ ps, wordOk ls 2 p = true
  hod : od.length ≤ 3
  hb : ∀ b ∈ od, b < ps.length
def VW (ls : Str) (n : Nat) : Wr → Prop
  | .piece b p => b < n ∧ wordOk ls 2 p = true | .order o => o.length ≤ 3 ∧ ∀ b ∈ o, b < n
theorem wordOk_len {ls z : Str} {m : Nat} (h : wordOk ls m z = true) : z.length ≤ m := by
  unfold wordOk at h
  rw [Bool.and_eq_true] at h
  exact of_decide_eq_true h.1
theorem VS.bd {ls : Str} {ps : List Str} {od : List Nat} (v : VS ls ps od) : Bd ps od := ⟨v.hps, fun p hp => Nat.le_trans (wordOk_len (v.hp p hp)) (by decide), Nat.le_trans v.hod (by decide), v.hb⟩
theorem VS.after {ls : Str} {ps : List Str} {od : List Nat} {w : Wr} (v : VS ls ps od) (h : VW ls ps.length w) : VS ls (afterP ps w) (afterO od w) := by
  cases w with
  | piece b p =>
    refine ⟨v.hls, by show 1 ≤ (ps.set b p).length; rw [List.length_set]; exact v.hps1, by show (ps.set b p).length ≤ 4; rw [List.length_set]; exact v.hps, fun q hq => ?_, v.hod, fun c hc => by show c < (ps.set b p).length; rw [List.length_set]; exact v.hb c hc⟩
    rcases List.mem_or_eq_of_mem_set hq with hq | rfl
    · exact v.hp q hq
    · exact h.2
  | order o => exact ⟨v.hls, v.hps1, v.hps, v.hp, h.1, h.2⟩
theorem get_piece {ps : List Str} {b : Nat} (h : b < ps.length) : ps[b]? = some (oldP ps b) := by
  unfold oldP
  rw [List.getD_eq_getElem?_getD, List.getElem?_eq_getElem h]
  rfl
theorem oldP_mem {ps : List Str} {b : Nat} (h : b < ps.length) : oldP ps b ∈ ps := List.mem_of_getElem? (get_piece h)
theorem tornOf_bd {ls : Str} {ps : List Str} {od : List Nat} {w : Wr} (v : VS ls ps od) (h : VW ls ps.length w) : ∀ s ∈ tornOf ps od w, Bd s.1 s.2 := by
  intro s hs
  cases w with
  | piece b p =>
    unfold tornOf at hs
    rw [List.mem_map] at hs
    obtain ⟨n, hn, rfl⟩ := hs
    rw [List.mem_range] at hn
    have h2 := wordOk_len h.2
    have h3 := wordOk_len (v.hp _ (oldP_mem h.1))
    refine ⟨by show (ps.set _ _).length ≤ 4; rw [List.length_set]; exact v.hps, fun q hq => ?_, Nat.le_trans v.hod (by decide), fun c hc => by show c < (ps.set _ _).length; rw [List.length_set]; exact v.hb c hc⟩
    rcases List.mem_or_eq_of_mem_set hq with hq | rfl
    · exact Nat.le_trans (wordOk_len (v.hp q hq)) (by decide)
    · have := mixS_len (p := p) (q := oldP ps b) (n := n)
      omega
  | order o =>
    unfold tornOf at hs
    rw [List.mem_map] at hs
    obtain ⟨n, hn, rfl⟩ := hs
    rw [List.mem_range] at hn
    have h1 := h.1
    have h2 := v.hod
    have := mixO_len (p := o) (q := od) (n := n)
    exact ⟨v.hps, fun q hq => Nat.le_trans (wordOk_len (v.hp q hq)) (by decide), by show (mixO o od n).length ≤ 6; omega, mixO_mem h.2 v.hb⟩
theorem textOf_len {ps : List Str} {od : List Nat} (h : Bd ps od) : (textOf ps od).length ≤ 24 := by
  unfold textOf
  rw [catS_len]
  refine Nat.le_trans (sum_le (m := 4) fun x hx => ?_) ?_
  · rw [List.map_map, List.mem_map] at hx
    obtain ⟨b, hb, rfl⟩ := hx
    exact h.hp _ (oldP_mem (h.hb b hb))
  · rw [List.length_map, List.length_map]
    have := h.hod
    omega
end SP

namespace SP
open PySem L2 PD
/-- a write that changes something -/
def chg (ps : List Str) (od : List Nat) : Wr → Bool
  | .piece b p => !decide (p = oldP ps b) | .order o => !decide (o = od)
theorem isWr_d {ls : Str} {ps : List Str} {od : List Nat} {w : Wr} (h : VW ls ps.length w) : isWr ls ps od w.d = chg ps od w := by
  cases w with
  | piece b p =>
    show (decide (("piece" : Str) = "piece") && isBlock ps.length (.int b) && isWord ls 2 (.str p) && !decide (p = oldP ps (b : Int).toNat)) = _
    have e1 : isBlock ps.length (.int b) = true := by
      show (decide ((0 : Int) ≤ b) && decide ((b : Int) < ps.length)) = true
      have := h.1
      rw [decide_eq_true (by omega), decide_eq_true (by omega)]
      rfl
    have e2 : isWord ls 2 (.str p) = true := h.2
    rw [e1, e2, Int.toNat_natCast, decide_eq_true rfl]
    rfl
  | order o =>
    show (decide (("order" : Str) = "order") && isOrder ps.length (.tup (odD o)) && !(DV.tup (odD o)).eqv (.tup (odD od))) = _
    rw [isOrder_of h.1 h.2, eqv_odD, decide_eq_true rfl]
    rfl
theorem pieces_word {ls : Str} (h : letterSet ls) : ∀ p ∈ piecesOf ls, wordOk ls 2 p = true := by rcases h with rfl | rfl <;> decide +kernel
theorem orders_ok {n : Nat} (h : n ≤ 4) : ∀ o ∈ ordersOf n, o.length ≤ 3 ∧ ∀ b ∈ o, b < n := by
  have z : ∀ n ≤ 4, ∀ o ∈ ordersOf n, o.length ≤ 3 ∧ ∀ b ∈ o, b < n := by decide +kernel
  exact z n h
theorem writes_ok {ls : Str} {ps : List Str} {od : List Nat} (v : VS ls ps od) : ∀ w ∈ writesOf ls ps od, VW ls ps.length w ∧ chg ps od w = true := by
  intro w hw
  unfold writesOf at hw
  rcases List.mem_append.mp hw with hw | hw
  · rw [List.mem_flatMap] at hw
    obtain ⟨q, hq, hw⟩ := hw
    rw [List.mem_map] at hw
    obtain ⟨p, hp, rfl⟩ := hw
    rw [List.mem_filter] at hp
    obtain ⟨q1, b⟩ := q
    have hb := List.mem_zipIdx_iff_getElem?.mp hq
    obtain ⟨hb1, hb2⟩ := List.getElem?_eq_some_iff.mp hb
    refine ⟨⟨hb1, pieces_word v.hls p hp.1⟩, ?_⟩
    have e : oldP ps b = q1 := by
      have := get_piece hb1
      rw [hb] at this
      exact (Option.some.inj this).symm
    show (!decide (p = oldP ps b)) = true
    rw [e]
    exact hp.2
  · rw [List.mem_map] at hw
    obtain ⟨o, ho, rfl⟩ := hw
    rw [List.mem_filter] at ho
    exact ⟨orders_ok v.hps o ho.1, ho.2⟩
theorem writes_len {ls : Str} {ps : List Str} {od : List Nat} (v : VS ls ps od) : (writesOf ls ps od).length ≤ 137 := by
  unfold writesOf
  rw [List.length_append, List.length_map, List.length_flatMap]
  have h2 := Nat.le_trans (List.length_filter_le (fun o => !decide (o = od)) (ordersOf ps.length)) (ordersOf_len v.hps)
  have hp13 := piecesOf_len v.hls
  have h1 := sum_le (l := ps.zipIdx.map fun p => (((piecesOf ls).filter fun n => !decide (n = p.1)).map fun n => Wr.piece p.2 n).length) (m := 13) (by
    intro x hx
    rw [List.mem_map] at hx
    obtain ⟨p, _, rfl⟩ := hx
    rw [List.length_map]
    exact Nat.le_trans (List.length_filter_le _ _) hp13)
  rw [List.length_map, List.length_zipIdx] at h1
  have := v.hps
  omega
/-- the safe writes -/
def safesOf (ls : Str) (ps : List Str) (od : List Nat) (tn : Bool) (t : Str) : List Wr := (writesOf ls ps od).filter fun w => safeOf ps od w tn t
/-- writes one after the other -/
def chain (ls : Str) : List Str → List Nat → List Wr → Prop
  | _, _, [] => True
  | ps, od, w :: ws => VW ls ps.length w ∧ chg ps od w = true ∧ chain ls (afterP ps w) (afterO od w) ws
def endP : List Str → List Wr → List Str
  | ps, [] => ps
  | ps, w :: ws => endP (afterP ps w) ws
def endO : List Nat → List Wr → List Nat
  | od, [] => od
  | od, w :: ws => endO (afterO od w) ws
theorem afterP_len (ps : List Str) (w : Wr) : (afterP ps w).length = ps.length := by
  cases w with
  | piece b p => exact List.length_set ..
  | order o => rfl
theorem chain_snoc {ls : Str} : ∀ {ws : List Wr} {ps : List Str} {od : List Nat} {w : Wr}, chain ls ps od ws → VW ls (endP ps ws).length w → chg (endP ps ws) (endO od ws) w = true → chain ls ps od (ws ++ [w])
  | [], _, _, _, _, h1, h2 => ⟨h1, h2, trivial⟩
  | _ :: ws, _, _, _, h, h1, h2 => ⟨h.1, h.2.1, chain_snoc (ws := ws) h.2.2 h1 h2⟩
theorem endP_snoc : ∀ (ws : List Wr) (ps : List Str) (w : Wr), endP ps (ws ++ [w]) = afterP (endP ps ws) w
  | [], _, _ => rfl
  | _ :: ws, ps, w => endP_snoc ws _ w
theorem endO_snoc : ∀ (ws : List Wr) (od : List Nat) (w : Wr), endO od (ws ++ [w]) = afterO (endO od ws) w
  | [], _, _ => rfl
  | _ :: ws, od, w => endO_snoc ws _ w
theorem chain_take {ls : Str} : ∀ {ws : List Wr} {ps : List Str} {od : List Nat}, chain ls ps od ws → ∀ {i : Nat} {w : Wr}, ws[i]? = some w → VW ls (endP ps (ws.take i)).length w ∧ chg (endP ps (ws.take i)) (endO od (ws.take i)) w = true
  | [], _, _, _, _, _, h => by simp at h
  | w :: ws, ps, od, c, 0, u, h => by
    have e : w = u := Option.some.inj h
    subst e
    exact ⟨c.1, c.2.1⟩
  | w :: ws, ps, od, c, i + 1, u, h => chain_take (ws := ws) c.2.2 (i := i) h
theorem VS.chain {ls : Str} : ∀ {ws : List Wr} {ps : List Str} {od : List Nat}, VS ls ps od → SP.chain ls ps od ws → VS ls (endP ps ws) (endO od ws)
  | [], _, _, v, _ => v
  | w :: ws, _, _, v, c => VS.chain (ws := ws) (v.after c.1) c.2.2
theorem chain_pre {ls : Str} : ∀ {ws : List Wr} {ps : List Str} {od : List Nat} (i : Nat), chain ls ps od ws → chain ls ps od (ws.take i)
  | [], _, _, i, c => by rw [List.take_nil]; exact c
  | w :: ws, _, _, 0, c => trivial
  | w :: ws, _, _, i + 1, c => ⟨c.1, c.2.1, chain_pre (ws := ws) i c.2.2⟩
def priceOf (pp op : Int) : Wr → Int
  | .piece _ _ => pp | .order _ => op
def costOf (pp op : Int) (ws : List Wr) : Int := (ws.map (priceOf pp op)).sum
/-- the states on the way, from the file's own -/
def statesD (ps : List Str) (od : List Nat) (ws : List Wr) : List DV := (List.range (ws.length + 1)).map fun i => stD (endP ps (ws.take i)) (endO od (ws.take i))
theorem statesD_snoc (ps : List Str) (od : List Nat) (ws : List Wr) (i : Nat) (h : i < ws.length) : statesD ps od (ws.take (i + 1)) = statesD ps od (ws.take i) ++ [stD (endP ps (ws.take (i + 1))) (endO od (ws.take (i + 1)))] := by
  unfold statesD
  have l1 : (ws.take (i + 1)).length = i + 1 := by rw [List.length_take]; omega
  have l2 : (ws.take i).length = i := by rw [List.length_take]; omega
  rw [l1, l2, List.range_succ, List.map_append]
  congr 1
  · refine List.map_congr_left fun j hj => ?_
    rw [List.mem_range] at hj
    rw [List.take_take, List.take_take, Nat.min_eq_left (by omega), Nat.min_eq_left (by omega)]
  · show [stD (endP ps ((ws.take (i + 1)).take (i + 1))) (endO od ((ws.take (i + 1)).take (i + 1)))] = _
    rw [List.take_take, Nat.min_self]
theorem statesD_last (ps : List Str) (od : List Nat) (ws : List Wr) : atI (statesD ps od ws) (-1) = some (stD (endP ps ws) (endO od ws)) := by
  unfold statesD
  rw [List.range_succ, List.map_append]
  have e : ([ws.length] : List Nat).map (fun i => stD (endP ps (ws.take i)) (endO od (ws.take i))) = [stD (endP ps ws) (endO od ws)] := by
    show [stD (endP ps (ws.take ws.length)) (endO od (ws.take ws.length))] = _
    rw [List.take_length]
  rw [e]
  unfold atI ixN
  rw [List.length_append, List.length_map, List.length_range, if_neg (by omega)]
  rw [if_pos (by simp; omega)]
  show ((_ : List DV))[((-1 : Int) + ((ws.length + [stD (endP ps ws) (endO od ws)].length : Nat) : Int)).toNat]? = _
  rw [show ((-1 : Int) + ((ws.length + [stD (endP ps ws) (endO od ws)].length : Nat) : Int)).toNat = ws.length by simp; omega]
  rw [List.getElem?_append_right (by rw [List.length_map, List.length_range]; exact Nat.le_refl _), List.length_map, List.length_range, Nat.sub_self]
  rfl
end SP

namespace SP
open PySem PySem.Spec PyProof.Rows L2 PD
def topS (i : Nat) : Stmt := PySem.Challenge.pw_safepatch_k01_whole_writes.main.body.getD i (.Pass ⟨0, 0, 0, 0⟩)
abbrev sNumber : Stmt := topS 10
abbrev sWord : Stmt := topS 11
abbrev sPiece : Stmt := topS 12
abbrev sText : Stmt := topS 13
abbrev sBlock : Stmt := topS 14
abbrev sOrder : Stmt := topS 15
abbrev sSWrite : Stmt := topS 16
abbrev sContents : Stmt := topS 17
abbrev sAllPieces : Stmt := topS 18
abbrev sAllOrders : Stmt := topS 19
abbrev sSWrites : Stmt := topS 20
abbrev sSText : Stmt := topS 21
abbrev sOld : Stmt := topS 22
abbrev sPut : Stmt := topS 23
abbrev sSAfter : Stmt := topS 24
abbrev sTorn : Stmt := topS 25
abbrev sReadings : Stmt := topS 26
abbrev sIsSafe : Stmt := topS 27
/-- the module's numbers -/
structure Cs (g : Gb) : Prop where
  pl : ∃ t, g.mg "PIECE_LETTERS" = some (.int 2 t)
  ob : ∃ t, g.mg "ORDER_BLOCKS" = some (.int 3 t)
  tl : ∃ t, g.mg "TEXT_LETTERS" = some (.int 6 t)
variable {g : Gb}
theorem scNumber : FnScope ["value"] ["value"] (defScope sNumber) := ⟨rfl, rfl, rfl, by decide +kernel, rfl, by decide +kernel, by decide +kernel⟩
def R_number : List DV → DV → Prop := fun ds d => ∃ v, ds = [v] ∧ v.isObj = false ∧ d = .bl (isNum v)
theorem ok_number (B : Bt g) {f : Addr} {fd : FuncData} (F : Fun g.K "is_number" "is_number" sNumber f fd) : FnOk g.P g.w g.K g.mg g.base CX0 1 f fd ["value"] (spR g.K R_number) := by
  refine fn_ok F scNumber (fun ds d ⟨v, e, _⟩ => by rw [e]; rfl) fun ds d ⟨v, e, hk, ed⟩ => ?_
  subst e ed
  refine dss_one (ds_ret (de_and (de_isInt B hk (de_v 0)) fun _ => de_one (de_not (de_isBool B hk (de_v 0)))) ?_)
  cases v <;> rfl
theorem scWord : FnScope ["letters", "most", "value", "letter"] ["letters", "most", "value"] (defScope sWord) := ⟨rfl, rfl, rfl, by decide +kernel, rfl, by decide +kernel, by decide +kernel⟩
def R_word : List DV → DV → Prop := fun ds d => ∃ (ls : Str) (m : Nat) (v : DV), ds = [.str ls, .int m, v] ∧ fit v = true ∧ d = .bl (isWord ls m v)
theorem ok_word (B : Bt g) {f : Addr} {fd : FuncData} (F : Fun g.K "is_word" "is_word" sWord f fd) : FnOk g.P g.w g.K g.mg g.base CX0 1 f fd ["letters", "most", "value"] (spR g.K R_word) := by
  refine fn_ok F scWord (fun ds d ⟨ls, m, v, e, _⟩ => by rw [e]; rfl) fun ds d ⟨ls, m, v, e, hf, ed⟩ => ?_
  subst e ed
  have hk := fit_obj hf
  cases v with
  | str z =>
    have hz := fit_str hf
    refine dss_one (ds_ret (de_and (x := true) (de_isStr B hk (de_v 2)) fun _ => de_and (de_leI (de_lenS B.len hz (de_v 2)) (de_v 1)) fun _ => de_one (de_all (bs := z.cps.toList.map (codeOk ls)) B.all (DE.is (dl_rL (own := [("letter", 3)]) scWord.nd (by decide +kernel) (rL.ev (is := [3]) (di_s (de_v 2)) ?_ (by decide)
      (fun d => [.val (.str ls), .val (.int m), .val (.str z), .val d]) (fun _ => true) (fun d => match d with | .str x => .bl (codeOk ls x.cps[0]!) | _ => .non) (fun d hd => dg_n 3 scWord.nd) (fun d hd => dts_nil) (fun d hd _ => ?_))).de ?_))) ?_)
    · unfold signD
      rw [List.length_map, Array.length_toList]
      exact hz
    · unfold signD at hd
      rw [List.mem_map] at hd
      obtain ⟨c, hc, rfl⟩ := hd
      exact de_inSign (de_v 3) (de_v 0)
    · unfold signD
      rw [filt, List.map_map, List.map_map]
      rfl
    · show DV.bl _ = DV.bl _
      congr 1
      show (true && (decide ((z.length : Int) ≤ (m : Int)) && ((z.cps.toList.map (codeOk ls)).all id))) = wordOk ls m z
      unfold wordOk
      rw [List.all_map, Bool.true_and]
      congr 1
      exact decide_eq_decide.mpr (by omega)
  | _ => exact dss_one (ds_ret (de_and (x := false) (y := true) (de_isStr B hk (de_v 2)) fun z => by cases z) rfl)
theorem scPiece : FnScope ["letters", "value"] ["letters", "value"] (defScope sPiece) := ⟨rfl, rfl, rfl, by decide +kernel, rfl, by decide +kernel, by decide +kernel⟩
def R_piece : List DV → DV → Prop := fun ds d => ∃ (ls : Str) (v : DV), ds = [.str ls, v] ∧ fit v = true ∧ d = .bl (isWord ls 2 v)
theorem ok_piece (C : Cs g) (W : Fn g 1 "is_word" R_word) {f : Addr} {fd : FuncData} (F : Fun g.K "is_piece" "is_piece" sPiece f fd) : FnOk g.P g.w g.K g.mg g.base CX0 2 f fd ["letters", "value"] (spR g.K R_piece) := by
  refine fn_ok F scPiece (fun ds d ⟨ls, v, e, _⟩ => by rw [e]; rfl) fun ds d ⟨ls, v, e, hf, ed⟩ => ?_
  subst e ed
  obtain ⟨t, ht⟩ := C.pl
  exact dss_one (ds_ret (de_call W (da_cons (de_v 0) (da_cons (de_gl (v := .int 2) ht ⟨t, rfl⟩ fun S => .int 2) (da_cons (de_v 1) da_nil))) ⟨ls, 2, v, rfl, hf, rfl⟩) rfl)
theorem scText : FnScope ["letters", "value"] ["letters", "value"] (defScope sText) := ⟨rfl, rfl, rfl, by decide +kernel, rfl, by decide +kernel, by decide +kernel⟩
def R_text : List DV → DV → Prop := fun ds d => ∃ (ls : Str) (v : DV), ds = [.str ls, v] ∧ fit v = true ∧ d = .bl (isWord ls 6 v)
theorem ok_text (C : Cs g) (W : Fn g 1 "is_word" R_word) {f : Addr} {fd : FuncData} (F : Fun g.K "is_text" "is_text" sText f fd) : FnOk g.P g.w g.K g.mg g.base CX0 2 f fd ["letters", "value"] (spR g.K R_text) := by
  refine fn_ok F scText (fun ds d ⟨ls, v, e, _⟩ => by rw [e]; rfl) fun ds d ⟨ls, v, e, hf, ed⟩ => ?_
  subst e ed
  obtain ⟨t, ht⟩ := C.tl
  exact dss_one (ds_ret (de_call W (da_cons (de_v 0) (da_cons (de_gl (v := .int 6) ht ⟨t, rfl⟩ fun S => .int 6) (da_cons (de_v 1) da_nil))) ⟨ls, 6, v, rfl, hf, rfl⟩) rfl)
theorem scBlock : FnScope ["blocks", "value"] ["blocks", "value"] (defScope sBlock) := ⟨rfl, rfl, rfl, by decide +kernel, rfl, by decide +kernel, by decide +kernel⟩
def R_block : List DV → DV → Prop := fun ds d => ∃ (n : Nat) (v : DV), ds = [.int n, v] ∧ fit v = true ∧ d = .bl (isBlock n v)
theorem ok_block (N : Fn g 1 "is_number" R_number) {f : Addr} {fd : FuncData} (F : Fun g.K "is_block" "is_block" sBlock f fd) : FnOk g.P g.w g.K g.mg g.base CX0 2 f fd ["blocks", "value"] (spR g.K R_block) := by
  refine fn_ok F scBlock (fun ds d ⟨n, v, e, _⟩ => by rw [e]; rfl) fun ds d ⟨n, v, e, hf, ed⟩ => ?_
  subst e ed
  have hk := fit_obj hf
  cases v with
  | int i => exact dss_one (ds_ret (de_and (x := true) (de_call N (da_cons (de_v 1) da_nil) ⟨_, rfl, hk, rfl⟩) fun _ => de_one (de_leLt de_int (de_v 1) (de_v 0))) rfl)
  | _ => exact dss_one (ds_ret (de_and (x := false) (y := true) (de_call N (da_cons (de_v 1) da_nil) ⟨_, rfl, hk, rfl⟩) fun z => by cases z) rfl)
theorem scOrder : FnScope ["blocks", "value", "block"] ["blocks", "value"] (defScope sOrder) := ⟨rfl, rfl, rfl, by decide +kernel, rfl, by decide +kernel, by decide +kernel⟩
def R_order : List DV → DV → Prop := fun ds d => ∃ (n : Nat) (v : DV), ds = [.int n, v] ∧ fit v = true ∧ d = .bl (isOrder n v)
theorem ok_order (B : Bt g) (C : Cs g) (Bl : Fn g 2 "is_block" R_block) {f : Addr} {fd : FuncData} (F : Fun g.K "is_order" "is_order" sOrder f fd) : FnOk g.P g.w g.K g.mg g.base CX0 3 f fd ["blocks", "value"] (spR g.K R_order) := by
  refine fn_ok F scOrder (fun ds d ⟨n, v, e, _⟩ => by rw [e]; rfl) fun ds d ⟨n, v, e, hf, ed⟩ => ?_
  subst e ed
  have hk := fit_obj hf
  obtain ⟨t, ht⟩ := C.ob
  cases v with
  | tup xs =>
    obtain ⟨hl, hfs⟩ := fit_tup hf
    refine dss_cons (ds_if (x := decide (3 < xs.length)) (DT.is (dt_w (dw_or (dt_not (dt_e (de_isTup B hk (de_v 1)))) fun _ => dw_or1 (dt_gtI (de_len B.len rfl (de_v 1)) (de_gl (v := .int 3) ht ⟨t, rfl⟩ fun S => .int 3)))) ?_) (fun h => dss_one (ds_ret de_bl ?_)) fun h => dss_nil ?_)
    · show (false || decide ((3 : Int) < (xs.length : Int))) = _
      rw [Bool.false_or]
      exact decide_eq_decide.mpr (by omega)
    · have := of_decide_eq_true h
      show DV.bl false = .bl (decide (xs.length ≤ 3) && _)
      rw [decide_eq_false (by omega)]
      rfl
    · refine dss_one (ds_ret (de_all (bs := xs.map (isBlock n)) B.all (DE.is (dl_rL (own := [("block", 2)]) scOrder.nd (by decide +kernel) (rL.ev (is := [2]) (di_t (de_v 1)) hl (by decide)
        (fun d => [.val (.int n), .val (.tup xs), .val d]) (fun _ => true) (fun d => .bl (isBlock n d)) (fun d hd => dg_n 2 scOrder.nd) (fun d hd => dts_nil) (fun d hd _ => de_call Bl (da_cons (de_v 0) (da_cons (de_v 2) da_nil)) ⟨n, d, rfl, fits_mem hfs hd, rfl⟩))).de ?_)) ?_)
      · rw [filt, List.map_map]
        rfl
      · have := of_decide_eq_false h
        show DV.bl _ = .bl (decide (xs.length ≤ 3) && _)
        rw [decide_eq_true (by omega), List.all_map]
        rfl
  | _ => exact dss_cons (ds_if (x := true) (dt_w (dw_or (x := true) (y := true) (dt_not (dt_e (de_isTup B hk (de_v 1)))) fun z => by cases z)) (fun h => dss_one (ds_ret de_bl rfl)) fun h => by cases h)
end SP

namespace SP
open PySem PySem.Spec PyProof.Rows L2 PD
variable {g : Gb}
theorem _root_.PD.EvL.is {K : PySem.W.Frag} {te : TE} {ρ : Rho} {ds ds' : List DV} (h : EvL K te ρ ds) (e : ds = ds') : EvL K te ρ ds' := by rw [← e]; exact h
theorem scContents : FnScope ["empty", "items", "most", "found", "longest", "_", "content", "item"] ["empty", "items", "most"] (defScope sContents) := ⟨rfl, rfl, rfl, by decide +kernel, rfl, by decide +kernel, by decide +kernel⟩
def R_contents : List DV → DV → Prop := fun ds d => ∃ (e : DV) (is : List DV) (m : Nat), ds = [e, .lst is, .int m] ∧ m ≤ 3 ∧ is.length ≤ 4 ∧ ((shortS 0 e = true ∧ is.all (shortS 1) = true) ∨ (shortT 0 e = true ∧ is.all (shortT 1) = true)) ∧ d = .lst (contC e is m)
theorem de_addC {l : Lc} {ρ : Rho} {a b : Expr} {pos : Pos} {da db : DV} {m n : Nat} (hm : m + n ≤ 100000) (h : (shortS m da = true ∧ shortS n db = true) ∨ (shortT m da = true ∧ shortT n db = true)) (ha : DE g l a ρ da) (hb : DE g l b ρ db) : DE g l (.BinOp a .Add b pos) ρ (addD da db) := by
  rcases h with ⟨h1, h2⟩ | ⟨h1, h2⟩
  · cases da <;> first | cases h1 | skip
    cases db <;> first | cases h2 | skip
    have := of_decide_eq_true h1
    have := of_decide_eq_true h2
    exact de_addS (by omega) ha hb
  · cases da <;> first | cases h1 | skip
    cases db <;> first | cases h2 | skip
    have := of_decide_eq_true h1
    have := of_decide_eq_true h2
    exact de_catT (by omega) ha hb
theorem ok_contents (B : Bt g) {f : Addr} {fd : FuncData} (F : Fun g.K "contents" "contents" sContents f fd) : FnOk g.P g.w g.K g.mg g.base CX0 1 f fd ["empty", "items", "most"] (spR g.K R_contents) := by
  refine fn_ok F scContents (fun ds d ⟨e, is, m, q, _⟩ => by rw [q]; rfl) fun ds d ⟨e, is, m, q, hm, hi, hk, ed⟩ => ?_
  subst q ed
  refine dss_cons (ds_setL 3 scContents.nd (dl_lst (da_cons (de_v 0) da_nil)) (dss_cons (ds_set 4 scContents.nd (dl_lst (da_cons (de_v 0) da_nil)).de (dss_cons (ds_for (is := [5]) (di_r (n := m) B.range (by omega) (de_v 2))
    (fun i ρ => ∃ x5 : EV, ρ = [.val e, .val (.lst is), .val (.int m), .own (contC e is i), .val (.lst (nthC e is i)), x5, .un, .un]) ⟨_, rfl⟩ ?_ ?_)))))
  · rintro i d ρ hd ⟨x5, rfl⟩
    have hi' : i < m := by
      have := (List.getElem?_eq_some_iff.mp hd).1
      rwa [rangeD_len] at this
    refine ⟨_, dg_n 5 scContents.nd, dss_cons (ds_lc2V (own := [("content", 6), ("item", 7)]) (vs1 := [7]) 4 scContents.nd (by decide +kernel) (by decide) (ds := nthC e is (i + 1)) (el_only [0, 1, 2, 4] ?_) ?_)⟩
    · refine EvL.is (rL2.ev (is := [6]) (is1 := [7]) (ds := nthC e is i) (di_l (de_v 4)) (by decide) (by decide)
        (fun d => [.val e, .val (.lst is), .val (.int m), .un, .val (.lst (nthC e is i)), .un, .val d, .un]) (fun _ => true) (fun _ => is) (fun d c => [.val e, .val (.lst is), .val (.int m), .un, .val (.lst (nthC e is i)), .un, .val d, .val c]) (fun _ _ => true) addD
        (fun d hd => rfl) ?_ (fun d hd => dg_n 6 scContents.nd) (fun d hd => dts_nil) (fun d hd _ => di_l (de_v 1)) (fun d hd _ c hc => dg_n 7 scContents.nd) (fun d hd _ c hc => dts_nil) (fun d hd _ c hc _ => de_addC (m := i) (n := 1) (by omega) ?_ (de_v 6) (de_v 7))) ?_
      · rw [filt, filt]
        exact Nat.le_trans (nthC_le (e := e) hi (show i + 1 ≤ 3 by omega)) (by decide)
      · rcases hk with ⟨h1, h2⟩ | ⟨h1, h2⟩
        · exact .inl ⟨nthS h1 h2 i d hd, List.all_eq_true.mp h2 c hc⟩
        · exact .inr ⟨nthT h1 h2 i d hd, List.all_eq_true.mp h2 c hc⟩
      · rw [filt, filt]
        rfl
    · refine dss_one (ds_extend 3 rfl (de_v 4) ?_ ⟨_, rfl⟩)
      have h1 := contC_le (e := e) hi (show i ≤ 3 by omega)
      have h2 := nthC_le (e := e) hi (show i + 1 ≤ 3 by omega)
      omega
  · rintro ρ ⟨x5, rfl⟩
    rw [rangeD_len]
    exact dss_freeze 3 rfl (dss_one (ds_ret (de_v 3) rfl))
theorem scAllPieces : FnScope ["letters"] ["letters"] (defScope sAllPieces) := ⟨rfl, rfl, rfl, by decide +kernel, rfl, by decide +kernel, by decide +kernel⟩
def R_allp : List DV → DV → Prop := fun ds d => ∃ ls : Str, letterSet ls ∧ ds = [.str ls] ∧ d = .lst (psD (piecesOf ls))
theorem ok_allp (B : Bt g) (C : Cs g) (Co : Fn g 1 "contents" R_contents) {f : Addr} {fd : FuncData} (F : Fun g.K "all_pieces" "all_pieces" sAllPieces f fd) : FnOk g.P g.w g.K g.mg g.base CX0 2 f fd ["letters"] (spR g.K R_allp) := by
  refine fn_ok F scAllPieces (fun ds d ⟨ls, _, e, _⟩ => by rw [e]; rfl) fun ds d ⟨ls, hls, e, ed⟩ => ?_
  subst e ed
  obtain ⟨t, ht⟩ := C.pl
  have hz : ls.length ≤ 100000 := by rcases hls with rfl | rfl <;> decide
  refine dss_one (ds_ret (de_call Co (da_cons de_str (da_cons (de_listS B.list hz (de_v 0)) (da_cons (de_gl (v := .int 2) ht ⟨t, rfl⟩ fun S => .int 2) da_nil))) ⟨.str ⟨#[]⟩, signD ls, 2, rfl, by decide, ?_, .inl ⟨rfl, ?_⟩, rfl⟩) ?_)
  · rw [signD_ones, psD_len]
    exact Nat.le_trans (onesS_len hls) (by decide)
  · rw [signD_ones]
    exact shortS_ones ls
  · show DV.lst _ = DV.lst _
    rw [signD_ones, cont_pieces]
theorem scAllOrders : FnScope ["blocks", "block"] ["blocks"] (defScope sAllOrders) := ⟨rfl, rfl, rfl, by decide +kernel, rfl, by decide +kernel, by decide +kernel⟩
def R_allo : List DV → DV → Prop := fun ds d => ∃ n : Nat, n ≤ 4 ∧ ds = [.int n] ∧ d = .lst ((ordersOf n).map oD)
theorem ok_allo (B : Bt g) (C : Cs g) (Co : Fn g 1 "contents" R_contents) {f : Addr} {fd : FuncData} (F : Fun g.K "all_orders" "all_orders" sAllOrders f fd) : FnOk g.P g.w g.K g.mg g.base CX0 2 f fd ["blocks"] (spR g.K R_allo) := by
  refine fn_ok F scAllOrders (fun ds d ⟨n, _, e, _⟩ => by rw [e]; rfl) fun ds d ⟨n, hn, e, ed⟩ => ?_
  subst e ed
  obtain ⟨t, ht⟩ := C.ob
  have e1 : (rangeD 0 n).map (fun d => DV.tup [d]) = (onesO n).map oD := by
    unfold rangeD onesO
    rw [List.map_map, List.map_map]
    refine List.map_congr_left fun i _ => ?_
    show DV.tup [.int (0 + (i : Int))] = DV.tup [.int (i : Int)]
    rw [Int.zero_add]
  refine dss_one (ds_ret (de_call Co (da_cons (de_tup da_nil) (da_cons (DE.is (dl_rL (own := [("block", 1)]) scAllOrders.nd (by decide +kernel) (rL.ev (is := [1]) (di_r B.range (by omega) (de_v 0)) (by rw [rangeD_len]; omega) (by decide)
    (fun d => [.val (.int n), .val d]) (fun _ => true) (fun d => .tup [d]) (fun d hd => dg_n 1 scAllOrders.nd) (fun d hd => dts_nil) (fun d hd _ => de_tup (da_cons (de_v 1) da_nil)))).de (congrArg DV.lst ((congrArg (List.map _) (filt _)).trans e1))) (da_cons (de_gl (v := .int 3) ht ⟨t, rfl⟩ fun S => .int 3) da_nil))) ⟨oD [], (onesO n).map oD, 3, rfl, by decide, ?_, .inr ⟨rfl, shortT_ones n⟩, rfl⟩) ?_)
  · unfold onesO
    rw [List.length_map, List.length_map, List.length_range]
    exact hn
  · show DV.lst _ = DV.lst _
    rw [cont_orders]
theorem scSWrites : FnScope ["letters", "state", "pieces", "order", "choices", "found", "block", "old", "new"] ["letters", "state"] (defScope sSWrites) := ⟨rfl, rfl, rfl, by decide +kernel, rfl, by decide +kernel, by decide +kernel⟩
def wrsD (ws : List Wr) : DV := .lst (ws.map Wr.d)
def R_swrites : List DV → DV → Prop := fun ds d => ∃ (ls : Str) (ps : List Str) (od : List Nat), letterSet ls ∧ ps.length ≤ 4 ∧ od.length ≤ 100 ∧ ds = [.str ls, stD ps od] ∧ d = wrsD (writesOf ls ps od)
theorem enumD_mem {ps : List Str} {d : DV} (h : d ∈ enumD (psD ps)) : ∃ (b : Nat) (p : Str), d = .tup [.int b, .str p] ∧ ps[b]? = some p := by
  unfold enumD psD at h
  rw [List.zipIdx_map, List.map_map, List.mem_map] at h
  obtain ⟨q, hq, rfl⟩ := h
  obtain ⟨p, b⟩ := q
  refine ⟨b, p, rfl, ?_⟩
  exact List.mem_zipIdx_iff_getElem?.mp hq
theorem ok_swrites (B : Bt g) (Ap : Fn g 2 "all_pieces" R_allp) (Ao : Fn g 2 "all_orders" R_allo) {f : Addr} {fd : FuncData} (F : Fun g.K "state_writes" "state_writes" sSWrites f fd) : FnOk g.P g.w g.K g.mg g.base CX0 3 f fd ["letters", "state"] (spR g.K R_swrites) := by
  refine fn_ok F scSWrites (fun ds d ⟨ls, ps, od, _, _, _, e, _⟩ => by rw [e]; rfl) fun ds d ⟨ls, ps, od, hls, hps, hod, e, ed⟩ => ?_
  subst e ed
  have hp13 := piecesOf_len hls
  have hw1 := writes_pieces ls ps
  refine dss_cons (ds_asg (de_v 1) (dg_tup (dgs_cons (dg_n 2 scSWrites.nd) (dgs_cons (dg_n 3 scSWrites.nd) dgs_nil))) (dss_cons (ds_set 4 scSWrites.nd (de_call Ap (da_cons (de_v 0) da_nil) ⟨ls, hls, rfl, rfl⟩)
    (dss_cons (ds_lc2O (own := [("block", 6), ("old", 7), ("new", 8)]) (vs1 := [8]) 5 scSWrites.nd (by decide +kernel) (by decide) (ds := ((ps.zipIdx.flatMap fun p => ((piecesOf ls).filter fun n => !decide (n = p.1)).map fun n => Wr.piece p.2 n)).map Wr.d) ?_ ?_)))))
  · refine EvL.is (rL2.ev (is := [6, 7]) (is1 := [8]) (ds := enumD (psD ps)) (di_enumT B.enum (de_v 2)) (by decide) (by decide)
      (fun d => match d with | .tup [b, p] => [.val (.str ls), .val (stD ps od), .val (.tup (psD ps)), .val (.tup (odD od)), .val (.lst (psD (piecesOf ls))), .un, .val b, .val p, .un] | _ => []) (fun _ => true) (fun _ => psD (piecesOf ls))
      (fun d c => match d with | .tup [b, p] => [.val (.str ls), .val (stD ps od), .val (.tup (psD ps)), .val (.tup (odD od)), .val (.lst (psD (piecesOf ls))), .un, .val b, .val p, .val c] | _ => []) pieceNew pieceWr ?_ ?_ ?_ (fun d hd => dts_nil) ?_ ?_ ?_ ?_) ((congrArg (List.flatMap _) (filt _)).trans hw1)
    · intro d hd
      obtain ⟨b, p, rfl, hb⟩ := enumD_mem hd
      rfl
    · rw [filt, hw1, List.length_map, List.length_flatMap]
      refine Nat.le_trans (sum_le (m := 13) ?_) ?_
      · intro x hx
        rw [List.mem_map] at hx
        obtain ⟨p, _, rfl⟩ := hx
        rw [List.length_map]
        exact Nat.le_trans (List.length_filter_le _ _) hp13
      · rw [List.length_map, List.length_zipIdx]
        omega
    · intro d hd
      obtain ⟨b, p, rfl, hb⟩ := enumD_mem hd
      exact dg_tup (dgs_cons (dg_n 6 scSWrites.nd) (dgs_cons (dg_n 7 scSWrites.nd) dgs_nil))
    · intro d hd _
      obtain ⟨b, p, rfl, hb⟩ := enumD_mem hd
      exact di_l (de_v 4)
    · intro d hd _ c hc
      obtain ⟨b, p, rfl, hb⟩ := enumD_mem hd
      exact dg_n 8 scSWrites.nd
    · intro d hd _ c hc
      obtain ⟨b, p, rfl, hb⟩ := enumD_mem hd
      unfold psD at hc
      rw [List.mem_map] at hc
      obtain ⟨n, hn, rfl⟩ := hc
      exact dts_one (dt_neS (de_v 8) (de_v 7))
    · intro d hd _ c hc _
      obtain ⟨b, p, rfl, hb⟩ := enumD_mem hd
      exact de_tup (da_cons de_str (da_cons (de_v 6) (da_cons (de_v 8) da_nil)))
  · refine dss_cons (ds_extend 5 rfl (DE.is (dl_rL (own := [("new", 8)]) scSWrites.nd (by decide +kernel) (rL.ev (is := [8]) (ds := (ordersOf ps.length).map oD) (di_l (de_call Ao (da_cons (de_len B.len rfl (de_v 2)) da_nil) ⟨ps.length, hps, by rw [psD_len], rfl⟩)) ?_ (by decide)
      (fun d => [.val (.str ls), .val (stD ps od), .val (.tup (psD ps)), .val (.tup (odD od)), .val (.lst (psD (piecesOf ls))), .own _, .un, .un, .val d]) (orderNew od) orderWr (fun d hd => dg_n 8 scSWrites.nd) ?_ ?_)).de (congrArg DV.lst (writes_orders ps.length od))) ?_ (dss_freeze 5 rfl (dss_one (ds_ret (de_v 5) ?_))))
    · rw [List.length_map]
      exact Nat.le_trans (ordersOf_len hps) (by decide)
    · intro d hd
      rw [List.mem_map] at hd
      obtain ⟨o, ho, rfl⟩ := hd
      exact dts_one (dt_neD (ok_odD _) (ok_odD _) (de_v 8) (de_v 3))
    · intro d hd _
      exact de_tup (da_cons de_str (da_cons (de_v 8) da_nil))
    · rw [List.length_map, List.length_map, List.length_map]
      have h1 : ((ps.zipIdx.flatMap fun p => ((piecesOf ls).filter fun n => !decide (n = p.1)).map fun n => Wr.piece p.2 n)).length ≤ 52 := by
        rw [List.length_flatMap]
        refine Nat.le_trans (sum_le (m := 13) ?_) ?_
        · intro x hx
          rw [List.mem_map] at hx
          obtain ⟨p, _, rfl⟩ := hx
          rw [List.length_map]
          exact Nat.le_trans (List.length_filter_le _ _) hp13
        · rw [List.length_map, List.length_zipIdx]
          omega
      have h2 := Nat.le_trans (List.length_filter_le (fun o => !decide (o = od)) (ordersOf ps.length)) (ordersOf_len hps)
      omega
    · show DV.lst _ = DV.lst _
      unfold writesOf
      rw [List.map_append]
end SP

namespace SP
open PySem PySem.Spec PyProof.Rows L2 PD
variable {g : Gb}
theorem scSText : FnScope ["state", "pieces", "order", "block"] ["state"] (defScope sSText) := ⟨rfl, rfl, rfl, by decide +kernel, rfl, by decide +kernel, by decide +kernel⟩
def R_stext : List DV → DV → Prop := fun ds d => ∃ ps od, Bd ps od ∧ ds = [stD ps od] ∧ d = .str (textOf ps od)
theorem ok_stext {f : Addr} {fd : FuncData} (F : Fun g.K "state_text" "state_text" sSText f fd) : FnOk g.P g.w g.K g.mg g.base CX0 1 f fd ["state"] (spR g.K R_stext) := by
  refine fn_ok F scSText (fun ds d ⟨ps, od, _, e, _⟩ => by rw [e]; rfl) fun ds d ⟨ps, od, h, e, ed⟩ => ?_
  subst e ed
  refine dss_cons (ds_asg (de_v 0) (dg_tup (dgs_cons (dg_n 1 scSText.nd) (dgs_cons (dg_n 2 scSText.nd) dgs_nil))) (dss_one (ds_ret (de_join (sep := ⟨#[]⟩) (ys := od.map (oldP ps)) (da := .lst ((od.map (oldP ps)).map DV.str)) de_str (DE.is (dl_rL (own := [("block", 3)]) scSText.nd (by decide +kernel) (rL.ev (is := [3]) (di_t (de_v 2)) ?_ (by decide)
    (fun d => [.val (stD ps od), .val (.tup (psD ps)), .val (.tup (odD od)), .val d]) (fun _ => true) (fun d => match d with | .int i => .str (oldP ps i.toNat) | _ => .non) (fun d hd => dg_n 3 scSText.nd) (fun d hd => dts_nil) (fun d hd _ => ?_))).de ?_) rfl ?_) ?_)))
  · rw [odD_len]
    exact Nat.le_trans h.hod (by decide)
  · unfold odD at hd
    rw [List.mem_map] at hd
    obtain ⟨b, hb, rfl⟩ := hd
    exact de_ixT (atI_nat (psD_get (get_piece (h.hb b hb)))) (de_v 1) (de_v 3)
  · rw [filt]
    unfold odD
    rw [List.map_map, List.map_map]
    refine congrArg DV.lst (List.map_congr_left fun b _ => ?_)
    show DV.str (oldP ps ((b : Int)).toNat) = DV.str (oldP ps b)
    rw [Int.toNat_natCast]
  · show ((od.map (oldP ps)).map (·.length)).sum + (od.map (oldP ps)).length * 0 ≤ _
    have := textOf_len h
    unfold textOf at this
    rw [catS_len] at this
    have e : ((od.map (oldP ps)).map (·.length)).sum ≤ 24 := this
    omega
  · show DV.str _ = DV.str _
    rw [join_cat]
    rfl
theorem scOld : FnScope ["state", "write", "pieces", "order"] ["state", "write"] (defScope sOld) := ⟨rfl, rfl, rfl, by decide +kernel, rfl, by decide +kernel, by decide +kernel⟩
def okW (n : Nat) : Wr → Prop
  | .piece b _ => b < n | .order _ => True
theorem VW.ok {ls : Str} {n : Nat} {w : Wr} (h : VW ls n w) : okW n w := by
  cases w with
  | piece b p => exact h.1
  | order o => trivial
def R_old : List DV → DV → Prop := fun ds d => ∃ ps od w, okW ps.length w ∧ ds = [stD ps od, Wr.d w] ∧ d = oldC ps od w
theorem ok_old {f : Addr} {fd : FuncData} (F : Fun g.K "old_content" "old_content" sOld f fd) : FnOk g.P g.w g.K g.mg g.base CX0 1 f fd ["state", "write"] (spR g.K R_old) := by
  refine fn_ok F scOld (fun ds d ⟨ps, od, w, _, e, _⟩ => by rw [e]; rfl) fun ds d ⟨ps, od, w, h, e, ed⟩ => ?_
  subst e ed
  refine dss_cons (ds_asg (de_v 0) (dg_tup (dgs_cons (dg_n 2 scOld.nd) (dgs_cons (dg_n 3 scOld.nd) dgs_nil))) ?_)
  cases w with
  | piece b p =>
    exact dss_cons (ds_if (x := false) (DT.is (dt_eqS (de_ixT (xs := [.str "piece", .int b, .str p]) (i := 0) (d := .str "piece") rfl (de_v 1) de_int) de_str) (by decide +kernel)) (fun h => by cases h) fun _ => dss_nil (dss_one (ds_ret (de_ixT (atI_nat (psD_get (get_piece h))) (de_v 2) (de_ixT (xs := [.str "piece", .int b, .str p]) (i := 1) (d := .int b) rfl (de_v 1) de_int)) rfl)))
  | order o =>
    exact dss_cons (ds_if (x := true) (DT.is (dt_eqS (de_ixT (xs := [.str "order", .tup (odD o)]) (i := 0) (d := .str "order") rfl (de_v 1) de_int) de_str) (by decide +kernel)) (fun _ => dss_one (ds_ret (de_v 3) rfl)) fun h => by cases h)
theorem scPut : FnScope ["state", "write", "content", "pieces", "order", "block"] ["state", "write", "content"] (defScope sPut) := ⟨rfl, rfl, rfl, by decide +kernel, rfl, by decide +kernel, by decide +kernel⟩
def R_put : List DV → DV → Prop := fun ds d => (∃ ps od b p c, b < ps.length ∧ ps.length ≤ 4 ∧ ds = [stD ps od, Wr.d (.piece b p), .str c] ∧ d = stD (ps.set b c) od) ∨ ∃ ps od o c, ds = [stD ps od, Wr.d (.order o), .tup (odD c)] ∧ d = stD ps c
theorem ok_put {f : Addr} {fd : FuncData} (F : Fun g.K "put_content" "put_content" sPut f fd) : FnOk g.P g.w g.K g.mg g.base CX0 1 f fd ["state", "write", "content"] (spR g.K R_put) := by
  refine fn_ok F scPut (fun ds d h => ?_) fun ds d h => ?_
  · rcases h with ⟨_, _, _, _, _, _, _, e, _⟩ | ⟨_, _, _, _, e, _⟩ <;> rw [e] <;> rfl
  · rcases h with ⟨ps, od, b, p, c, hb, hps, e, ed⟩ | ⟨ps, od, o, c, e, ed⟩
    · subst e ed
      have e1 : (1 : Int) + (b : Int) = ((b + 1 : Nat) : Int) := by omega
      refine dss_cons (ds_asg (de_v 0) (dg_tup (dgs_cons (dg_n 3 scPut.nd) (dgs_cons (dg_n 4 scPut.nd) dgs_nil))) (dss_cons (ds_if (x := false) (DT.is (dt_eqS (de_ixT (xs := [.str "piece", .int b, .str p]) (i := 0) (d := .str "piece") rfl (de_v 1) de_int) de_str) (by decide +kernel)) (fun h => by cases h) fun _ => dss_nil
        (dss_cons (ds_set 5 scPut.nd (de_ixT (xs := [.str "piece", .int b, .str p]) (i := 1) (d := .int b) rfl (de_v 1) de_int) (dss_one (ds_ret (de_tup (da_cons (DE.is (de_catT ?_ (de_catT ?_ (de_slT (de_v 3) dp_none (dp_some (de_v 5))) (de_tup (da_cons (de_v 2) da_nil))) (de_slT (j := none) (i := some ((b + 1 : Nat) : Int)) (de_v 3) (dp_some (DE.is (de_add (de_v 5) de_int) ?_)) dp_none)) ?_) (da_cons (de_v 4) da_nil))) rfl)))))))
      · rw [cutG_to (by rw [psD_len]; omega), cutG_from, List.length_append, List.length_take, List.length_drop, psD_len]
        show min b ps.length + 1 + (ps.length - (b + 1)) ≤ 100000
        omega
      · rw [cutG_to (by rw [psD_len]; omega), List.length_take, psD_len]
        show min b ps.length + 1 ≤ 100000
        omega
      · show DV.int ((b : Int) + 1) = DV.int ((b + 1 : Nat) : Int)
        congr 1
      · rw [cutG_to (by rw [psD_len]; omega), cutG_from, set_cut (by rw [psD_len]; exact hb)]
        unfold psD
        rw [List.map_set]
    · subst e ed
      exact dss_cons (ds_asg (de_v 0) (dg_tup (dgs_cons (dg_n 3 scPut.nd) (dgs_cons (dg_n 4 scPut.nd) dgs_nil))) (dss_cons (ds_if (x := true) (DT.is (dt_eqS (de_ixT (xs := [.str "order", .tup (odD o)]) (i := 0) (d := .str "order") rfl (de_v 1) de_int) de_str) (by decide +kernel)) (fun _ => dss_one (ds_ret (de_tup (da_cons (de_v 3) (da_cons (de_v 2) da_nil))) rfl)) fun h => by cases h)))
theorem scSAfter : FnScope ["state", "write"] ["state", "write"] (defScope sSAfter) := ⟨rfl, rfl, rfl, by decide +kernel, rfl, by decide +kernel, by decide +kernel⟩
def R_safter : List DV → DV → Prop := fun ds d => ∃ ps od w, okW ps.length w ∧ ps.length ≤ 4 ∧ ds = [stD ps od, Wr.d w] ∧ d = stD (afterP ps w) (afterO od w)
theorem ok_safter (Pu : Fn g 1 "put_content" R_put) {f : Addr} {fd : FuncData} (F : Fun g.K "state_after" "state_after" sSAfter f fd) : FnOk g.P g.w g.K g.mg g.base CX0 2 f fd ["state", "write"] (spR g.K R_safter) := by
  refine fn_ok F scSAfter (fun ds d ⟨ps, od, w, _, _, e, _⟩ => by rw [e]; rfl) fun ds d ⟨ps, od, w, h, hps, e, ed⟩ => ?_
  subst e ed
  cases w with
  | piece b p => exact dss_one (ds_ret (de_call Pu (da_cons (de_v 0) (da_cons (de_v 1) (da_cons (de_ixT (xs := [.str "piece", .int b, .str p]) (i := -1) (d := .str p) rfl (de_v 1) (de_neg de_int)) da_nil))) (.inl ⟨ps, od, b, p, p, h, hps, rfl, rfl⟩)) rfl)
  | order o => exact dss_one (ds_ret (de_call Pu (da_cons (de_v 0) (da_cons (de_v 1) (da_cons (de_ixT (xs := [.str "order", .tup (odD o)]) (i := -1) (d := .tup (odD o)) rfl (de_v 1) (de_neg de_int)) da_nil))) (.inr ⟨ps, od, o, o, rfl, rfl⟩)) rfl)
theorem scTorn : FnScope ["state", "write", "old", "new", "count"] ["state", "write"] (defScope sTorn) := ⟨rfl, rfl, rfl, by decide +kernel, rfl, by decide +kernel, by decide +kernel⟩
def R_torn : List DV → DV → Prop := fun ds d => ∃ ls ps od w, VS ls ps od ∧ VW ls ps.length w ∧ ds = [stD ps od, Wr.d w] ∧ d = .lst ((tornOf ps od w).map fun s => stD s.1 s.2)
theorem ok_torn (B : Bt g) (Ol : Fn g 1 "old_content" R_old) (Pu : Fn g 1 "put_content" R_put) {f : Addr} {fd : FuncData} (F : Fun g.K "torn_states" "torn_states" sTorn f fd) : FnOk g.P g.w g.K g.mg g.base CX0 2 f fd ["state", "write"] (spR g.K R_torn) := by
  refine fn_ok F scTorn (fun ds d ⟨ls, ps, od, w, _, _, e, _⟩ => by rw [e]; rfl) fun ds d ⟨ls, ps, od, w, v, h, e, ed⟩ => ?_
  subst e ed
  have hps := v.hps
  cases w with
  | piece b p =>
    have hp := wordOk_len h.2
    have hq := wordOk_len (v.hp _ (oldP_mem h.1))
    refine dss_cons (ds_set 2 scTorn.nd (de_call Ol (da_cons (de_v 0) (da_cons (de_v 1) da_nil)) ⟨ps, od, .piece b p, h.1, rfl, rfl⟩) (dss_cons (ds_set 3 scTorn.nd (de_ixT (xs := [.str "piece", .int b, .str p]) (i := -1) (d := .str p) rfl (de_v 1) (de_neg de_int))
      (dss_one (ds_ret (DE.is (dl_rL (own := [("count", 4)]) scTorn.nd (by decide +kernel) (rL.ev (is := [4]) (di_r (n := p.length) B.range (by omega) (de_lenS B.len (by omega) (de_v 3))) (by rw [rangeD_len]; omega) (by decide)
        (fun d => [.val (stD ps od), .val (Wr.d (.piece b p)), .val (.str (oldP ps b)), .val (.str p), .val d]) (fun _ => true) (fun d => match d with | .int i => stD (ps.set b (mixS p (oldP ps b) i.toNat)) od | _ => .non) (fun d hd => dg_n 4 scTorn.nd) (fun d hd => dts_nil) (fun d hd _ => ?_))).de ?_) rfl)))))
    · unfold rangeD at hd
      rw [List.mem_map] at hd
      obtain ⟨n, hn, rfl⟩ := hd
      rw [List.mem_range] at hn
      rw [Int.zero_add]
      have e1 := cutS_to (x := p) (k := n) (by omega)
      have e2 := cutS_from (x := oldP ps b) (k := n)
      have l1 := takeS_len p n
      have l2 := dropS_len (oldP ps b) n
      refine de_call Pu (da_cons (de_v 0) (da_cons (de_v 1) (da_cons (de_addS (i := takeS p n) (j := dropS (oldP ps b) n) (by omega) (DE.is (de_slS (z := p) (by omega) (de_v 3) dp_none (dp_some (de_v 4))) (by rw [e1])) (DE.is (de_slS (z := oldP ps b) (by omega) (de_v 2) (dp_some (de_v 4)) dp_none) (by rw [e2]))) da_nil))) (.inl ⟨ps, od, b, p, _, h.1, hps, rfl, ?_⟩)
      show stD (ps.set b (mixS p (oldP ps b) ((n : Int)).toNat)) od = _
      rw [Int.toNat_natCast]
      rfl
    · rw [filt]
      unfold rangeD tornOf
      rw [List.map_map, List.map_map]
      refine congrArg DV.lst (List.map_congr_left fun n _ => ?_)
      show stD (ps.set b (mixS p (oldP ps b) ((0 : Int) + (n : Int)).toNat)) od = stD (ps.set b (mixS p (oldP ps b) n)) od
      rw [Int.zero_add, Int.toNat_natCast]
  | order o =>
    have h1 := h.1
    have h2 := v.hod
    refine dss_cons (ds_set 2 scTorn.nd (de_call Ol (da_cons (de_v 0) (da_cons (de_v 1) da_nil)) ⟨ps, od, .order o, trivial, rfl, rfl⟩) (dss_cons (ds_set 3 scTorn.nd (de_ixT (xs := [.str "order", .tup (odD o)]) (i := -1) (d := .tup (odD o)) rfl (de_v 1) (de_neg de_int))
      (dss_one (ds_ret (DE.is (dl_rL (own := [("count", 4)]) scTorn.nd (by decide +kernel) (rL.ev (is := [4]) (di_r (n := (odD o).length) B.range (by rw [odD_len]; omega) (de_len B.len rfl (de_v 3))) (by rw [rangeD_len, odD_len]; omega) (by decide)
        (fun d => [.val (stD ps od), .val (Wr.d (.order o)), .val (.tup (odD od)), .val (.tup (odD o)), .val d]) (fun _ => true) (fun d => match d with | .int i => stD ps (mixO o od i.toNat) | _ => .non) (fun d hd => dg_n 4 scTorn.nd) (fun d hd => dts_nil) (fun d hd _ => ?_))).de ?_) rfl)))))
    · unfold rangeD at hd
      rw [List.mem_map] at hd
      obtain ⟨n, hn, rfl⟩ := hd
      rw [List.mem_range, odD_len] at hn
      rw [Int.zero_add]
      have e1 := cutG_to (xs := odD o) (k := n) (by rw [odD_len]; omega)
      have e2 := cutG_from (xs := odD od) (k := n)
      refine de_call Pu (da_cons (de_v 0) (da_cons (de_v 1) (da_cons (DE.is (de_catT ?_ (de_slT (de_v 3) dp_none (dp_some (de_v 4))) (de_slT (de_v 2) (dp_some (de_v 4)) dp_none)) (congrArg DV.tup ?_)) da_nil))) (.inr ⟨ps, od, o, mixO o od n, rfl, ?_⟩)
      · rw [e1, e2, List.length_take, List.length_drop, odD_len, odD_len]
        omega
      · rw [e1, e2, odD_cut]
      · show stD ps (mixO o od ((n : Int)).toNat) = _
        rw [Int.toNat_natCast]
    · rw [filt]
      unfold rangeD tornOf
      rw [odD_len, List.map_map, List.map_map]
      refine congrArg DV.lst (List.map_congr_left fun n _ => ?_)
      show stD ps (mixO o od ((0 : Int) + (n : Int)).toNat) = stD ps (mixO o od n)
      rw [Int.zero_add, Int.toNat_natCast]
end SP

namespace SP
open PySem PySem.Spec PyProof.Rows L2 PD
variable {g : Gb}
theorem scReadings : FnScope ["state", "write", "torn", "texts", "left"] ["state", "write", "torn"] (defScope sReadings) := ⟨rfl, rfl, rfl, by decide +kernel, rfl, by decide +kernel, by decide +kernel⟩
def R_readings : List DV → DV → Prop := fun ds d => ∃ ls ps od w tn, VS ls ps od ∧ VW ls ps.length w ∧ ds = [stD ps od, Wr.d w, .bl tn] ∧ d = .lst ((readingsOf ps od w tn).map DV.str)
theorem tornOf_len {ls : Str} {ps : List Str} {od : List Nat} {w : Wr} (h : VW ls ps.length w) : (tornOf ps od w).length ≤ 3 := by
  cases w with
  | piece b p =>
    have := wordOk_len h.2
    unfold tornOf
    rw [List.length_map, List.length_range]
    omega
  | order o =>
    unfold tornOf
    rw [List.length_map, List.length_range]
    exact h.1
theorem ok_readings (St : Fn g 1 "state_text" R_stext) (To : Fn g 2 "torn_states" R_torn) (Af : Fn g 2 "state_after" R_safter) {f : Addr} {fd : FuncData} (F : Fun g.K "state_readings" "state_readings" sReadings f fd) : FnOk g.P g.w g.K g.mg g.base CX0 3 f fd ["state", "write", "torn"] (spR g.K R_readings) := by
  refine fn_ok F scReadings (fun ds d ⟨ls, ps, od, w, tn, _, _, e, _⟩ => by rw [e]; rfl) fun ds d ⟨ls, ps, od, w, tn, v, h, e, ed⟩ => ?_
  subst e ed
  have hv := v.after h
  have rest : ∀ L : List Str, L.length ≤ 3 → L ++ [textOf (afterP ps w) (afterO od w)] = readingsOf ps od w tn → DSs g ⟨2, ["state", "write", "torn", "texts", "left"], defScope sReadings, fun _ => true⟩ ((defBody sReadings).drop 1) [.val (stD ps od), .val (Wr.d w), .val (.bl tn), .own (L.map DV.str), .un] { nx := fun _ => DV.lst ((readingsOf ps od w tn).map DV.str) = .non, rt := fun r => r = DV.lst ((readingsOf ps od w tn).map DV.str) } := by
    intro L hL eL
    refine dss_cons (ds_append 3 rfl (de_call St (da_cons (de_call Af (da_cons (de_v 0) (da_cons (de_v 1) da_nil)) ⟨ps, od, w, h.ok, v.hps, rfl, rfl⟩) da_nil) ⟨_, _, hv.bd, rfl, rfl⟩) (by rw [List.length_map]; omega) (dss_freeze 3 rfl (dss_one (ds_ret (de_v 3) ?_))))
    show DV.lst _ = DV.lst _
    rw [← eL, List.map_append]
    rfl
  cases tn with
  | true =>
    refine dss_cons (ds_if (x := true) (dt_e (de_v 2)) (fun _ => dss_one (ds_lcO (own := [("left", 4)]) 3 scReadings.nd (by decide +kernel) (EvL.is (rL.ev (is := [4]) (ds := (tornOf ps od w).map fun s => stD s.1 s.2) (di_l (de_call To (da_cons (de_v 0) (da_cons (de_v 1) da_nil)) ⟨ls, ps, od, w, v, h, rfl, rfl⟩)) ?_ (by decide)
      (fun d => [.val (stD ps od), .val (Wr.d w), .val (.bl true), .un, .val d]) (fun _ => true) (fun d => match d with | .tup [.tup a, .tup b] => .str (textOf (a.map fun x => match x with | .str z => z | _ => ⟨#[]⟩) (b.map fun x => match x with | .int i => i.toNat | _ => 0)) | _ => .non) (fun d hd => dg_n 4 scReadings.nd) (fun d hd => dts_nil) (fun d hd _ => ?_)) ?_) (rest ((tornOf ps od w).map fun s => textOf s.1 s.2) ?_ rfl))) fun h => by cases h)
    · rw [List.length_map]
      exact Nat.le_trans (tornOf_len h) (by decide)
    · rw [List.mem_map] at hd
      obtain ⟨s, hs, rfl⟩ := hd
      refine de_call St (da_cons (de_v 4) da_nil) ⟨s.1, s.2, tornOf_bd v h s hs, rfl, ?_⟩
      show DV.str (textOf ((psD s.1).map _) ((odD s.2).map _)) = _
      unfold psD odD
      rw [List.map_map, List.map_map]
      congr 2
      · exact (List.map_congr_left fun x _ => rfl).trans (List.map_id _)
      · exact (List.map_congr_left fun x _ => Int.toNat_natCast x).trans (List.map_id _)
    · rw [filt, List.map_map, List.map_map]
      refine List.map_congr_left fun s _ => ?_
      show DV.str (textOf ((psD s.1).map _) ((odD s.2).map _)) = DV.str (textOf s.1 s.2)
      unfold psD odD
      rw [List.map_map, List.map_map]
      congr 2
      · exact (List.map_congr_left fun x _ => rfl).trans (List.map_id _)
      · exact (List.map_congr_left fun x _ => Int.toNat_natCast x).trans (List.map_id _)
    · rw [List.length_map]
      exact tornOf_len h
  | false =>
    exact dss_cons (ds_if (x := false) (dt_e (de_v 2)) (fun h => by cases h) fun _ => dss_one (ds_setL 3 scReadings.nd (dl_lst (da_cons (de_call St (da_cons (de_v 0) da_nil) ⟨ps, od, v.bd, rfl, rfl⟩) da_nil)) (rest [textOf ps od] (show 1 ≤ 3 by decide) rfl)))
theorem scIsSafe : FnScope ["state", "write", "torn", "text", "allowed", "reading"] ["state", "write", "torn", "text"] (defScope sIsSafe) := ⟨rfl, rfl, rfl, by decide +kernel, rfl, by decide +kernel, by decide +kernel⟩
def R_issafe : List DV → DV → Prop := fun ds d => ∃ ls ps od w tn t, VS ls ps od ∧ VW ls ps.length w ∧ ds = [stD ps od, Wr.d w, .bl tn, .str t] ∧ d = .bl (safeOf ps od w tn t)
theorem readingsOf_len {ls : Str} {ps : List Str} {od : List Nat} {w : Wr} {tn : Bool} (h : VW ls ps.length w) : (readingsOf ps od w tn).length ≤ 4 := by
  unfold readingsOf
  rw [List.length_append]
  have := tornOf_len (od := od) h
  cases tn
  · show 1 + 1 ≤ 4
    decide
  · rw [if_pos rfl, List.length_map]
    show _ + 1 ≤ 4
    omega
theorem ok_issafe (B : Bt g) (St : Fn g 1 "state_text" R_stext) (Re : Fn g 3 "state_readings" R_readings) {f : Addr} {fd : FuncData} (F : Fun g.K "is_safe_write" "is_safe_write" sIsSafe f fd) : FnOk g.P g.w g.K g.mg g.base CX0 4 f fd ["state", "write", "torn", "text"] (spR g.K R_issafe) := by
  refine fn_ok F scIsSafe (fun ds d ⟨ls, ps, od, w, tn, t, _, _, e, _⟩ => by rw [e]; rfl) fun ds d ⟨ls, ps, od, w, tn, t, v, h, e, ed⟩ => ?_
  subst e ed
  refine dss_cons (ds_set 4 scIsSafe.nd (de_tup (da_cons (de_call St (da_cons (de_v 0) da_nil) ⟨ps, od, v.bd, rfl, rfl⟩) (da_cons (de_v 3) da_nil))) (dss_one (ds_ret (de_all (bs := (readingsOf ps od w tn).map (okText (textOf ps od) t)) B.all (DE.is (dl_rL (own := [("reading", 5)]) scIsSafe.nd (by decide +kernel) (rL.ev (is := [5]) (di_l (de_call Re (da_cons (de_v 0) (da_cons (de_v 1) (da_cons (de_v 2) da_nil))) ⟨ls, ps, od, w, tn, v, h, rfl, rfl⟩)) ?_ (by decide)
    (fun d => [.val (stD ps od), .val (Wr.d w), .val (.bl tn), .val (.str t), .val (.tup [.str (textOf ps od), .str t]), .val d]) (fun _ => true) (fun d => .bl (inD d [.str (textOf ps od), .str t])) (fun d hd => dg_n 5 scIsSafe.nd) (fun d hd => dts_nil) (fun d hd _ => ?_))).de ?_)) ?_)))
  · rw [List.length_map]
    exact Nat.le_trans (readingsOf_len h) (by decide)
  · rw [List.mem_map] at hd
    obtain ⟨s, hs, rfl⟩ := hd
    exact de_in rfl rfl rfl (de_v 5) (de_v 4)
  · rw [filt, List.map_map, List.map_map]
    rfl
  · show DV.bl _ = DV.bl _
    rw [List.all_map]
    rfl
theorem scSWrite : FnScope ["letters", "state", "value", "pieces", "order"] ["letters", "state", "value"] (defScope sSWrite) := ⟨rfl, rfl, rfl, by decide +kernel, rfl, by decide +kernel, by decide +kernel⟩
def R_swrite : List DV → DV → Prop := fun ds d => ∃ (ls : Str) (ps : List Str) (od : List Nat) (v : DV), ps.length ≤ 4 ∧ fit v = true ∧ ds = [.str ls, stD ps od, v] ∧ d = .bl (isWr ls ps od v)
theorem fits2 {a b : DV} (h : fits [a, b] = true) : fit a = true ∧ fit b = true := ⟨fits_mem h (by simp), fits_mem h (by simp)⟩
theorem fits3 {a b c : DV} (h : fits [a, b, c] = true) : fit a = true ∧ fit b = true ∧ fit c = true := ⟨fits_mem h (by simp), fits_mem h (by simp), fits_mem h (by simp)⟩
theorem ok_swrite (B : Bt g) (Pi : Fn g 2 "is_piece" R_piece) (Bl : Fn g 2 "is_block" R_block) (Od : Fn g 3 "is_order" R_order) {f : Addr} {fd : FuncData} (F : Fun g.K "is_state_write" "is_state_write" sSWrite f fd) : FnOk g.P g.w g.K g.mg g.base CX0 4 f fd ["letters", "state", "value"] (spR g.K R_swrite) := by
  refine fn_ok F scSWrite (fun ds d ⟨ls, ps, od, v, _, _, e, _⟩ => by rw [e]; rfl) fun ds d ⟨ls, ps, od, v, hps, hf, e, ed⟩ => ?_
  subst e ed
  have hk := fit_obj hf
  refine dss_cons (ds_asg (de_v 1) (dg_tup (dgs_cons (dg_n 3 scSWrite.nd) (dgs_cons (dg_n 4 scSWrite.nd) dgs_nil))) ?_)
  cases v with
  | tup xs =>
    obtain ⟨hl, hfs⟩ := fit_tup hf
    have stop : ∀ (E : Po), E.rt (.bl false) → (!inD (.int xs.length) [.int 2, .int 3]) = true → DSs g ⟨3, ["letters", "state", "value", "pieces", "order"], defScope sSWrite, fun _ => true⟩ ((defBody sSWrite).drop 1) [.val (.str ls), .val (stD ps od), .val (.tup xs), .val (.tup (psD ps)), .val (.tup (odD od))] E := fun E hE hn =>
      dss_cons (ds_if (x := true) (dt_w (dw_or (x := false) (y := true) (dt_not (dt_e (de_isTup B hk (de_v 2)))) fun _ => dw_or (x := true) (y := true) (DT.is (dt_notIn rfl rfl rfl (de_len B.len rfl (de_v 2)) (de_tup (da_cons de_int (da_cons de_int da_nil)))) hn) fun z => by cases z)) (fun h => dss_one (ds_ret de_bl hE)) fun h => by cases h)
    have go : ∀ (E : Po) (a : DV) (r : List DV), xs = a :: r → (!inD (.int xs.length) [.int 2, .int 3]) = false → (a.isStr = false → E.rt (.bl false)) → (a.isStr = true → DSs g ⟨3, ["letters", "state", "value", "pieces", "order"], defScope sSWrite, fun _ => true⟩ ((defBody sSWrite).drop 2) [.val (.str ls), .val (stD ps od), .val (.tup xs), .val (.tup (psD ps)), .val (.tup (odD od))] E) →
        DSs g ⟨3, ["letters", "state", "value", "pieces", "order"], defScope sSWrite, fun _ => true⟩ ((defBody sSWrite).drop 1) [.val (.str ls), .val (stD ps od), .val (.tup xs), .val (.tup (psD ps)), .val (.tup (odD od))] E := fun E a r ex hn h1 h2 => by
      have ha : fit a = true := fits_mem hfs (by rw [ex]; exact List.mem_cons_self ..)
      refine dss_cons (ds_if (x := !a.isStr) (DT.is (dt_w (dw_or (x := false) (y := !a.isStr) (dt_not (dt_e (de_isTup B hk (de_v 2)))) fun _ => dw_or (x := false) (y := !a.isStr) (DT.is (dt_notIn rfl rfl rfl (de_len B.len rfl (de_v 2)) (de_tup (da_cons de_int (da_cons de_int da_nil)))) hn) fun _ => dw_or1 (dt_not (dt_e (de_isStr B (fit_obj ha) (de_ixT (xs := xs) (i := 0) (d := a) (by rw [ex]; exact atI_nat (j := 0) rfl) (de_v 2) de_int)))))) (by simp)) (fun h => dss_one (ds_ret de_bl (h1 (by simpa using h)))) fun h => dss_nil (h2 (by simpa using h)))
    match xs, hfs, hf, stop, go with
    | [], _, _, stop, _ => exact stop _ rfl rfl
    | [a], _, _, stop, _ => exact stop _ (by show DV.bl false = DV.bl (isWr ls ps od (.tup [a])); cases a <;> rfl) rfl
    | [a, b], hfs, hf, _, go =>
      refine go _ a [b] rfl rfl (fun h => ?_) fun h => ?_
      · show DV.bl false = DV.bl (isWr ls ps od (.tup [a, b]))
        cases a <;> first | rfl | cases h
      · obtain ⟨s, rfl⟩ : ∃ s, a = .str s := by cases a <;> first | exact ⟨_, rfl⟩ | cases h
        obtain ⟨h1, h2⟩ := fits2 hfs
        refine dss_cons (ds_if (x := true) (DT.is (dt_eqI (de_len (ds := [.str s, b]) B.len rfl (de_v 2)) de_int) (show decide ((2 : Int) = 2) = true by decide)) (fun _ => dss_one (ds_ret (d := .bl (isWr ls ps od (.tup [.str s, b]))) (DE.is (de_and (x := decide (s = "order")) (y := isOrder ps.length b && !b.eqv (.tup (odD od))) (de_eqS (de_ixT (xs := [.str s, b]) (i := 0) (d := .str s) rfl (de_v 2) de_int) de_str) fun _ => de_and (x := isOrder ps.length b)
          (de_call Od (da_cons (de_len B.len rfl (de_v 3)) (da_cons (de_ixT (xs := [.str s, b]) (i := 1) (d := b) rfl (de_v 2) de_int) da_nil)) ⟨ps.length, b, by rw [psD_len], h2, rfl⟩) fun ho => de_one ?_) ?_) rfl)) fun h => by cases h)
        · obtain ⟨o, rfl, _, _⟩ := isOrder_form ho
          exact de_neD (ok_odD _) (ok_odD _) (de_ixT (xs := [.str s, .tup (odD o)]) (i := 1) (d := .tup (odD o)) rfl (de_v 2) de_int) (de_v 4)
        · show DV.bl _ = DV.bl (decide (s = "order") && isOrder ps.length b && !b.eqv (.tup (odD od)))
          rw [Bool.and_assoc]
    | [a, b, c], hfs, hf, _, go =>
      refine go _ a [b, c] rfl rfl (fun h => ?_) fun h => ?_
      · show DV.bl false = DV.bl (isWr ls ps od (.tup [a, b, c]))
        cases a <;> first | rfl | cases h
      · obtain ⟨s, rfl⟩ : ∃ s, a = .str s := by cases a <;> first | exact ⟨_, rfl⟩ | cases h
        obtain ⟨h1, h2, h3⟩ := fits3 hfs
        refine dss_cons (ds_if (x := false) (DT.is (dt_eqI (de_len (ds := [.str s, b, c]) B.len rfl (de_v 2)) de_int) (show decide ((3 : Int) = 2) = false by decide)) (fun h => by cases h) fun _ => dss_nil (dss_cons (ds_if (x := !decide (s = "piece") || !isBlock ps.length b) (dt_w (dw_or (y := !isBlock ps.length b) (dt_neS (de_ixT (xs := [.str s, b, c]) (i := 0) (d := .str s) rfl (de_v 2) de_int) de_str) fun _ => dw_or1 (dt_not (dt_e
          (de_call Bl (da_cons (de_len B.len rfl (de_v 3)) (da_cons (de_ixT (xs := [.str s, b, c]) (i := 1) (d := b) rfl (de_v 2) de_int) da_nil)) ⟨ps.length, b, by rw [psD_len], h2, rfl⟩))))) (fun h => dss_one (ds_ret de_bl ?_)) fun h => dss_nil ?_)))
        · show DV.bl false = DV.bl (decide (s = "piece") && isBlock ps.length b && isWord ls 2 c && _)
          congr 1
          cases q1 : decide (s = "piece") <;> cases q2 : isBlock ps.length b <;> rw [q1, q2] at h <;> first | rfl | cases h
        · have hs : decide (s = "piece") = true ∧ isBlock ps.length b = true := by
            cases q1 : decide (s = "piece") <;> cases q2 : isBlock ps.length b <;> rw [q1, q2] at h <;> first | exact ⟨rfl, rfl⟩ | cases h
          obtain ⟨i, rfl⟩ : ∃ i, b = .int i := by cases b <;> first | exact ⟨_, rfl⟩ | exact absurd hs.2 (by simp [isBlock])
          have hb := hs.2
          unfold isBlock at hb
          rw [Bool.and_eq_true, decide_eq_true_eq, decide_eq_true_eq] at hb
          obtain ⟨k, rfl⟩ : ∃ k : Nat, i = (k : Int) := ⟨i.toNat, by omega⟩
          have hk' : k < ps.length := by omega
          refine dss_one (ds_ret (d := .bl (isWr ls ps od (.tup [.str s, .int k, c]))) (DE.is (de_and (x := isWord ls 2 c) (y := !(match c with | .str z => decide (z = oldP ps k) | _ => false)) (de_call Pi (da_cons (de_v 0) (da_cons (de_ixT (xs := [.str s, .int k, c]) (i := 2) (d := c) rfl (de_v 2) de_int) da_nil)) ⟨ls, c, rfl, h3, rfl⟩) fun hw => de_one ?_) ?_) rfl)
          · cases c <;> first | cases hw | skip
            exact de_neS (de_ixT (xs := [.str s, .int k, .str _]) (i := 2) (d := .str _) rfl (de_v 2) de_int) (de_ixT (atI_nat (psD_get (get_piece hk'))) (de_v 3) (de_ixT (xs := [.str s, .int k, .str _]) (i := 1) (d := .int k) rfl (de_v 2) de_int))
          · show DV.bl _ = DV.bl (decide (s = "piece") && isBlock ps.length (.int k) && isWord ls 2 c && !_)
            rw [hs.1, hs.2]
            cases c <;> rfl
    | a :: b :: c :: d :: r, _, _, stop, _ =>
      refine stop _ ?_ ?_
      · show DV.bl false = DV.bl (isWr ls ps od (.tup (a :: b :: c :: d :: r)))
        cases a <;> rfl
      · have e : ∀ n : Int, 4 ≤ n → inD (.int n) [.int 2, .int 3] = false := fun n hn => by
          show ((2 : Int) == n || ((3 : Int) == n || false)) = false
          rw [Bool.or_false, Bool.or_eq_false_iff, beq_eq_false_iff_ne, beq_eq_false_iff_ne]
          constructor <;> omega
        rw [e _ (by simp only [List.length_cons]; omega)]
        rfl
  | _ => exact dss_cons (ds_if (x := true) (dt_w (dw_or (x := true) (y := true) (dt_not (dt_e (de_isTup B hk (de_v 2)))) fun z => by cases z)) (fun h => dss_one (ds_ret de_bl rfl)) fun h => by cases h)
end SP

namespace SP
open PySem PySem.Spec PyProof.Rows L2 PD
variable {g : Gb}
abbrev sFile : Stmt := topS 32
abbrev sIsLetters : Stmt := topS 33
abbrev sArePieces : Stmt := topS 34
abbrev sIsPrice : Stmt := topS 35
abbrev sCheckFile : Stmt := topS 36
abbrev sCheckGoal : Stmt := topS 37
abbrev sFileState : Stmt := topS 38
abbrev sFileAt : Stmt := topS 39
/-- the module's numbers and letters -/
structure Cf (g : Gb) : Prop where
  mb : ∃ t, g.mg "MOST_BLOCKS" = some (.int 4 t)
  mp : ∃ t, g.mg "MOST_PRICE" = some (.int 5 t)
  sets : ∃ T, g.mg "LETTER_SETS" = some (.ref T) ∧ ∀ S, Rp g.K S (.ref T) (.tup [.str "ab", .str "abc"])
def isLets : DV → Bool
  | .str z => inD (.str z) [.str "ab", .str "abc"] | _ => false
theorem scIsLetters : FnScope ["value"] ["value"] (defScope sIsLetters) := ⟨rfl, rfl, rfl, by decide +kernel, rfl, by decide +kernel, by decide +kernel⟩
def R_isl : List DV → DV → Prop := fun ds d => ∃ v, fit v = true ∧ ds = [v] ∧ d = .bl (isLets v)
theorem ok_isl (B : Bt g) (C : Cf g) {f : Addr} {fd : FuncData} (F : Fun g.K "is_letters" "is_letters" sIsLetters f fd) : FnOk g.P g.w g.K g.mg g.base CX0 1 f fd ["value"] (spR g.K R_isl) := by
  refine fn_ok F scIsLetters (fun ds d ⟨v, _, e, _⟩ => by rw [e]; rfl) fun ds d ⟨v, hf, e, ed⟩ => ?_
  subst e ed
  have hk := fit_obj hf
  obtain ⟨T, hT, hr⟩ := C.sets
  cases v with
  | str z => exact dss_one (ds_ret (de_and (x := true) (de_isStr B hk (de_v 0)) fun _ => de_one (de_in rfl rfl rfl (de_v 0) (de_gl (v := .ref T) hT rfl hr))) rfl)
  | _ => exact dss_one (ds_ret (de_and (x := false) (y := true) (de_isStr B hk (de_v 0)) fun z => by cases z) rfl)
def arePieces (ls : Str) : DV → Bool
  | .tup xs => (decide (1 ≤ xs.length) && decide (xs.length ≤ 4)) && xs.all (isWord ls 2) | _ => false
theorem scArePieces : FnScope ["letters", "value", "piece"] ["letters", "value"] (defScope sArePieces) := ⟨rfl, rfl, rfl, by decide +kernel, rfl, by decide +kernel, by decide +kernel⟩
def R_arep : List DV → DV → Prop := fun ds d => ∃ (ls : Str) (v : DV), fit v = true ∧ ds = [.str ls, v] ∧ d = .bl (arePieces ls v)
theorem ok_arep (B : Bt g) (C : Cf g) (Pi : Fn g 2 "is_piece" R_piece) {f : Addr} {fd : FuncData} (F : Fun g.K "are_pieces" "are_pieces" sArePieces f fd) : FnOk g.P g.w g.K g.mg g.base CX0 3 f fd ["letters", "value"] (spR g.K R_arep) := by
  refine fn_ok F scArePieces (fun ds d ⟨ls, v, _, e, _⟩ => by rw [e]; rfl) fun ds d ⟨ls, v, hf, e, ed⟩ => ?_
  subst e ed
  have hk := fit_obj hf
  obtain ⟨t, ht⟩ := C.mb
  cases v with
  | tup xs =>
    obtain ⟨hl, hfs⟩ := fit_tup hf
    refine dss_cons (ds_if (x := !(decide (1 ≤ xs.length) && decide (xs.length ≤ 4))) (DT.is (dt_w (dw_or (x := false) (dt_not (dt_e (de_isTup B hk (de_v 1)))) fun _ => dw_or1 (dt_not (dt_leLe de_int (de_len B.len rfl (de_v 1)) (de_gl (v := .int 4) ht ⟨t, rfl⟩ fun S => .int 4))))) ?_) (fun h => dss_one (ds_ret de_bl ?_)) fun h => dss_nil (dss_one (ds_ret (de_all (bs := xs.map (isWord ls 2)) B.all (DE.is (dl_rL (own := [("piece", 2)]) scArePieces.nd (by decide +kernel) (rL.ev (is := [2]) (di_t (de_v 1)) hl (by decide)
      (fun d => [.val (.str ls), .val (.tup xs), .val d]) (fun _ => true) (fun d => .bl (isWord ls 2 d)) (fun d hd => dg_n 2 scArePieces.nd) (fun d hd => dts_nil) (fun d hd _ => de_call Pi (da_cons (de_v 0) (da_cons (de_v 2) da_nil)) ⟨ls, d, rfl, fits_mem hfs hd, rfl⟩))).de ?_)) ?_)))
    · rw [Bool.false_or]
      congr 1
      congr 1 <;> exact decide_eq_decide.mpr (by omega)
    · show DV.bl false = DV.bl (_ && _)
      rw [Bool.not_eq_true'] at h
      rw [h]
      rfl
    · rw [filt, List.map_map]
      rfl
    · show DV.bl _ = DV.bl (_ && _)
      rw [Bool.not_eq_false'] at h
      rw [h, List.all_map]
      rfl
  | _ => exact dss_cons (ds_if (x := true) (dt_w (dw_or (x := true) (y := true) (dt_not (dt_e (de_isTup B hk (de_v 1)))) fun z => by cases z)) (fun h => dss_one (ds_ret de_bl rfl)) fun h => by cases h)
def isPrice : DV → Bool
  | .int i => decide (1 ≤ i) && decide (i ≤ 5) | _ => false
theorem scIsPrice : FnScope ["value"] ["value"] (defScope sIsPrice) := ⟨rfl, rfl, rfl, by decide +kernel, rfl, by decide +kernel, by decide +kernel⟩
def R_price : List DV → DV → Prop := fun ds d => ∃ v, fit v = true ∧ ds = [v] ∧ d = .bl (isPrice v)
theorem ok_price (C : Cf g) (N : Fn g 1 "is_number" R_number) {f : Addr} {fd : FuncData} (F : Fun g.K "is_price" "is_price" sIsPrice f fd) : FnOk g.P g.w g.K g.mg g.base CX0 2 f fd ["value"] (spR g.K R_price) := by
  refine fn_ok F scIsPrice (fun ds d ⟨v, _, e, _⟩ => by rw [e]; rfl) fun ds d ⟨v, hf, e, ed⟩ => ?_
  subst e ed
  have hk := fit_obj hf
  obtain ⟨t, ht⟩ := C.mp
  cases v with
  | int i => exact dss_one (ds_ret (de_and (x := true) (de_call N (da_cons (de_v 0) da_nil) ⟨_, rfl, hk, rfl⟩) fun _ => de_one (de_leLe de_int (de_v 0) (de_gl (v := .int 5) ht ⟨t, rfl⟩ fun S => .int 5))) rfl)
  | _ => exact dss_one (ds_ret (de_and (x := false) (y := true) (de_call N (da_cons (de_v 0) da_nil) ⟨_, rfl, hk, rfl⟩) fun z => by cases z) rfl)
/-! the class -/
def fgs (ls : Str) (ps : List Str) (od : List Nat) (pp op : Int) (tn : Bool) : List (Str × DV) := [("_letters", .str ls), ("_pieces", .tup (psD ps)), ("_order", .tup (odD od)), ("_piece_price", .int pp), ("_order_price", .int op), ("_torn", .bl tn)]
theorem fgs_ls {ls ps od pp op tn} : (fgs ls ps od pp op tn).lookup ("_letters" : Str) = some (.str ls) := by unfold fgs; rw [List.lookup_cons_self]
theorem look_ne {n m : Str} {d : DV} {r : List (Str × DV)} (h : (n == m) = false) : List.lookup n ((m, d) :: r) = List.lookup n r := by rw [List.lookup_cons, h]
theorem fgs_ps {ls ps od pp op tn} : (fgs ls ps od pp op tn).lookup ("_pieces" : Str) = some (.tup (psD ps)) := by unfold fgs; rw [look_ne (by decide +kernel), List.lookup_cons_self]
theorem fgs_od {ls ps od pp op tn} : (fgs ls ps od pp op tn).lookup ("_order" : Str) = some (.tup (odD od)) := by unfold fgs; rw [look_ne (by decide +kernel), look_ne (by decide +kernel), List.lookup_cons_self]
theorem fgs_pp {ls ps od pp op tn} : (fgs ls ps od pp op tn).lookup ("_piece_price" : Str) = some (.int pp) := by unfold fgs; rw [look_ne (by decide +kernel), look_ne (by decide +kernel), look_ne (by decide +kernel), List.lookup_cons_self]
theorem fgs_op {ls ps od pp op tn} : (fgs ls ps od pp op tn).lookup ("_order_price" : Str) = some (.int op) := by unfold fgs; rw [look_ne (by decide +kernel), look_ne (by decide +kernel), look_ne (by decide +kernel), look_ne (by decide +kernel), List.lookup_cons_self]
theorem fgs_tn {ls ps od pp op tn} : (fgs ls ps od pp op tn).lookup ("_torn" : Str) = some (.bl tn) := by unfold fgs; rw [look_ne (by decide +kernel), look_ne (by decide +kernel), look_ne (by decide +kernel), look_ne (by decide +kernel), look_ne (by decide +kernel), List.lookup_cons_self]
theorem fgs_no {ls ps od pp op tn} {n : Str} (h : ((n == ("_letters" : Str)) || (n == ("_pieces" : Str)) || (n == ("_order" : Str)) || (n == ("_piece_price" : Str)) || (n == ("_order_price" : Str)) || (n == ("_torn" : Str))) = false) : (fgs ls ps od pp op tn).lookup n = none := by
  simp only [Bool.or_eq_false_iff] at h
  obtain ⟨⟨⟨⟨⟨h1, h2⟩, h3⟩, h4⟩, h5⟩, h6⟩ := h
  unfold fgs
  rw [look_ne h1, look_ne h2, look_ne h3, look_ne h4, look_ne h5, look_ne h6]
  rfl
structure Fl (g : Gb) (C : Addr) : Prop where
  kl : Kl g C "File"
  n1 : NoAttr g.K C "_letters"
  n2 : NoAttr g.K C "_pieces"
  n3 : NoAttr g.K C "_order"
  n4 : NoAttr g.K C "_piece_price"
  n5 : NoAttr g.K C "_order_price"
  n6 : NoAttr g.K C "_torn"
/-- return self.x -/
def R_get (C : Addr) (n : Str) : List DV → DV → Prop := fun ds d => ∃ gs, ds = [.obj C gs] ∧ gs.lookup n = some d
theorem ok_get {C : Addr} {x qual n : Str} {st : Stmt} {p1 p2 p3 : Pos} {f : Addr} {fd : FuncData} (c : Cls g.K C) (hn : NoAttr g.K C n) (S : FnScope ["self"] ["self"] (defScope st)) (hb : defBody st = [.Return (some (.Attribute (.Name "self" p1) n p2)) p3]) (F : Fun g.K x qual st f fd) : FnOk g.P g.w g.K g.mg g.base CX0 1 f fd ["self"] (spR g.K (R_get C n)) := by
  refine fn_ok F S (fun ds d ⟨gs, e, _⟩ => by rw [e]; rfl) fun ds d ⟨gs, e, hl⟩ => ?_
  subst e
  rw [hb]
  exact dss_one (ds_ret (de_fld c hn hl (de_v 0 rfl rfl ((S.par "self" (List.Mem.head _)).elim (fun z => .inl z) fun z => .inr (.inl z)))) rfl)
abbrev sFText : Stmt := inClass sFile 7
abbrev sFUsed : Stmt := inClass sFile 8
abbrev sFSpare : Stmt := inClass sFile 9
abbrev sFLen : Stmt := inClass sFile 10
abbrev sFEq : Stmt := inClass sFile 11
theorem scFText : FnScope ["self"] ["self"] (defScope sFText) := ⟨rfl, rfl, rfl, by decide +kernel, rfl, by decide +kernel, by decide +kernel⟩
def fileD (C : Addr) (ls : Str) (ps : List Str) (od : List Nat) (pp op : Int) (tn : Bool) : DV := .obj C (fgs ls ps od pp op tn)
def R_ftext (C : Addr) : List DV → DV → Prop := fun ds d => ∃ ls ps od pp op tn, Bd ps od ∧ ds = [fileD C ls ps od pp op tn] ∧ d = .str (textOf ps od)
theorem ok_ftext {C : Addr} (L : Fl g C) (St : Fn g 1 "state_text" R_stext) {f : Addr} {fd : FuncData} (F : Fun g.K "text" "File.text" sFText f fd) : FnOk g.P g.w g.K g.mg g.base CX0 2 f fd ["self"] (spR g.K (R_ftext C)) := by
  refine fn_ok F scFText (fun ds d ⟨ls, ps, od, pp, op, tn, _, e, _⟩ => by rw [e]; rfl) fun ds d ⟨ls, ps, od, pp, op, tn, h, e, ed⟩ => ?_
  subst e ed
  exact dss_one (ds_ret (de_call St (da_cons (de_tup (da_cons (de_fld L.kl.c L.n2 fgs_ps (de_v 0)) (da_cons (de_fld L.kl.c L.n3 fgs_od (de_v 0)) da_nil))) da_nil) ⟨ps, od, h, rfl, rfl⟩) rfl)
theorem scFUsed : FnScope ["self", "block"] ["self"] (defScope sFUsed) := ⟨rfl, rfl, rfl, by decide +kernel, rfl, by decide +kernel, by decide +kernel⟩
theorem scFSpare : FnScope ["self", "block"] ["self"] (defScope sFSpare) := ⟨rfl, rfl, rfl, by decide +kernel, rfl, by decide +kernel, by decide +kernel⟩
def usedD (ps : List Str) (od : List Nat) : List DV := (rangeD 0 ps.length).filter fun d => inD d (odD od)
def spareD (ps : List Str) (od : List Nat) : List DV := (rangeD 0 ps.length).filter fun d => !inD d (odD od)
theorem flat_od (od : List Nat) : (odD od).all DV.flat = true := by
  rw [List.all_eq_true]
  intro d hd
  unfold odD at hd
  rw [List.mem_map] at hd
  obtain ⟨b, _, rfl⟩ := hd
  rfl
theorem range_int {lo : Int} {n : Nat} {d : DV} (h : d ∈ rangeD lo n) : ∃ i, d = .int i := by
  unfold rangeD at h
  rw [List.mem_map] at h
  obtain ⟨b, _, rfl⟩ := h
  exact ⟨_, rfl⟩
def R_fused (C : Addr) : List DV → DV → Prop := fun ds d => ∃ ls ps od pp op tn, ps.length ≤ 4 ∧ ds = [fileD C ls ps od pp op tn] ∧ d = .lst (usedD ps od)
def R_fspare (C : Addr) : List DV → DV → Prop := fun ds d => ∃ ls ps od pp op tn, ps.length ≤ 4 ∧ ds = [fileD C ls ps od pp op tn] ∧ d = .lst (spareD ps od)
theorem ok_fused {C : Addr} (B : Bt g) (L : Fl g C) {f : Addr} {fd : FuncData} (F : Fun g.K "used" "File.used" sFUsed f fd) : FnOk g.P g.w g.K g.mg g.base CX0 1 f fd ["self"] (spR g.K (R_fused C)) := by
  refine fn_ok F scFUsed (fun ds d ⟨ls, ps, od, pp, op, tn, _, e, _⟩ => by rw [e]; rfl) fun ds d ⟨ls, ps, od, pp, op, tn, h, e, ed⟩ => ?_
  subst e ed
  refine dss_one (ds_ret (DE.is (dl_rL (own := [("block", 1)]) scFUsed.nd (by decide +kernel) (rL.ev (is := [1]) (di_r (n := (psD ps).length) B.range (by rw [psD_len]; omega) (de_len B.len rfl (de_fld L.kl.c L.n2 fgs_ps (de_v 0)))) (by rw [rangeD_len, psD_len]; omega) (by decide)
    (fun d => [.val (fileD C ls ps od pp op tn), .val d]) (fun d => inD d (odD od)) (fun d => d) (fun d hd => dg_n 1 scFUsed.nd) (fun d hd => ?_) (fun d hd _ => de_v 1))).de ?_) rfl)
  · obtain ⟨i, rfl⟩ := range_int hd
    exact dts_one (dt_in rfl rfl (flat_od od) (de_v 1) (de_fld L.kl.c L.n3 fgs_od (de_v 0)))
  · rw [psD_len, List.map_id']
    rfl
theorem ok_fspare {C : Addr} (B : Bt g) (L : Fl g C) {f : Addr} {fd : FuncData} (F : Fun g.K "spare" "File.spare" sFSpare f fd) : FnOk g.P g.w g.K g.mg g.base CX0 1 f fd ["self"] (spR g.K (R_fspare C)) := by
  refine fn_ok F scFSpare (fun ds d ⟨ls, ps, od, pp, op, tn, _, e, _⟩ => by rw [e]; rfl) fun ds d ⟨ls, ps, od, pp, op, tn, h, e, ed⟩ => ?_
  subst e ed
  refine dss_one (ds_ret (DE.is (dl_rL (own := [("block", 1)]) scFSpare.nd (by decide +kernel) (rL.ev (is := [1]) (di_r (n := (psD ps).length) B.range (by rw [psD_len]; omega) (de_len B.len rfl (de_fld L.kl.c L.n2 fgs_ps (de_v 0)))) (by rw [rangeD_len, psD_len]; omega) (by decide)
    (fun d => [.val (fileD C ls ps od pp op tn), .val d]) (fun d => !inD d (odD od)) (fun d => d) (fun d hd => dg_n 1 scFSpare.nd) (fun d hd => ?_) (fun d hd _ => de_v 1))).de ?_) rfl)
  · obtain ⟨i, rfl⟩ := range_int hd
    exact dts_one (dt_notIn rfl rfl (flat_od od) (de_v 1) (de_fld L.kl.c L.n3 fgs_od (de_v 0)))
  · rw [psD_len, List.map_id']
    rfl
theorem scFLen : FnScope ["self"] ["self"] (defScope sFLen) := ⟨rfl, rfl, rfl, by decide +kernel, rfl, by decide +kernel, by decide +kernel⟩
def R_flen (C : Addr) : List DV → DV → Prop := fun ds d => ∃ ls ps od pp op tn, ds = [fileD C ls ps od pp op tn] ∧ d = .int (ps.length : Nat)
theorem ok_flen {C : Addr} (B : Bt g) (L : Fl g C) {f : Addr} {fd : FuncData} (F : Fun g.K "__len__" "File.__len__" sFLen f fd) : FnOk g.P g.w g.K g.mg g.base CX0 1 f fd ["self"] (spR g.K (R_flen C)) := by
  refine fn_ok F scFLen (fun ds d ⟨ls, ps, od, pp, op, tn, e, _⟩ => by rw [e]; rfl) fun ds d ⟨ls, ps, od, pp, op, tn, e, ed⟩ => ?_
  subst e ed
  exact dss_one (ds_ret (de_len B.len rfl (de_fld L.kl.c L.n2 fgs_ps (de_v 0))) (by rw [psD_len]))
end SP

namespace SP
open PySem PySem.Spec PyProof.Rows L2 PD
variable {g : Gb}
theorem word_ok {ls z : Str} {m : Nat} (hl : letterSet ls) (h : wordOk ls m z = true) : PyData.strOk z = true := by
  unfold wordOk at h
  rw [Bool.and_eq_true] at h
  unfold PyData.strOk
  rw [← Array.all_toList, List.all_eq_true]
  intro c hc
  have h1 := List.all_eq_true.mp h.2 c hc
  have h2 : c ∈ ls.cps.toList := of_decide_eq_true h1
  have h3 : ∀ c ∈ ls.cps.toList, c < 1114112 := by rcases hl with rfl | rfl <;> decide +kernel
  exact decide_eq_true (h3 c h2)
theorem plain_psD {ps : List Str} (h : ∀ p ∈ ps, PyData.strOk p = true) : plainAll (psD ps) = true := by
  induction ps with
  | nil => simp [psD, plainAll]
  | cons p ps ih =>
    show plainAll (DV.str p :: psD ps) = true
    rw [plainAll, ih fun q hq => h q (List.mem_cons_of_mem _ hq), DV.plain, h p (List.mem_cons_self ..)]
    rfl
theorem dep_psD : ∀ ps : List Str, depAll (psD ps) = 0
  | [] => by simp [psD, depAll]
  | p :: ps => by
    show depAll (DV.str p :: psD ps) = 0
    rw [depAll, dep_psD ps, DV.dep]
    rfl
theorem ok_psD {ps : List Str} (h : ∀ p ∈ ps, PyData.strOk p = true) : (DV.tup (psD ps)).ok = true := by
  unfold DV.ok
  rw [DV.plain, plain_psD h, DV.dep, dep_psD]
  rfl
theorem eqvAll_psD : ∀ a b : List Str, PyData.eqvAll (pdAll (psD a)) (pdAll (psD b)) = decide (a = b)
  | [], [] => by simp [psD, pdAll, PyData.eqvAll]
  | [], _ :: _ => by simp [psD, pdAll, PyData.eqvAll]
  | _ :: _, [] => by simp [psD, pdAll, PyData.eqvAll]
  | x :: a, y :: b => by
    have ih := eqvAll_psD a b
    show PyData.eqvAll (DV.pd (.str x) :: pdAll (psD a)) (DV.pd (.str y) :: pdAll (psD b)) = _
    rw [PyData.eqvAll, ih, DV.pd, DV.pd, PyData.eqv, Bool.eq_iff_iff]
    simp
theorem eqv_psD (a b : List Str) : (DV.tup (psD a)).eqv (.tup (psD b)) = decide (a = b) := by
  show PyData.eqv (DV.pd _) (DV.pd _) = _
  rw [DV.pd, DV.pd, PyData.eqv, eqvAll_psD]
theorem VS.str {ls : Str} {ps : List Str} {od : List Nat} (v : VS ls ps od) : ∀ p ∈ ps, PyData.strOk p = true := fun p hp => word_ok v.hls (v.hp p hp)
theorem scFEq : FnScope ["self", "other"] ["self", "other"] (defScope sFEq) := ⟨rfl, rfl, rfl, by decide +kernel, rfl, by decide +kernel, by decide +kernel⟩
def feq (ls ls' : Str) (ps ps' : List Str) (od od' : List Nat) (pp pp' op op' : Int) (tn tn' : Bool) : Bool := true && (decide (ls = ls') && (decide (ps = ps') && (decide (od = od') && (decide (pp = pp') && (decide (op = op') && (DV.bl tn).eqF (.bl tn'))))))
def R_feq (C : Addr) : List DV → DV → Prop := fun ds d => ∃ ls ls' ps ps' od od' pp pp' op op' tn tn', VS ls ps od ∧ VS ls' ps' od' ∧ ds = [fileD C ls ps od pp op tn, fileD C ls' ps' od' pp' op' tn'] ∧ d = .bl (feq ls ls' ps ps' od od' pp pp' op op' tn tn')
theorem ok_feq {C : Addr} (B : Bt g) (L : Fl g C) {f : Addr} {fd : FuncData} (F : Fun g.K "__eq__" "File.__eq__" sFEq f fd) : FnOk g.P g.w g.K g.mg g.base CX0 1 f fd ["self", "other"] (spR g.K (R_feq C)) := by
  refine fn_ok F scFEq (fun ds d ⟨ls, ls', ps, ps', od, od', pp, pp', op, op', tn, tn', _, _, e, _⟩ => by rw [e]; rfl) fun ds d ⟨ls, ls', ps, ps', od, od', pp, pp', op, op', tn, tn', v, v', e, ed⟩ => ?_
  subst e ed
  exact dss_one (ds_ret (de_and (x := true) (de_isOwn B L.kl (de_v 1)) fun _ => de_and (de_eqS (de_fld L.kl.c L.n1 fgs_ls (de_v 0)) (de_fld L.kl.c L.n1 fgs_ls (de_v 1))) fun _ =>
    de_and (x := decide (ps = ps')) (DE.is (de_eqD (ok_psD v.str) (ok_psD v'.str) (de_fld L.kl.c L.n2 fgs_ps (de_v 0)) (de_fld L.kl.c L.n2 fgs_ps (de_v 1))) (by rw [eqv_psD])) fun _ =>
    de_and (x := decide (od = od')) (DE.is (de_eqD (ok_odD od) (ok_odD od') (de_fld L.kl.c L.n3 fgs_od (de_v 0)) (de_fld L.kl.c L.n3 fgs_od (de_v 1))) (by rw [eqv_odD])) fun _ =>
    de_and (de_eqI (de_fld L.kl.c L.n4 fgs_pp (de_v 0)) (de_fld L.kl.c L.n4 fgs_pp (de_v 1))) fun _ => de_and (de_eqI (de_fld L.kl.c L.n5 fgs_op (de_v 0)) (de_fld L.kl.c L.n5 fgs_op (de_v 1))) fun _ =>
    de_one (de_cmp (fun X o => op_eq) (od_eqF rfl rfl rfl) (de_fld L.kl.c L.n6 fgs_tn (de_v 0)) (de_fld L.kl.c L.n6 fgs_tn (de_v 1)) (nomark _))) rfl)
/-! making a file -/
abbrev sFInit : Stmt := inClass sFile 0
theorem scFInit : FnScope ["self", "letters", "pieces", "order", "piece_price", "order_price", "torn"] ["self", "letters", "pieces", "order", "piece_price", "order_price", "torn"] (defScope sFInit) := ⟨rfl, rfl, rfl, by decide +kernel, rfl, by decide +kernel, by decide +kernel⟩
def R_finit : List DV → List (Str × DV) → Prop := fun ds gs => ∃ ls ps od pp op tn, VS ls ps od ∧ (1 ≤ pp ∧ pp ≤ 5) ∧ (1 ≤ op ∧ op ≤ 5) ∧ ds = [.str ls, .tup (psD ps), .tup (odD od), .int pp, .int op, .bl tn] ∧ gs = fgs ls ps od pp op tn
theorem En.push {K : PySem.W.Frag} {H0 S H : Hp} {σ : L2.St} {ρ : Rho} (v : Option V) (n : En K H0 S H σ ρ) : En K H0 S H (v :: σ) (.un :: ρ) where
  len := congrArg (· + 1) n.len
  at_ := fun i u e a b => by
    cases i with
    | zero => cases b; trivial
    | succ i => exact n.at_ i u e a b
  sep := fun i j p q ds es hij a b c e => by
    cases i with
    | zero => cases a
    | succ i => cases j with
      | zero => cases b
      | succ j => exact n.sep i j p q ds es (fun z => hij (congrArg (· + 1) z)) a b c e
theorem if_skip {l : Lc} {c : Expr} {b : List Stmt} {t : TS} {D : Ends} {σ : L2.St} {S H H0 : Hp} {ρ : Rho} (h : DT g l c ρ false) (ex : Ex S H) (n : En g.K H0 S H σ ρ) (k : ∀ S' H', Go S H S' H' → t D σ H') : tSeq (tIfS (UT g l c) (USs g l b) tNext) t D σ H :=
  h H0 σ S H ex n _ fun S' H' g' => by
    rw [if_neg (by decide)]
    exact k S' H' g'
theorem fit_psD {ps : List Str} (h1 : ps.length ≤ 100000) (h : ∀ p ∈ ps, p.length ≤ 100000) : fit (.tup (psD ps)) = true := by
  rw [fit, Bool.and_eq_true, psD_len]
  refine ⟨decide_eq_true h1, ?_⟩
  have go : ∀ ps : List Str, (∀ p ∈ ps, p.length ≤ 100000) → fits (psD ps) = true := by
    intro ps
    induction ps with
    | nil => intro _; simp [psD, fits]
    | cons p ps ih =>
      intro h
      show fits (DV.str p :: psD ps) = true
      rw [fits, ih fun q hq => h q (List.mem_cons_of_mem _ hq), fit]
      rw [decide_eq_true (h p (List.mem_cons_self ..))]
      rfl
  exact go ps h
theorem fit_odD {od : List Nat} (h1 : od.length ≤ 100000) : fit (.tup (odD od)) = true := by
  rw [fit, Bool.and_eq_true, odD_len]
  refine ⟨decide_eq_true h1, ?_⟩
  have go : ∀ od : List Nat, fits (odD od) = true := by
    intro od
    induction od with
    | nil => simp [odD, fits]
    | cons p od ih =>
      show fits (DV.int (p : Int) :: odD od) = true
      rw [fits, ih, fit]
      rfl
  exact go od
theorem VS.fitP {ls : Str} {ps : List Str} {od : List Nat} (v : VS ls ps od) : fit (.tup (psD ps)) = true := fit_psD (Nat.le_trans v.hps (by decide)) fun p hp => Nat.le_trans (wordOk_len (v.hp p hp)) (by decide)
theorem VS.fitO {ls : Str} {ps : List Str} {od : List Nat} (v : VS ls ps od) : fit (.tup (odD od)) = true := fit_odD (Nat.le_trans v.hod (by decide))
theorem VS.isP {ls : Str} {ps : List Str} {od : List Nat} (v : VS ls ps od) : arePieces ls (.tup (psD ps)) = true := by
  show ((decide (1 ≤ (psD ps).length) && decide ((psD ps).length ≤ 4)) && (psD ps).all (isWord ls 2)) = true
  rw [psD_len, decide_eq_true v.hps1, decide_eq_true v.hps, Bool.true_and, Bool.true_and, List.all_eq_true]
  intro d hd
  unfold psD at hd
  rw [List.mem_map] at hd
  obtain ⟨p, hp, rfl⟩ := hd
  exact v.hp p hp
theorem lets_ok {ls : Str} (h : letterSet ls) : isLets (.str ls) = true := by rcases h with rfl | rfl <;> decide +kernel
theorem price_ok {p : Int} (h : 1 ≤ p ∧ p ≤ 5) : isPrice (.int p) = true := by
  show (decide (1 ≤ p) && decide (p ≤ 5)) = true
  rw [decide_eq_true h.1, decide_eq_true h.2]
  rfl
theorem put1 {a b : Str} {v w : V} {r : List (Str × V)} (h : ¬ a = b) : putF b w ((a, v) :: r) = (a, v) :: putF b w r := by
  show (if a = b then _ else _) = _
  rw [if_neg h]
theorem ok_finit {C : Addr} (B : Bt g) (L : Fl g C) (IL : Fn g 1 "is_letters" R_isl) (AP : Fn g 3 "are_pieces" R_arep) (IO : Fn g 3 "is_order" R_order) (IP : Fn g 2 "is_price" R_price) {kws : List (Str × V)} {f : Addr} {fd : FuncData} (F : FunD g.K "__init__" "File.__init__" (defArgs sFInit) (defBody sFInit) (defScope sFInit) [] kws f fd) :
    FnOk g.P g.w g.K g.mg g.base CX0 4 f fd ["self", "letters", "pieces", "order", "piece_price", "order_price", "torn"] (spI g.K C R_finit) := by
  refine F.ok scFInit (fun vs H Q E h => ?_) (fun cdv A outer s H vs Q E hr h => ?_)
  · obtain ⟨x, dx, vs', S, ds, gs, rfl, _, _, _, ra, ⟨ls, ps, od, pp, op, tn, _, _, _, rfl, _⟩, _⟩ := h
    show vs'.length + 1 = 7
    rw [ra.len]
    rfl
  · obtain ⟨x, dx, vs', S, ds, gs, rfl, hx, ex, nx, ra, ⟨ls, ps, od, pp, op, tn, v, hpp, hop, rfl, rfl⟩, q⟩ := h
    have hlz : ls.length ≤ 100000 := by rcases v.hls with rfl | rfl <;> decide
    cases ra with
    | cons r1 ra => cases ra with
    | cons r2 ra => cases ra with
    | cons r3 ra => cases ra with
    | cons r4 ra => cases ra with
    | cons r5 ra => cases ra with
    | cons r6 ra =>
    cases ra
    rename_i v1 v2 v3 v4 v5 v6
    have o : Of g ⟨3, ["self", "letters", "pieces", "order", "piece_price", "order_price", "torn"], defScope sFInit, fun _ => true⟩ (cxOf CX0 g.P g.w g.K g.mg g.base ["self", "letters", "pieces", "order", "piece_price", "order_price", "torn"] "File.__init__" (defScope sFInit) f cdv A outer s H E).nox := ⟨rfl, rfl, rfl, rfl, rfl, rfl, rfl, fun _ _ => rfl, rfl, hr, PassesOwn.never⟩
    have n0 : En g.K H S H [some (.ref x), some v1, some v2, some v3, some v4, some v5, some v6] [.un, .val (.str ls), .val (.tup (psD ps)), .val (.tup (odD od)), .val (.int pp), .val (.int op), .val (.bl tn)] :=
      En.push _ (en_start (N := ["letters", "pieces", "order", "piece_price", "order_price", "torn"]) (.cons r1 (.cons r2 (.cons r3 (.cons r4 (.cons r5 (.cons r6 .nil)))))))
    have sw : ∀ (e : Expr) (o' : Expr) (nm : Str) (p : Pos) (k : Nat) (env : Env), swapsWith (.Name nm p) (some (.Attribute o' nm p)) k env = pure false := fun _ _ _ _ _ _ => rfl
    refine ⟨_, (pss_cons (ps_if (UT.pt o _) (USs.pss o _) pss_nil) (pss_cons (ps_if (UT.pt o _) (USs.pss o _) pss_nil) (pss_cons (ps_if (UT.pt o _) (USs.pss o _) pss_nil) (pss_cons (ps_if (UT.pt o _) (USs.pss o _) pss_nil) (pss_cons (ps_if (UT.pt o _) (USs.pss o _) pss_nil) (pss_cons (ps_if (UT.pt o _) (USs.pss o _) pss_nil)
      (pss_cons (ps_fld (pv 0) (pv 1) rfl) (pss_cons (ps_fld (pv 0) (pv 2) rfl) (pss_cons (ps_fld (pv 0) (pv 3) rfl) (pss_cons (ps_fld (pv 0) (pv 4) rfl) (pss_cons (ps_fld (pv 0) (pv 5) rfl) (pss_one (ps_fld (pv 0) (pv 6) rfl))))))))))))).nox, ?_⟩
    refine if_skip (DT.is (dt_not (dt_e (de_call IL (da_cons (de_v 1) da_nil) ⟨.str ls, by rw [fit]; exact decide_eq_true hlz, rfl, rfl⟩))) (by rw [lets_ok v.hls]; rfl)) ex n0 fun S1 H1 g1 => ?_
    refine if_skip (DT.is (dt_not (dt_e (de_call AP (da_cons (de_v 1) (da_cons (de_v 2) da_nil)) ⟨ls, _, v.fitP, rfl, rfl⟩))) (by rw [v.isP]; rfl)) g1.sub (n0.go g1) fun S2 H2 g2 => ?_
    refine if_skip (DT.is (dt_not (dt_e (de_call IO (da_cons (de_len B.len rfl (de_v 2)) (da_cons (de_v 3) da_nil)) ⟨ps.length, _, by rw [psD_len], v.fitO, rfl⟩))) (by rw [isOrder_of v.hod v.hb]; rfl)) g2.sub ((n0.go g1).go g2) fun S3 H3 g3 => ?_
    refine if_skip (DT.is (dt_not (dt_e (de_call IP (da_cons (de_v 4) da_nil) ⟨_, by rw [fit], rfl, rfl⟩))) (by rw [price_ok hpp]; rfl)) g3.sub (((n0.go g1).go g2).go g3) fun S4 H4 g4 => ?_
    refine if_skip (DT.is (dt_not (dt_e (de_call IP (da_cons (de_v 5) da_nil) ⟨_, by rw [fit], rfl, rfl⟩))) (by rw [price_ok hop]; rfl)) g4.sub ((((n0.go g1).go g2).go g3).go g4) fun S5 H5 g5 => ?_
    refine if_skip (DT.is (dt_not (dt_e (de_isBool B rfl (de_v 6)))) rfl) g5.sub (((((n0.go g1).go g2).go g3).go g4).go g5) fun S6 H6 g6 => ?_
    have gg : Go S H S6 H6 := g1.tr (g2.tr (g3.tr (g4.tr (g5.tr g6))))
    have n6 : S6 x = none := gg.off nx hx
    have hx6 : H6 x = some (.ins C dx []) := gg.h _ _ hx
    have c := L.kl.c
    refine ⟨v1, rfl, .ref x, rfl, x, C, dx, [], rfl, hx6, c, L.n1, (by show 0 < 1000; decide), ?_⟩
    refine ⟨v2, rfl, .ref x, rfl, x, C, dx, _, rfl, upd_same, c, L.n2, (by show 1 < 1000; decide), ?_⟩
    refine ⟨v3, rfl, .ref x, rfl, x, C, dx, [("_letters", v1), ("_pieces", v2)], rfl, Eq.trans upd_same (congrArg (fun q => some (HO.ins C dx q)) (put1 (by decide +kernel))), c, L.n3, (by show 2 < 1000; decide), ?_⟩
    refine ⟨v4, rfl, .ref x, rfl, x, C, dx, [("_letters", v1), ("_pieces", v2), ("_order", v3)], rfl, Eq.trans upd_same (congrArg (fun q => some (HO.ins C dx q)) ((put1 (by decide +kernel)).trans (congrArg _ (put1 (by decide +kernel))))), c, L.n4, (by show 3 < 1000; decide), ?_⟩
    refine ⟨v5, rfl, .ref x, rfl, x, C, dx, [("_letters", v1), ("_pieces", v2), ("_order", v3), ("_piece_price", v4)], rfl, Eq.trans upd_same (congrArg (fun q => some (HO.ins C dx q)) ((put1 (by decide +kernel)).trans (congrArg _ ((put1 (by decide +kernel)).trans (congrArg _ (put1 (by decide +kernel))))))), c, L.n5, (by show 4 < 1000; decide), ?_⟩
    refine ⟨v6, rfl, .ref x, rfl, x, C, dx, [("_letters", v1), ("_pieces", v2), ("_order", v3), ("_piece_price", v4), ("_order_price", v5)], rfl, Eq.trans upd_same (congrArg (fun q => some (HO.ins C dx q)) ((put1 (by decide +kernel)).trans (congrArg _ ((put1 (by decide +kernel)).trans (congrArg _ ((put1 (by decide +kernel)).trans (congrArg _ (put1 (by decide +kernel))))))))), c, L.n6, (by show 5 < 1000; decide), ?_⟩
    have e7 : putF "_torn" v6 ([("_letters", v1), ("_pieces", v2), ("_order", v3), ("_piece_price", v4), ("_order_price", v5)] : List (Str × V)) = ([("_letters", v1), ("_pieces", v2), ("_order", v3), ("_piece_price", v4), ("_order_price", v5), ("_torn", v6)] : List (Str × V)) :=
      (put1 (by decide +kernel)).trans (congrArg _ ((put1 (by decide +kernel)).trans (congrArg _ ((put1 (by decide +kernel)).trans (congrArg _ ((put1 (by decide +kernel)).trans (congrArg _ (put1 (by decide +kernel)))))))))
    refine q S6 _ _ ⟨gg.s, fun a u z => ?_, fun a u z => ?_, fun a u z z' => ?_⟩ n6 (Eq.trans upd_same (congrArg (fun q => some (HO.ins C dx q)) e7)) (.cons (r1.up gg.s) (.cons (r2.up gg.s) (.cons (r3.up gg.s) (.cons (r4.up gg.s) (.cons (r5.up gg.s) (.cons (r6.up gg.s) .nil))))))
    · by_cases w : a = x
      · have z2 : (if a = x then none else H a) = some u := z
        rw [if_pos w] at z2
        cases z2
      · have z2 : (if a = x then none else H a) = some u := z
        rw [if_neg w] at z2
        rw [upd_ne w, upd_ne w, upd_ne w, upd_ne w, upd_ne w, upd_ne w]
        exact gg.h a u z2
    · have w : a ≠ x := fun w => by rw [w, n6] at z; cases z
      rw [upd_ne w, upd_ne w, upd_ne w, upd_ne w, upd_ne w, upd_ne w]
      exact gg.sub a u z
    · show (if a = x then none else H a) = none
      by_cases w : a = x
      · rw [if_pos w]
      · rw [if_neg w]
        exact gg.new a u z z'
end SP

namespace SP
open PySem PySem.Spec PyProof.Rows L2 PD
variable {g : Gb}
/-- what the class has -/
structure Fp (g : Gb) (C : Addr) : Prop where
  ls : Pr g 1 C "letters" (R_get C "_letters")
  ps : Pr g 1 C "pieces" (R_get C "_pieces")
  od : Pr g 1 C "order" (R_get C "_order")
  pp : Pr g 1 C "piece_price" (R_get C "_piece_price")
  op : Pr g 1 C "order_price" (R_get C "_order_price")
  tn : Pr g 1 C "torn" (R_get C "_torn")
  make : Mf g 4 3 ["piece_price", "order_price", "torn"] C "File" [] R_finit
section
variable {l : Lc} {ρ : Rho} {e : Expr} {pos : Pos} {C : Addr} {ls : Str} {ps : List Str} {od : List Nat} {pp op : Int} {tn : Bool}
theorem de_ls (L : Fl g C) (P : Fp g C) (h : DE g l e ρ (fileD C ls ps od pp op tn)) (hk : 2 ≤ l.k := by decide) (hab : ∀ env, attributeBase e "letters" env (eval e env) = eval e env := by intro _; rfl) : DE g l (.Attribute e "letters" pos) ρ (.str ls) := de_prop L.kl.c P.ls ⟨_, rfl, fgs_ls⟩ h hk hab
theorem de_ps (L : Fl g C) (P : Fp g C) (h : DE g l e ρ (fileD C ls ps od pp op tn)) (hk : 2 ≤ l.k := by decide) (hab : ∀ env, attributeBase e "pieces" env (eval e env) = eval e env := by intro _; rfl) : DE g l (.Attribute e "pieces" pos) ρ (.tup (psD ps)) := de_prop L.kl.c P.ps ⟨_, rfl, fgs_ps⟩ h hk hab
theorem de_od (L : Fl g C) (P : Fp g C) (h : DE g l e ρ (fileD C ls ps od pp op tn)) (hk : 2 ≤ l.k := by decide) (hab : ∀ env, attributeBase e "order" env (eval e env) = eval e env := by intro _; rfl) : DE g l (.Attribute e "order" pos) ρ (.tup (odD od)) := de_prop L.kl.c P.od ⟨_, rfl, fgs_od⟩ h hk hab
theorem de_pp (L : Fl g C) (P : Fp g C) (h : DE g l e ρ (fileD C ls ps od pp op tn)) (hk : 2 ≤ l.k := by decide) (hab : ∀ env, attributeBase e "piece_price" env (eval e env) = eval e env := by intro _; rfl) : DE g l (.Attribute e "piece_price" pos) ρ (.int pp) := de_prop L.kl.c P.pp ⟨_, rfl, fgs_pp⟩ h hk hab
theorem de_oq (L : Fl g C) (P : Fp g C) (h : DE g l e ρ (fileD C ls ps od pp op tn)) (hk : 2 ≤ l.k := by decide) (hab : ∀ env, attributeBase e "order_price" env (eval e env) = eval e env := by intro _; rfl) : DE g l (.Attribute e "order_price" pos) ρ (.int op) := de_prop L.kl.c P.op ⟨_, rfl, fgs_op⟩ h hk hab
theorem de_tn (L : Fl g C) (P : Fp g C) (h : DE g l e ρ (fileD C ls ps od pp op tn)) (hk : 2 ≤ l.k := by decide) (hab : ∀ env, attributeBase e "torn" env (eval e env) = eval e env := by intro _; rfl) : DE g l (.Attribute e "torn" pos) ρ (.bl tn) := de_prop L.kl.c P.tn ⟨_, rfl, fgs_tn⟩ h hk hab
end
variable {C : Addr}
theorem scCheckFile : FnScope ["file"] ["file"] (defScope sCheckFile) := ⟨rfl, rfl, rfl, by decide +kernel, rfl, by decide +kernel, by decide +kernel⟩
def R_cfile (C : Addr) : List DV → DV → Prop := fun ds d => ∃ gs, ds = [.obj C gs] ∧ d = .non
theorem ok_cfile (B : Bt g) (L : Fl g C) {f : Addr} {fd : FuncData} (F : Fun g.K "check_file" "check_file" sCheckFile f fd) : FnOk g.P g.w g.K g.mg g.base CX0 1 f fd ["file"] (spR g.K (R_cfile C)) := by
  refine fn_ok F scCheckFile (fun ds d ⟨gs, e, _⟩ => by rw [e]; rfl) fun ds d ⟨gs, e, ed⟩ => ?_
  subst e ed
  exact dss_one (ds_if (x := false) (dt_not (dt_e (de_isOwn B L.kl (de_v 0)))) (fun h => by cases h) fun _ => dss_nil rfl)
theorem scCheckGoal : FnScope ["file", "text"] ["file", "text"] (defScope sCheckGoal) := ⟨rfl, rfl, rfl, by decide +kernel, rfl, by decide +kernel, by decide +kernel⟩
def R_cgoal (C : Addr) : List DV → DV → Prop := fun ds d => ∃ ls ps od pp op tn t, wordOk ls 6 t = true ∧ ds = [fileD C ls ps od pp op tn, .str t] ∧ d = .non
theorem ok_cgoal (L : Fl g C) (P : Fp g C) (T : Fn g 2 "is_text" R_text) {f : Addr} {fd : FuncData} (F : Fun g.K "check_goal" "check_goal" sCheckGoal f fd) : FnOk g.P g.w g.K g.mg g.base CX0 3 f fd ["file", "text"] (spR g.K (R_cgoal C)) := by
  refine fn_ok F scCheckGoal (fun ds d ⟨ls, ps, od, pp, op, tn, t, _, e, _⟩ => by rw [e]; rfl) fun ds d ⟨ls, ps, od, pp, op, tn, t, h, e, ed⟩ => ?_
  subst e ed
  refine dss_one (ds_if (x := false) (DT.is (dt_not (dt_e (de_call T (da_cons (de_ls L P (de_v 0)) (da_cons (de_v 1) da_nil)) ⟨ls, .str t, rfl, ?_, rfl⟩))) ?_) (fun h => by cases h) fun _ => dss_nil rfl)
  · rw [fit]
    exact decide_eq_true (Nat.le_trans (wordOk_len h) (by decide))
  · show (!wordOk ls 6 t) = false
    rw [h]
    rfl
theorem scFileState : FnScope ["file"] ["file"] (defScope sFileState) := ⟨rfl, rfl, rfl, by decide +kernel, rfl, by decide +kernel, by decide +kernel⟩
def R_fstate (C : Addr) : List DV → DV → Prop := fun ds d => ∃ ls ps od pp op tn, ds = [fileD C ls ps od pp op tn] ∧ d = stD ps od
theorem ok_fstate (L : Fl g C) (P : Fp g C) {f : Addr} {fd : FuncData} (F : Fun g.K "file_state" "file_state" sFileState f fd) : FnOk g.P g.w g.K g.mg g.base CX0 3 f fd ["file"] (spR g.K (R_fstate C)) := by
  refine fn_ok F scFileState (fun ds d ⟨ls, ps, od, pp, op, tn, e, _⟩ => by rw [e]; rfl) fun ds d ⟨ls, ps, od, pp, op, tn, e, ed⟩ => ?_
  subst e ed
  exact dss_one (ds_ret (de_tup (da_cons (de_ps L P (de_v 0)) (da_cons (de_od L P (de_v 0)) da_nil))) rfl)
theorem scFileAt : FnScope ["file", "state", "pieces", "order"] ["file", "state"] (defScope sFileAt) := ⟨rfl, rfl, rfl, by decide +kernel, rfl, by decide +kernel, by decide +kernel⟩
def R_fat (C : Addr) : List DV → DV → Prop := fun ds d => ∃ ls ps od ps' od' pp op tn, VS ls ps' od' ∧ (1 ≤ pp ∧ pp ≤ 5) ∧ (1 ≤ op ∧ op ≤ 5) ∧ ds = [fileD C ls ps od pp op tn, stD ps' od'] ∧ d = fileD C ls ps' od' pp op tn
theorem ok_fat (L : Fl g C) (P : Fp g C) {f : Addr} {fd : FuncData} (F : Fun g.K "file_at" "file_at" sFileAt f fd) : FnOk g.P g.w g.K g.mg g.base CX0 6 f fd ["file", "state"] (spR g.K (R_fat C)) := by
  refine fn_ok F scFileAt (fun ds d ⟨ls, ps, od, ps', od', pp, op, tn, _, _, _, e, _⟩ => by rw [e]; rfl) fun ds d ⟨ls, ps, od, ps', od', pp, op, tn, v, h1, h2, e, ed⟩ => ?_
  subst e ed
  exact dss_cons (ds_asg (de_v 1) (dg_tup (dgs_cons (dg_n 2 scFileAt.nd) (dgs_cons (dg_n 3 scFileAt.nd) dgs_nil))) (dss_one (ds_ret (de_make P.make (da_cons (de_ls L P (de_v 0)) (da_cons (de_v 2) (da_cons (de_v 3) da_nil))) (dk_cons (de_pp L P (de_v 0)) (dk_cons (de_oq L P (de_v 0)) (dk_cons (de_tn L P (de_v 0)) dk_nil))) ⟨ls, ps', od', pp, op, tn, v, h1, h2, rfl, rfl⟩) rfl)))
end SP

namespace SP
open PySem PySem.Spec PyProof.Rows L2 PD
variable {g : Gb} {C : Addr}
abbrev sAllWrites : Stmt := topS 41
abbrev sIsWrite : Stmt := topS 42
abbrev sAfter : Stmt := topS 43
abbrev sTornTexts : Stmt := topS 44
abbrev sSafe : Stmt := topS 45
abbrev sSafeWrites : Stmt := topS 46
abbrev sApply : Stmt := topS 47
abbrev sCostOf : Stmt := topS 48
abbrev sCheckWrite : Stmt := topS 49
abbrev sCheckWrites : Stmt := topS 50
abbrev sPassed : Stmt := topS 51
abbrev sPriceOf : Stmt := topS 52
/-- a valid file's parts -/
structure VF (ls : Str) (ps : List Str) (od : List Nat) (pp op : Int) : Prop where
  v : VS ls ps od
  pp : 1 ≤ pp ∧ pp ≤ 5
  op : 1 ≤ op ∧ op ≤ 5
theorem fit_wr {ls : Str} {n : Nat} {w : Wr} (h : VW ls n w) : fit w.d = true := by
  cases w with
  | piece b p =>
    have h1 := wordOk_len h.2
    show fit (.tup [.str "piece", .int b, .str p]) = true
    rw [fit, fits, fits, fits, fits, fit, fit, fit, decide_eq_true (show ([.str "piece", .int b, .str p] : List DV).length ≤ 100000 from (by decide : 3 ≤ 100000)), decide_eq_true (show ("piece" : Str).length ≤ 100000 by decide +kernel), decide_eq_true (show p.length ≤ 100000 by omega)]
    rfl
  | order o =>
    have h1 := h.1
    show fit (.tup [.str "order", .tup (odD o)]) = true
    rw [fit, fits, fits, fits, fit, fit_odD (by omega), decide_eq_true (show ([.str "order", .tup (odD o)] : List DV).length ≤ 100000 from (by decide : 2 ≤ 100000)), decide_eq_true (show ("order" : Str).length ≤ 100000 by decide +kernel)]
    rfl
theorem scAllWrites : FnScope ["file"] ["file"] (defScope sAllWrites) := ⟨rfl, rfl, rfl, by decide +kernel, rfl, by decide +kernel, by decide +kernel⟩
def R_allw (C : Addr) : List DV → DV → Prop := fun ds d => ∃ ls ps od pp op tn, VS ls ps od ∧ ds = [fileD C ls ps od pp op tn] ∧ d = wrsD (writesOf ls ps od)
theorem ok_allw (L : Fl g C) (P : Fp g C) (Ck : Fn g 1 "check_file" (R_cfile C)) (St : Fn g 3 "file_state" (R_fstate C)) (Sw : Fn g 3 "state_writes" R_swrites) {f : Addr} {fd : FuncData} (F : Fun g.K "all_writes" "all_writes" sAllWrites f fd) : FnOk g.P g.w g.K g.mg g.base CX0 4 f fd ["file"] (spR g.K (R_allw C)) := by
  refine fn_ok F scAllWrites (fun ds d ⟨ls, ps, od, pp, op, tn, _, e, _⟩ => by rw [e]; rfl) fun ds d ⟨ls, ps, od, pp, op, tn, v, e, ed⟩ => ?_
  subst e ed
  exact dss_cons (ds_ex (de_call Ck (da_cons (de_v 0) da_nil) ⟨_, rfl, rfl⟩) (dss_one (ds_ret (de_call Sw (da_cons (de_ls L P (de_v 0)) (da_cons (de_call St (da_cons (de_v 0) da_nil) ⟨ls, ps, od, pp, op, tn, rfl, rfl⟩) da_nil)) ⟨ls, ps, od, v.hls, v.hps, Nat.le_trans v.hod (by decide), rfl, rfl⟩) rfl)))
theorem scIsWrite : FnScope ["file", "value"] ["file", "value"] (defScope sIsWrite) := ⟨rfl, rfl, rfl, by decide +kernel, rfl, by decide +kernel, by decide +kernel⟩
def R_iswr (C : Addr) : List DV → DV → Prop := fun ds d => ∃ ls ps od pp op tn v, VS ls ps od ∧ fit v = true ∧ ds = [fileD C ls ps od pp op tn, v] ∧ d = .bl (isWr ls ps od v)
theorem ok_iswr (L : Fl g C) (P : Fp g C) (Ck : Fn g 1 "check_file" (R_cfile C)) (St : Fn g 3 "file_state" (R_fstate C)) (Iw : Fn g 4 "is_state_write" R_swrite) {f : Addr} {fd : FuncData} (F : Fun g.K "is_write" "is_write" sIsWrite f fd) : FnOk g.P g.w g.K g.mg g.base CX0 5 f fd ["file", "value"] (spR g.K (R_iswr C)) := by
  refine fn_ok F scIsWrite (fun ds d ⟨ls, ps, od, pp, op, tn, x, _, _, e, _⟩ => by rw [e]; rfl) fun ds d ⟨ls, ps, od, pp, op, tn, x, v, hf, e, ed⟩ => ?_
  subst e ed
  exact dss_cons (ds_ex (de_call Ck (da_cons (de_v 0) da_nil) ⟨_, rfl, rfl⟩) (dss_one (ds_ret (de_call Iw (da_cons (de_ls L P (de_v 0)) (da_cons (de_call St (da_cons (de_v 0) da_nil) ⟨ls, ps, od, pp, op, tn, rfl, rfl⟩) (da_cons (de_v 1) da_nil))) ⟨ls, ps, od, x, v.hps, hf, rfl, rfl⟩) rfl)))
theorem scCheckWrite : FnScope ["file", "write"] ["file", "write"] (defScope sCheckWrite) := ⟨rfl, rfl, rfl, by decide +kernel, rfl, by decide +kernel, by decide +kernel⟩
def R_cwr (C : Addr) : List DV → DV → Prop := fun ds d => ∃ ls ps od pp op tn w, VS ls ps od ∧ VW ls ps.length w ∧ chg ps od w = true ∧ ds = [fileD C ls ps od pp op tn, Wr.d w] ∧ d = .non
theorem ok_cwr (L : Fl g C) (P : Fp g C) (St : Fn g 3 "file_state" (R_fstate C)) (Iw : Fn g 4 "is_state_write" R_swrite) {f : Addr} {fd : FuncData} (F : Fun g.K "check_write" "check_write" sCheckWrite f fd) : FnOk g.P g.w g.K g.mg g.base CX0 5 f fd ["file", "write"] (spR g.K (R_cwr C)) := by
  refine fn_ok F scCheckWrite (fun ds d ⟨ls, ps, od, pp, op, tn, w, _, _, _, e, _⟩ => by rw [e]; rfl) fun ds d ⟨ls, ps, od, pp, op, tn, w, v, h, hc, e, ed⟩ => ?_
  subst e ed
  refine dss_one (ds_if (x := false) (DT.is (dt_not (dt_e (de_call Iw (da_cons (de_ls L P (de_v 0)) (da_cons (de_call St (da_cons (de_v 0) da_nil) ⟨ls, ps, od, pp, op, tn, rfl, rfl⟩) (da_cons (de_v 1) da_nil))) ⟨ls, ps, od, w.d, v.hps, fit_wr h, rfl, rfl⟩))) ?_) (fun h => by cases h) fun _ => dss_nil rfl)
  rw [isWr_d h, hc]
  rfl
theorem scAfter : FnScope ["file", "write"] ["file", "write"] (defScope sAfter) := ⟨rfl, rfl, rfl, by decide +kernel, rfl, by decide +kernel, by decide +kernel⟩
def R_after (C : Addr) : List DV → DV → Prop := fun ds d => ∃ ls ps od pp op tn w, VF ls ps od pp op ∧ VW ls ps.length w ∧ chg ps od w = true ∧ ds = [fileD C ls ps od pp op tn, Wr.d w] ∧ d = fileD C ls (afterP ps w) (afterO od w) pp op tn
theorem ok_after (Ck : Fn g 1 "check_file" (R_cfile C)) (Cw : Fn g 5 "check_write" (R_cwr C)) (St : Fn g 3 "file_state" (R_fstate C)) (Af : Fn g 2 "state_after" R_safter) (At : Fn g 6 "file_at" (R_fat C)) {f : Addr} {fd : FuncData} (F : Fun g.K "after" "after" sAfter f fd) : FnOk g.P g.w g.K g.mg g.base CX0 7 f fd ["file", "write"] (spR g.K (R_after C)) := by
  refine fn_ok F scAfter (fun ds d ⟨ls, ps, od, pp, op, tn, w, _, _, _, e, _⟩ => by rw [e]; rfl) fun ds d ⟨ls, ps, od, pp, op, tn, w, v, h, hc, e, ed⟩ => ?_
  subst e ed
  exact dss_cons (ds_ex (de_call Ck (da_cons (de_v 0) da_nil) ⟨_, rfl, rfl⟩) (dss_cons (ds_ex (de_call Cw (da_cons (de_v 0) (da_cons (de_v 1) da_nil)) ⟨ls, ps, od, pp, op, tn, w, v.v, h, hc, rfl, rfl⟩) (dss_one (ds_ret (de_call At (da_cons (de_v 0) (da_cons (de_call Af (da_cons (de_call St (da_cons (de_v 0) da_nil) ⟨ls, ps, od, pp, op, tn, rfl, rfl⟩) (da_cons (de_v 1) da_nil)) ⟨ps, od, w, h.ok, v.v.hps, rfl, rfl⟩) da_nil)) ⟨ls, ps, od, _, _, pp, op, tn, v.v.after h, v.pp, v.op, rfl, rfl⟩) rfl)))))
theorem scTornTexts : FnScope ["file", "write"] ["file", "write"] (defScope sTornTexts) := ⟨rfl, rfl, rfl, by decide +kernel, rfl, by decide +kernel, by decide +kernel⟩
def R_ttexts (C : Addr) : List DV → DV → Prop := fun ds d => ∃ ls ps od pp op tn w, VS ls ps od ∧ VW ls ps.length w ∧ chg ps od w = true ∧ ds = [fileD C ls ps od pp op tn, Wr.d w] ∧ d = .lst ((readingsOf ps od w tn).map DV.str)
theorem ok_ttexts (L : Fl g C) (P : Fp g C) (Ck : Fn g 1 "check_file" (R_cfile C)) (Cw : Fn g 5 "check_write" (R_cwr C)) (St : Fn g 3 "file_state" (R_fstate C)) (Re : Fn g 3 "state_readings" R_readings) {f : Addr} {fd : FuncData} (F : Fun g.K "torn_texts" "torn_texts" sTornTexts f fd) : FnOk g.P g.w g.K g.mg g.base CX0 6 f fd ["file", "write"] (spR g.K (R_ttexts C)) := by
  refine fn_ok F scTornTexts (fun ds d ⟨ls, ps, od, pp, op, tn, w, _, _, _, e, _⟩ => by rw [e]; rfl) fun ds d ⟨ls, ps, od, pp, op, tn, w, v, h, hc, e, ed⟩ => ?_
  subst e ed
  exact dss_cons (ds_ex (de_call Ck (da_cons (de_v 0) da_nil) ⟨_, rfl, rfl⟩) (dss_cons (ds_ex (de_call Cw (da_cons (de_v 0) (da_cons (de_v 1) da_nil)) ⟨ls, ps, od, pp, op, tn, w, v, h, hc, rfl, rfl⟩) (dss_one (ds_ret (de_call Re (da_cons (de_call St (da_cons (de_v 0) da_nil) ⟨ls, ps, od, pp, op, tn, rfl, rfl⟩) (da_cons (de_v 1) (da_cons (de_tn L P (de_v 0)) da_nil))) ⟨ls, ps, od, w, tn, v, h, rfl, rfl⟩) rfl)))))
theorem scSafe : FnScope ["file", "write", "text"] ["file", "write", "text"] (defScope sSafe) := ⟨rfl, rfl, rfl, by decide +kernel, rfl, by decide +kernel, by decide +kernel⟩
def R_safe (C : Addr) : List DV → DV → Prop := fun ds d => ∃ ls ps od pp op tn w t, VS ls ps od ∧ VW ls ps.length w ∧ chg ps od w = true ∧ wordOk ls 6 t = true ∧ ds = [fileD C ls ps od pp op tn, Wr.d w, .str t] ∧ d = .bl (safeOf ps od w tn t)
theorem ok_safe (L : Fl g C) (P : Fp g C) (Ck : Fn g 1 "check_file" (R_cfile C)) (Cg : Fn g 3 "check_goal" (R_cgoal C)) (Cw : Fn g 5 "check_write" (R_cwr C)) (St : Fn g 3 "file_state" (R_fstate C)) (Is : Fn g 4 "is_safe_write" R_issafe) {f : Addr} {fd : FuncData} (F : Fun g.K "is_safe" "is_safe" sSafe f fd) : FnOk g.P g.w g.K g.mg g.base CX0 6 f fd ["file", "write", "text"] (spR g.K (R_safe C)) := by
  refine fn_ok F scSafe (fun ds d ⟨ls, ps, od, pp, op, tn, w, t, _, _, _, _, e, _⟩ => by rw [e]; rfl) fun ds d ⟨ls, ps, od, pp, op, tn, w, t, v, h, hc, ht, e, ed⟩ => ?_
  subst e ed
  exact dss_cons (ds_ex (de_call Ck (da_cons (de_v 0) da_nil) ⟨_, rfl, rfl⟩) (dss_cons (ds_ex (de_call Cg (da_cons (de_v 0) (da_cons (de_v 2) da_nil)) ⟨ls, ps, od, pp, op, tn, t, ht, rfl, rfl⟩) (dss_cons (ds_ex (de_call Cw (da_cons (de_v 0) (da_cons (de_v 1) da_nil)) ⟨ls, ps, od, pp, op, tn, w, v, h, hc, rfl, rfl⟩)
    (dss_one (ds_ret (de_call Is (da_cons (de_call St (da_cons (de_v 0) da_nil) ⟨ls, ps, od, pp, op, tn, rfl, rfl⟩) (da_cons (de_v 1) (da_cons (de_tn L P (de_v 0)) (da_cons (de_v 2) da_nil)))) ⟨ls, ps, od, w, tn, t, v, h, rfl, rfl⟩) rfl)))))))
def wrOf : DV → Wr
  | .tup [_, .int b, .str p] => .piece b.toNat p
  | .tup [_, .tup o] => .order (o.map fun x => match x with | .int i => i.toNat | _ => 0)
  | _ => .order []
theorem wrOf_d (w : Wr) : wrOf w.d = w := by
  cases w with
  | piece b p => rfl
  | order o =>
    show Wr.order ((odD o).map _) = _
    congr 1
    unfold odD
    rw [List.map_map]
    exact (List.map_congr_left fun x _ => Int.toNat_natCast x).trans (List.map_id _)
theorem scSafeWrites : FnScope ["file", "text", "state", "write"] ["file", "text"] (defScope sSafeWrites) := ⟨rfl, rfl, rfl, by decide +kernel, rfl, by decide +kernel, by decide +kernel⟩
def R_safes (C : Addr) : List DV → DV → Prop := fun ds d => ∃ ls ps od pp op tn t, VS ls ps od ∧ wordOk ls 6 t = true ∧ ds = [fileD C ls ps od pp op tn, .str t] ∧ d = wrsD (safesOf ls ps od tn t)
theorem filter_wr {ws : List Wr} {p : Wr → Bool} : ((ws.map Wr.d).filter fun d => p (wrOf d)) = (ws.filter p).map Wr.d := by
  rw [List.filter_map]
  congr 1
  refine List.filter_congr fun w _ => ?_
  show p (wrOf w.d) = p w
  rw [wrOf_d]
theorem ok_safes (L : Fl g C) (P : Fp g C) (Ck : Fn g 1 "check_file" (R_cfile C)) (Cg : Fn g 3 "check_goal" (R_cgoal C)) (St : Fn g 3 "file_state" (R_fstate C)) (Sw : Fn g 3 "state_writes" R_swrites) (Is : Fn g 4 "is_safe_write" R_issafe) {f : Addr} {fd : FuncData} (F : Fun g.K "safe_writes" "safe_writes" sSafeWrites f fd) : FnOk g.P g.w g.K g.mg g.base CX0 5 f fd ["file", "text"] (spR g.K (R_safes C)) := by
  refine fn_ok F scSafeWrites (fun ds d ⟨ls, ps, od, pp, op, tn, t, _, _, e, _⟩ => by rw [e]; rfl) fun ds d ⟨ls, ps, od, pp, op, tn, t, v, ht, e, ed⟩ => ?_
  subst e ed
  refine dss_cons (ds_ex (de_call Ck (da_cons (de_v 0) da_nil) ⟨_, rfl, rfl⟩) (dss_cons (ds_ex (de_call Cg (da_cons (de_v 0) (da_cons (de_v 1) da_nil)) ⟨ls, ps, od, pp, op, tn, t, ht, rfl, rfl⟩) (dss_cons (ds_set 2 scSafeWrites.nd (de_call St (da_cons (de_v 0) da_nil) ⟨ls, ps, od, pp, op, tn, rfl, rfl⟩)
    (dss_one (ds_ret (DE.is (dl_rL (own := [("write", 3)]) scSafeWrites.nd (by decide +kernel) (rL.ev (is := [3]) (ds := (writesOf ls ps od).map Wr.d) (di_l (de_call Sw (da_cons (de_ls L P (de_v 0)) (da_cons (de_v 2) da_nil)) ⟨ls, ps, od, v.hls, v.hps, Nat.le_trans v.hod (by decide), rfl, rfl⟩)) ?_ (by decide)
      (fun d => [.val (fileD C ls ps od pp op tn), .val (.str t), .val (stD ps od), .val d]) (fun d => safeOf ps od (wrOf d) tn t) (fun d => d) (fun d hd => dg_n 3 scSafeWrites.nd) (fun d hd => ?_) (fun d hd _ => de_v 3))).de ?_) rfl)))))))
  · rw [List.length_map]
    exact Nat.le_trans (writes_len v) (by decide)
  · rw [List.mem_map] at hd
    obtain ⟨w, hw, rfl⟩ := hd
    rw [wrOf_d]
    exact dts_one (dt_e (de_call Is (da_cons (de_v 2) (da_cons (de_v 3) (da_cons (de_tn L P (de_v 0)) (da_cons (de_v 1) da_nil)))) ⟨ls, ps, od, w, tn, t, v, (writes_ok v w hw).1, rfl, rfl⟩))
  · rw [List.map_id']
    exact congrArg DV.lst (filter_wr (p := fun w => safeOf ps od w tn t))
theorem scPriceOf : FnScope ["file", "write"] ["file", "write"] (defScope sPriceOf) := ⟨rfl, rfl, rfl, by decide +kernel, rfl, by decide +kernel, by decide +kernel⟩
def R_pof (C : Addr) : List DV → DV → Prop := fun ds d => ∃ ls ps od pp op tn w, ds = [fileD C ls ps od pp op tn, Wr.d w] ∧ d = .int (priceOf pp op w)
theorem ok_pof (L : Fl g C) (P : Fp g C) {f : Addr} {fd : FuncData} (F : Fun g.K "price_of" "price_of" sPriceOf f fd) : FnOk g.P g.w g.K g.mg g.base CX0 3 f fd ["file", "write"] (spR g.K (R_pof C)) := by
  refine fn_ok F scPriceOf (fun ds d ⟨ls, ps, od, pp, op, tn, w, e, _⟩ => by rw [e]; rfl) fun ds d ⟨ls, ps, od, pp, op, tn, w, e, ed⟩ => ?_
  subst e ed
  cases w with
  | piece b p =>
    exact dss_cons (ds_if (x := false) (DT.is (dt_eqS (de_ixT (xs := [.str "piece", .int b, .str p]) (i := 0) (d := .str "piece") rfl (de_v 1) de_int) de_str) (by decide +kernel)) (fun h => by cases h) fun _ => dss_nil (dss_one (ds_ret (de_pp L P (de_v 0)) rfl)))
  | order o =>
    exact dss_cons (ds_if (x := true) (DT.is (dt_eqS (de_ixT (xs := [.str "order", .tup (odD o)]) (i := 0) (d := .str "order") rfl (de_v 1) de_int) de_str) (by decide +kernel)) (fun _ => dss_one (ds_ret (de_oq L P (de_v 0)) rfl)) fun h => by cases h)
end SP

namespace SP
open PySem PySem.Spec PyProof.Rows L2 PD
variable {g : Gb} {C : Addr}
theorem scPassed : FnScope ["file", "writes", "states", "index", "write"] ["file", "writes"] (defScope sPassed) := ⟨rfl, rfl, rfl, by decide +kernel, rfl, by decide +kernel, by decide +kernel⟩
/-- a list or a tuple of writes -/
def rowOf (W : DV) (ws : List Wr) : Prop := W = .lst (ws.map Wr.d) ∨ W = .tup (ws.map Wr.d)
def R_passed (C : Addr) : List DV → DV → Prop := fun ds d => ∃ ls ps od pp op tn W ws, VS ls ps od ∧ chain ls ps od ws ∧ ws.length ≤ 1000 ∧ rowOf W ws ∧ ds = [fileD C ls ps od pp op tn, W] ∧ d = .lst (statesD ps od ws)
theorem statesD_len (ps : List Str) (od : List Nat) (ws : List Wr) : (statesD ps od ws).length = ws.length + 1 := by
  unfold statesD
  rw [List.length_map, List.length_range]
theorem endP_len : ∀ (ws : List Wr) (ps : List Str), (endP ps ws).length = ps.length
  | [], _ => rfl
  | w :: ws, ps => (endP_len ws _).trans (afterP_len ps w)
theorem take_end {ps : List Str} {ws : List Wr} {i : Nat} {w : Wr} (h : ws[i]? = some w) : endP ps (ws.take (i + 1)) = afterP (endP ps (ws.take i)) w := by rw [take_more h, endP_snoc]
theorem take_endO {od : List Nat} {ws : List Wr} {i : Nat} {w : Wr} (h : ws[i]? = some w) : endO od (ws.take (i + 1)) = afterO (endO od (ws.take i)) w := by rw [take_more h, endO_snoc]
theorem ok_passed (B : Bt g) (L : Fl g C) (P : Fp g C) (St : Fn g 3 "file_state" (R_fstate C)) (Iw : Fn g 4 "is_state_write" R_swrite) (Af : Fn g 2 "state_after" R_safter) {f : Addr} {fd : FuncData} (F : Fun g.K "passed_states" "passed_states" sPassed f fd) : FnOk g.P g.w g.K g.mg g.base CX0 5 f fd ["file", "writes"] (spR g.K (R_passed C)) := by
  refine fn_ok F scPassed (fun ds d ⟨ls, ps, od, pp, op, tn, W, ws, _, _, _, _, e, _⟩ => by rw [e]; rfl) fun ds d ⟨ls, ps, od, pp, op, tn, W, ws, v, hc, hl, hW, e, ed⟩ => ?_
  subst e ed
  have hk : W.isObj = false := by rcases hW with rfl | rfl <;> rfl
  refine dss_cons (ds_if (x := false) (DT.is (dt_not (dt_e (de_isLT B hk (de_v 1)))) (by rcases hW with rfl | rfl <;> rfl)) (fun h => by cases h) fun _ => dss_nil (dss_cons (ds_setL 2 scPassed.nd (dl_lst (da_cons (de_call St (da_cons (de_v 0) da_nil) ⟨ls, ps, od, pp, op, tn, rfl, rfl⟩) da_nil)) (dss_cons (ds_for (is := [3, 4]) (ds := enumD (ws.map Wr.d)) ?_
    (fun i ρ => ∃ x3 x4 : EV, ρ = [.val (fileD C ls ps od pp op tn), .val W, .own (statesD ps od (ws.take i)), x3, x4]) ⟨_, _, rfl⟩ ?_ ?_)))))
  · rcases hW with rfl | rfl
    · exact di_enumL B.enum (de_v 1)
    · exact di_enumT B.enum (de_v 1)
  · rintro i d ρ hd ⟨x3, x4, rfl⟩
    have hi' : i < ws.length := by
      have := (List.getElem?_eq_some_iff.mp hd).1
      rwa [enumD_len, List.length_map] at this
    have hw : ws[i]? = some ws[i] := List.getElem?_eq_getElem hi'
    have hwd : (ws.map Wr.d)[i]? = some (ws[i]).d := by rw [List.getElem?_map, hw]; rfl
    obtain rfl := enumD_get hwd hd
    obtain ⟨h1, h2⟩ := chain_take hc hw
    have v1 := VS.chain v (chain_pre i hc)
    have lst := statesD_last ps od (ws.take i)
    refine ⟨_, dg_tup (dgs_cons (dg_n 3 scPassed.nd) (dgs_cons (dg_n 4 scPassed.nd) dgs_nil)), dss_cons (ds_if (x := false) (DT.is (dt_not (dt_e (de_call Iw (da_cons (de_ls L P (de_v 0)) (da_cons (de_ixOwn 2 rfl lst (de_neg de_int)) (da_cons (de_v 4) da_nil))) ⟨ls, _, _, (ws[i]).d, v1.hps, fit_wr h1, rfl, rfl⟩))) ?_) (fun h => by cases h) fun _ => dss_nil
      (dss_one (ds_append 2 rfl (de_call Af (da_cons (de_ixOwn 2 rfl lst (de_neg de_int)) (da_cons (de_v 4) da_nil)) ⟨_, _, ws[i], h1.ok, v1.hps, rfl, rfl⟩) ?_ ⟨.val (.int i), .val (ws[i]).d, ?_⟩)))⟩
    · rw [isWr_d h1, h2]
      rfl
    · rw [statesD_len, List.length_take]
      omega
    · rw [statesD_snoc ps od ws i hi', take_end hw, take_endO hw]
      rfl
  · rintro ρ ⟨x3, x4, rfl⟩
    rw [enumD_len, List.length_map, List.take_length]
    exact dss_freeze 2 rfl (dss_one (ds_ret (de_v 2) rfl))
theorem scCheckWrites : FnScope ["file", "writes"] ["file", "writes"] (defScope sCheckWrites) := ⟨rfl, rfl, rfl, by decide +kernel, rfl, by decide +kernel, by decide +kernel⟩
def R_cwrs (C : Addr) : List DV → DV → Prop := fun ds d => ∃ ls ps od pp op tn W ws, VS ls ps od ∧ chain ls ps od ws ∧ ws.length ≤ 1000 ∧ rowOf W ws ∧ ds = [fileD C ls ps od pp op tn, W] ∧ d = .non
theorem ok_cwrs (Pa : Fn g 5 "passed_states" (R_passed C)) {f : Addr} {fd : FuncData} (F : Fun g.K "check_writes" "check_writes" sCheckWrites f fd) : FnOk g.P g.w g.K g.mg g.base CX0 6 f fd ["file", "writes"] (spR g.K (R_cwrs C)) := by
  refine fn_ok F scCheckWrites (fun ds d ⟨ls, ps, od, pp, op, tn, W, ws, _, _, _, _, e, _⟩ => by rw [e]; rfl) fun ds d ⟨ls, ps, od, pp, op, tn, W, ws, v, hc, hl, hW, e, ed⟩ => ?_
  subst e ed
  exact dss_one (ds_ex (de_call Pa (da_cons (de_v 0) (da_cons (de_v 1) da_nil)) ⟨ls, ps, od, pp, op, tn, W, ws, v, hc, hl, hW, rfl, rfl⟩) rfl)
theorem scApply : FnScope ["file", "writes"] ["file", "writes"] (defScope sApply) := ⟨rfl, rfl, rfl, by decide +kernel, rfl, by decide +kernel, by decide +kernel⟩
def R_apply (C : Addr) : List DV → DV → Prop := fun ds d => ∃ ls ps od pp op tn W ws, VF ls ps od pp op ∧ chain ls ps od ws ∧ ws.length ≤ 1000 ∧ rowOf W ws ∧ ds = [fileD C ls ps od pp op tn, W] ∧ d = fileD C ls (endP ps ws) (endO od ws) pp op tn
theorem ok_apply (Ck : Fn g 1 "check_file" (R_cfile C)) (Pa : Fn g 5 "passed_states" (R_passed C)) (At : Fn g 6 "file_at" (R_fat C)) {f : Addr} {fd : FuncData} (F : Fun g.K "apply" "apply" sApply f fd) : FnOk g.P g.w g.K g.mg g.base CX0 7 f fd ["file", "writes"] (spR g.K (R_apply C)) := by
  refine fn_ok F scApply (fun ds d ⟨ls, ps, od, pp, op, tn, W, ws, _, _, _, _, e, _⟩ => by rw [e]; rfl) fun ds d ⟨ls, ps, od, pp, op, tn, W, ws, v, hc, hl, hW, e, ed⟩ => ?_
  subst e ed
  exact dss_cons (ds_ex (de_call Ck (da_cons (de_v 0) da_nil) ⟨_, rfl, rfl⟩) (dss_one (ds_ret (de_call At (da_cons (de_v 0) (da_cons (de_ixL (statesD_last ps od ws) (de_call Pa (da_cons (de_v 0) (da_cons (de_v 1) da_nil)) ⟨ls, ps, od, pp, op, tn, W, ws, v.v, hc, hl, hW, rfl, rfl⟩) (de_neg de_int)) da_nil)) ⟨ls, ps, od, _, _, pp, op, tn, VS.chain v.v hc, v.pp, v.op, rfl, rfl⟩) rfl)))
theorem scCostOf : FnScope ["file", "writes", "write"] ["file", "writes"] (defScope sCostOf) := ⟨rfl, rfl, rfl, by decide +kernel, rfl, by decide +kernel, by decide +kernel⟩
def R_cost (C : Addr) : List DV → DV → Prop := fun ds d => ∃ ls ps od pp op tn W ws, VS ls ps od ∧ chain ls ps od ws ∧ ws.length ≤ 1000 ∧ rowOf W ws ∧ ds = [fileD C ls ps od pp op tn, W] ∧ d = .int (costOf pp op ws)
theorem ok_cost (B : Bt g) (Ck : Fn g 1 "check_file" (R_cfile C)) (Cw : Fn g 6 "check_writes" (R_cwrs C)) (Po : Fn g 3 "price_of" (R_pof C)) {f : Addr} {fd : FuncData} (F : Fun g.K "cost_of" "cost_of" sCostOf f fd) : FnOk g.P g.w g.K g.mg g.base CX0 7 f fd ["file", "writes"] (spR g.K (R_cost C)) := by
  refine fn_ok F scCostOf (fun ds d ⟨ls, ps, od, pp, op, tn, W, ws, _, _, _, _, e, _⟩ => by rw [e]; rfl) fun ds d ⟨ls, ps, od, pp, op, tn, W, ws, v, hc, hl, hW, e, ed⟩ => ?_
  subst e ed
  refine dss_cons (ds_ex (de_call Ck (da_cons (de_v 0) da_nil) ⟨_, rfl, rfl⟩) (dss_cons (ds_ex (de_call Cw (da_cons (de_v 0) (da_cons (de_v 1) da_nil)) ⟨ls, ps, od, pp, op, tn, W, ws, v, hc, hl, hW, rfl, rfl⟩) (dss_one (ds_ret (de_sum (ns := ws.map (priceOf pp op)) B.sum (DE.is (dl_rL (own := [("write", 2)]) scCostOf.nd (by decide +kernel) (rL.ev (is := [2]) (ds := ws.map Wr.d) ?_ (by rw [List.length_map]; omega) (by decide)
    (fun d => [.val (fileD C ls ps od pp op tn), .val W, .val d]) (fun _ => true) (fun d => .int (priceOf pp op (wrOf d))) (fun d hd => dg_n 2 scCostOf.nd) (fun d hd => dts_nil) (fun d hd _ => ?_))).de ?_)) rfl)))))
  · rcases hW with rfl | rfl
    · exact di_l (de_v 1)
    · exact di_t (de_v 1)
  · rw [List.mem_map] at hd
    obtain ⟨w, hw, rfl⟩ := hd
    rw [wrOf_d]
    exact de_call Po (da_cons (de_v 0) (da_cons (de_v 2) da_nil)) ⟨ls, ps, od, pp, op, tn, w, rfl, rfl⟩
  · rw [filt, List.map_map, List.map_map]
    refine congrArg DV.lst (List.map_congr_left fun w _ => ?_)
    show DV.int (priceOf pp op (wrOf w.d)) = _
    rw [wrOf_d]
    rfl
end SP

/-! What the checking part computes, as plain functions. -/
namespace SP
open PySem L2 PD
def intsD (xs : List Int) : List DV := xs.map DV.int
theorem intsD_len (xs : List Int) : (intsD xs).length = xs.length := List.length_map ..
theorem plain_ints : ∀ xs : List Int, plainAll (intsD xs) = true
  | [] => by simp [intsD, plainAll]
  | x :: xs => by
    show plainAll (DV.int x :: intsD xs) = true
    rw [plainAll, plain_ints xs, DV.plain]
    rfl
theorem dep_ints : ∀ xs : List Int, depAll (intsD xs) = 0
  | [] => by simp [intsD, depAll]
  | x :: xs => by
    show depAll (DV.int x :: intsD xs) = 0
    rw [depAll, dep_ints xs, DV.dep]
    rfl
theorem ok_ints (xs : List Int) : (DV.lst (intsD xs)).ok = true := by
  unfold DV.ok
  rw [DV.plain, plain_ints, DV.dep, dep_ints]
  rfl
theorem eqv_nil (x : Int) (xs : List Int) : (DV.lst (intsD (x :: xs))).eqv (.lst []) = false := by
  show PyData.eqv (DV.pd _) (DV.pd _) = _
  rw [DV.pd, DV.pd, PyData.eqv]
  show PyData.eqvAll (pdAll (DV.int x :: intsD xs)) (pdAll []) = false
  rw [pdAll, pdAll, PyData.eqvAll]
/-! cells -/
def cellAt (xs : List Int) (k : Nat) : Int :=
  if k < xs.length then xs.getD k 0 else if xs.length = 0 then (k : Int) * 48271 else ((xs.getD (k % xs.length) 0 + (k : Int)) * 48271) % 2147483647
def pickI (xs : List Int) (k n : Nat) : Nat := (cellAt xs k % (n : Int)).toNat
theorem mod_lt' {a : Int} {n : Nat} (h : 0 < n) : (a % (n : Int)).toNat < n := by
  have h1 := Int.emod_nonneg a (show (n : Int) ≠ 0 by omega)
  have h2 := Int.emod_lt_of_pos a (show (0 : Int) < n by omega)
  omega
theorem mod_nat {a : Int} {n : Nat} (h : 0 < n) : a % (n : Int) = (((a % (n : Int)).toNat : Nat) : Int) := by
  have h1 := Int.emod_nonneg a (show (n : Int) ≠ 0 by omega)
  omega
theorem pickI_lt {xs : List Int} {k n : Nat} (h : 0 < n) : pickI xs k n < n := mod_lt' h
/-! drawn parts -/
def drLs (xs : List Int) : Str := if 0 < cellAt xs 0 % 3 then "ab" else "abc"
theorem drLs_ok (xs : List Int) : letterSet (drLs xs) := by
  unfold drLs
  split
  · exact .inl rfl
  · exact .inr rfl
def drN (xs : List Int) : Nat := 1 + ((cellAt xs 0 / 3) % 4).toNat
def drPs (xs : List Int) : List Str := (List.range (drN xs)).map fun i => (piecesOf (drLs xs)).getD (pickI xs (1 + i) (piecesOf (drLs xs)).length) ⟨#[]⟩
def drOd (xs : List Int) : List Nat := (List.range (((cellAt xs 0 / 12) % 4).toNat)).map fun i => (cellAt xs (6 + i) % (drN xs : Int)).toNat
def drPp (xs : List Int) : Int := 1 + (cellAt xs 0 / 48) % 7 / 3
def drOp (xs : List Int) : Int := 1 + (cellAt xs 0 / 336) % 7 / 3
def drTn (xs : List Int) : Bool := decide ((cellAt xs 0 / 2352) % 2 = 0)
theorem pieces_pos {ls : Str} (h : letterSet ls) : 0 < (piecesOf ls).length := by rcases h with rfl | rfl <;> decide +kernel
theorem getD_mem {α : Type} {l : List α} {i : Nat} {d : α} (h : i < l.length) : l.getD i d ∈ l := by
  rw [List.getD_eq_getElem?_getD, List.getElem?_eq_getElem h]
  exact List.getElem_mem h
theorem dr_vs (xs : List Int) : VS (drLs xs) (drPs xs) (drOd xs) where
  hls := drLs_ok xs
  hps1 := by
    unfold drPs drN
    rw [List.length_map, List.length_range]
    omega
  hps := by
    unfold drPs drN
    rw [List.length_map, List.length_range]
    omega
  hp := fun p hp => by
    unfold drPs at hp
    rw [List.mem_map] at hp
    obtain ⟨i, _, rfl⟩ := hp
    exact pieces_word (drLs_ok xs) _ (getD_mem (pickI_lt (pieces_pos (drLs_ok xs))))
  hod := by
    unfold drOd
    rw [List.length_map, List.length_range]
    omega
  hb := fun b hb => by
    unfold drOd at hb
    rw [List.mem_map] at hb
    obtain ⟨i, _, rfl⟩ := hb
    have e : (drPs xs).length = drN xs := by
      unfold drPs
      rw [List.length_map, List.length_range]
    rw [e]
    exact mod_lt' (by unfold drN; omega)
theorem drPs_len (xs : List Int) : (drPs xs).length = drN xs := by
  unfold drPs
  rw [List.length_map, List.length_range]
theorem dr_pp (xs : List Int) : 1 ≤ drPp xs ∧ drPp xs ≤ 5 := by
  unfold drPp
  omega
theorem dr_op (xs : List Int) : 1 ≤ drOp xs ∧ drOp xs ≤ 5 := by
  unfold drOp
  omega
def partsD (ls : Str) (ps : List Str) (od : List Nat) (pp op : Int) (tn : Bool) : DV := .tup [.str ls, .tup (psD ps), .tup (odD od), .int pp, .int op, .bl tn]
/-! texts -/
structure Bx (ps : List Str) (od : List Nat) : Prop where
  hp : ∀ p ∈ ps, p.length ≤ 4
  hod : od.length ≤ 6
  hb : ∀ b ∈ od, b < ps.length
theorem Bd.bx {ps : List Str} {od : List Nat} (h : Bd ps od) : Bx ps od := ⟨h.hp, h.hod, h.hb⟩
theorem textX_len {ps : List Str} {od : List Nat} (h : Bx ps od) : (textOf ps od).length ≤ 24 := by
  unfold textOf
  rw [catS_len]
  refine Nat.le_trans (sum_le (m := 4) fun x hx => ?_) ?_
  · rw [List.map_map, List.mem_map] at hx
    obtain ⟨b, hb, rfl⟩ := hx
    exact h.hp _ (oldP_mem (h.hb b hb))
  · rw [List.length_map, List.length_map]
    have := h.hod
    omega
theorem Bx.take {ps : List Str} {od : List Nat} (h : Bx ps od) (i : Nat) : Bx ps (od.take i) := ⟨h.hp, Nat.le_trans (List.length_take_le' ..) h.hod, fun b hb => h.hb b (List.mem_of_mem_take hb)⟩
theorem textOf_snoc (ps : List Str) (od : List Nat) (b : Nat) : textOf ps (od ++ [b]) = textOf ps od ++ oldP ps b := by
  unfold textOf catS
  rw [List.map_append, List.foldl_append]
  rfl
/-- words over the letters -/
theorem word_app {ls a b : Str} {m n : Nat} (h : wordOk ls m a = true) (h' : wordOk ls n b = true) : wordOk ls (m + n) (a ++ b) = true := by
  unfold wordOk at h h' ⊢
  rw [Bool.and_eq_true] at h h' ⊢
  refine ⟨decide_eq_true ?_, ?_⟩
  · have h1 := of_decide_eq_true h.1
    have h2 := of_decide_eq_true h'.1
    rw [Str.length_append]
    omega
  · show (a.cps ++ b.cps).toList.all (codeOk ls) = true
    rw [Array.toList_append, List.all_append, h.2, h'.2]
    rfl
theorem word_nil (ls : Str) (m : Nat) : wordOk ls m ⟨#[]⟩ = true := by
  unfold wordOk
  rw [Bool.and_eq_true]
  exact ⟨decide_eq_true (Nat.zero_le _), rfl⟩
theorem word_le {ls a : Str} {m n : Nat} (h : wordOk ls m a = true) (hm : m ≤ n) : wordOk ls n a = true := by
  unfold wordOk at h ⊢
  rw [Bool.and_eq_true] at h ⊢
  exact ⟨decide_eq_true (Nat.le_trans (of_decide_eq_true h.1) hm), h.2⟩
theorem cat_word {ls : Str} {m : Nat} : ∀ l : List Str, (∀ p ∈ l, wordOk ls m p = true) → wordOk ls (l.length * m) (catS l) = true
  | [], _ => word_nil _ _
  | x :: l, h => by
    rw [catS_cons]
    exact word_le (word_app (h x (List.mem_cons_self ..)) (cat_word l fun p hp => h p (List.mem_cons_of_mem _ hp))) (by rw [List.length_cons, Nat.succ_mul]; omega)
theorem text_word {ls : Str} {ps : List Str} {od : List Nat} (hp : ∀ p ∈ ps, wordOk ls 2 p = true) (hod : od.length ≤ 3) (hb : ∀ b ∈ od, b < ps.length) : wordOk ls 6 (textOf ps od) = true := by
  unfold textOf
  refine word_le (cat_word (m := 2) _ fun p h => ?_) ?_
  · rw [List.mem_map] at h
    obtain ⟨b, hb', rfl⟩ := h
    exact hp _ (oldP_mem (hb b hb'))
  · rw [List.length_map]
    omega
theorem word_rev {ls z : Str} {m : Nat} (h : wordOk ls m z = true) : wordOk ls m (revS z) = true := by
  unfold wordOk at h ⊢
  rw [Bool.and_eq_true] at h ⊢
  refine ⟨by rw [revS_len]; exact h.1, ?_⟩
  rw [List.all_eq_true]
  intro c hc
  exact List.all_eq_true.mp h.2 c (revS_mem hc)
/-- one letter of a text changed -/
def setS (z : Str) (i : Nat) (c : Str) : Str := takeS z i ++ c ++ dropS z (i + 1)
theorem setS_word {ls z c : Str} {m i : Nat} (h : wordOk ls m z = true) (hc : wordOk ls 1 c = true) (hi : i < z.length) : wordOk ls m (setS z i c) = true := by
  unfold wordOk at h hc ⊢
  rw [Bool.and_eq_true] at h hc ⊢
  have h1 := of_decide_eq_true h.1
  have h2 := of_decide_eq_true hc.1
  refine ⟨decide_eq_true ?_, ?_⟩
  · unfold setS
    rw [Str.length_append, Str.length_append, dropS_len]
    have := takeS_len z i
    omega
  · show ((z.cps.toList.take i).toArray ++ c.cps ++ (z.cps.toList.drop (i + 1)).toArray).toList.all (codeOk ls) = true
    rw [Array.toList_append, Array.toList_append, List.all_append, List.all_append, hc.2, Bool.and_true, Bool.and_eq_true, List.all_eq_true, List.all_eq_true]
    exact ⟨fun c hc => List.all_eq_true.mp h.2 c (List.mem_of_mem_take hc), fun c hc => List.all_eq_true.mp h.2 c (List.mem_of_mem_drop hc)⟩
/-- the letter at a place -/
def atS (z : Str) (i : Nat) : Str := ⟨#[z.cps.toList.getD i 0]⟩
theorem atS_word {ls : Str} {i : Nat} (h : i < ls.length) : wordOk ls 1 (atS ls i) = true := by
  unfold wordOk
  rw [Bool.and_eq_true]
  refine ⟨decide_eq_true (Nat.le_refl _), ?_⟩
  show ([ls.cps.toList.getD i 0]).all (codeOk ls) = true
  rw [List.all_cons, List.all_nil, Bool.and_true]
  exact decide_eq_true (getD_mem (by rw [len_toList]; exact h))
/-- the new text -/
def goalOf (xs : List Int) (ls : Str) (ps : List Str) (od : List Nat) : Str :=
  let d := cellAt xs 11
  let old := textOf ps od
  if d % 4 = 0 then revS old
  else if d % 4 = 1 ∧ old.length ≠ 0 then setS old ((d / 4) % (old.length : Int)).toNat (atS ls ((d / 40) % (ls.length : Int)).toNat)
  else if d % 4 = 2 then textOf ps (od.map fun (b : Nat) => (((b : Int) + 1) % (ps.length : Int)).toNat)
  else textOf (piecesOf ls) [((d / 4) % 7).toNat, ((d / 28) % 7).toNat]
theorem pieces7 {ls : Str} (h : letterSet ls) : 7 ≤ (piecesOf ls).length := by rcases h with rfl | rfl <;> decide +kernel
theorem ls_pos {ls : Str} (h : letterSet ls) : 0 < ls.length := by rcases h with rfl | rfl <;> decide +kernel
theorem goal_word {xs : List Int} {ls : Str} {ps : List Str} {od : List Nat} (v : VS ls ps od) : wordOk ls 6 (goalOf xs ls ps od) = true := by
  have w := text_word v.hp v.hod v.hb
  have hp := v.hps1
  unfold goalOf
  simp only
  split
  · exact word_rev w
  · split
    · rename_i h
      exact setS_word w (atS_word (mod_lt' (ls_pos v.hls))) (mod_lt' (Nat.pos_of_ne_zero h.2))
    · split
      · refine text_word v.hp (by rw [List.length_map]; exact v.hod) fun b hb => ?_
        rw [List.mem_map] at hb
        obtain ⟨c, _, rfl⟩ := hb
        exact mod_lt' (by omega)
      · have h7 := pieces7 v.hls
        refine text_word (pieces_word v.hls) (show 2 ≤ 3 by decide) fun b hb => ?_
        rcases List.mem_cons.mp hb with rfl | hb
        · omega
        · rcases List.mem_cons.mp hb with rfl | hb
          · omega
          · cases hb
end SP

namespace SP
open PySem PySem.Spec PyProof.Rows L2 PD
variable {g : Gb} {C : Addr}
abbrev lCell : Stmt := topS 54
abbrev lPick : Stmt := topS 55
abbrev lPieces : Stmt := topS 56
abbrev lDrawn : Stmt := topS 57
abbrev lBuilt : Stmt := topS 58
abbrev lText : Stmt := topS 59
abbrev lGoal : Stmt := topS 60
abbrev lOrders : Stmt := topS 61
abbrev lWrites : Stmt := topS 62
abbrev lDone : Stmt := topS 63
abbrev lReadings : Stmt := topS 64
abbrev lSafe : Stmt := topS 65
abbrev lPrice : Stmt := topS 66
abbrev lFileRight : Stmt := topS 67
abbrev lWritesRight : Stmt := topS 68
abbrev lLaw : Stmt := topS 69
theorem ints_get {xs : List Int} {i : Nat} (h : i < xs.length) : (intsD xs)[i]? = some (.int (xs.getD i 0)) := by
  unfold intsD
  rw [List.getElem?_map, List.getElem?_eq_getElem h, List.getD_eq_getElem?_getD, List.getElem?_eq_getElem h]
  rfl
/-- the script: a list, that may be one of the module's own -/
def Scr (D : DV) (xs : List Int) : Prop := D = .lst (intsD xs) ∨ D = .frz (intsD xs)
theorem Scr.items {D : DV} {xs : List Int} (h : Scr D xs) : D.items = some (intsD xs) := by rcases h with rfl | rfl <;> rfl
theorem Scr.ok {D : DV} {xs : List Int} (h : Scr D xs) : D.ok = true := by
  rcases h with rfl | rfl
  · exact ok_ints xs
  · unfold DV.ok
    rw [DV.plain, plain_ints, DV.dep, dep_ints]
    rfl
theorem Scr.eqv {D : DV} {xs : List Int} (h : Scr D xs) (d : DV) : D.eqv d = (DV.lst (intsD xs)).eqv d := by
  rcases h with rfl | rfl
  · rfl
  · unfold DV.eqv
    rw [DV.pd, DV.pd]
theorem de_ixR {l : Lc} {ρ : Rho} {a b : Expr} {pos : Pos} {D d : DV} {xs : List Int} {i : Int} (hq : Scr D xs) (h : atI (intsD xs) i = some d) (ha : DE g l a ρ D) (hb : DE g l b ρ (.int i)) (hs : PlainIx b := by exact fun _ _ => rfl) : DE g l (.Subscript a b pos) ρ d := by
  rcases hq with rfl | rfl
  · exact de_ixL h ha hb hs
  · exact de_ixF h ha hb hs
theorem scCell : FnScope ["_law_script", "_law_k"] ["_law_script", "_law_k"] (defScope lCell) := ⟨rfl, rfl, rfl, by decide +kernel, rfl, by decide +kernel, by decide +kernel⟩
def R_cell : List DV → DV → Prop := fun ds d => ∃ (D : DV) (xs : List Int) (k : Nat), Scr D xs ∧ k ≤ 1000 ∧ ds = [D, .int k] ∧ d = .int (cellAt xs k)
theorem ok_cell (B : Bt g) {f : Addr} {fd : FuncData} (F : Fun g.K "_law_cell_at" "_law_cell_at" lCell f fd) : FnOk g.P g.w g.K g.mg g.base CX0 1 f fd ["_law_script", "_law_k"] (spR g.K R_cell) := by
  refine fn_ok F scCell (fun ds d ⟨D, xs, k, _, _, e, _⟩ => by rw [e]; rfl) fun ds d ⟨D, xs, k, hD, hk, e, ed⟩ => ?_
  subst e ed
  refine dss_cons (ds_if (x := decide (k < xs.length)) (DT.is (dt_ltI (de_v 1) (de_len B.len hD.items (de_v 0))) ?_) (fun h => ?_) fun h => dss_nil ?_)
  · rw [intsD_len]
    exact decide_eq_decide.mpr (by omega)
  · have h := of_decide_eq_true h
    refine dss_one (ds_ret (de_ixR hD (atI_nat (ints_get h)) (de_v 0) (de_v 1)) ?_)
    unfold cellAt
    rw [if_pos h]
  · have h := of_decide_eq_false h
    cases xs with
    | nil =>
      refine dss_cons (ds_if (x := true) (DT.is (dt_eqD hD.ok rfl (de_v 0) (dl_lst da_nil).de) (hD.eqv _)) (fun _ => dss_one (ds_ret (de_mul (.inr (by decide)) (de_v 1) de_int) ?_)) fun h => by cases h)
      rfl
    | cons x xs =>
      refine dss_cons (ds_if (x := false) (DT.is (dt_eqD hD.ok rfl (de_v 0) (dl_lst da_nil).de) ((hD.eqv _).trans (eqv_nil x xs))) (fun h => by cases h) fun _ => dss_nil (dss_one (ds_ret (de_mod (by decide) (de_intOf B.int (de_mul (.inr (by decide)) (de_add (i := (x :: xs).getD (k % (x :: xs).length) 0) (j := k) (de_ixR hD (i := ((k % (x :: xs).length : Nat) : Int)) (atI_nat (ints_get (Nat.mod_lt _ (Nat.succ_pos _)))) (de_v 0) (DE.is (de_mod (j := ((intsD (x :: xs)).length : Int)) (by rw [intsD_len]; show (0 : Int) < ((xs.length + 1 : Nat) : Int); omega) (de_intOf B.int (de_v 1)) (de_len B.len hD.items (de_v 0))) ?_)) (de_v 1)) de_int)) de_int) ?_)))
      · rw [intsD_len]
        rfl
      · unfold cellAt
        rw [if_neg h, if_neg (show ¬ ((x :: xs).length = 0) from Nat.succ_ne_zero _)]
theorem scPick : FnScope ["_law_script", "_law_at", "_law_row"] ["_law_script", "_law_at", "_law_row"] (defScope lPick) := ⟨rfl, rfl, rfl, by decide +kernel, rfl, by decide +kernel, by decide +kernel⟩
def R_pick : List DV → DV → Prop := fun ds d => ∃ (D : DV) (xs : List Int) (k : Nat) (row : List DV), Scr D xs ∧ k ≤ 1000 ∧ ds = [D, .int k, .lst row] ∧ row[pickI xs k row.length]? = some d
theorem ok_pick (B : Bt g) (Ce : Fn g 1 "_law_cell_at" R_cell) {f : Addr} {fd : FuncData} (F : Fun g.K "_law_pick" "_law_pick" lPick f fd) : FnOk g.P g.w g.K g.mg g.base CX0 2 f fd ["_law_script", "_law_at", "_law_row"] (spR g.K R_pick) := by
  refine fn_ok F scPick (fun ds d ⟨D, xs, k, row, _, _, e, _⟩ => by rw [e]; rfl) fun ds d ⟨D, xs, k, row, hD, hk, e, hd⟩ => ?_
  subst e
  have hp : 0 < row.length := by
    have := (List.getElem?_eq_some_iff.mp hd).1
    omega
  refine dss_one (ds_ret (de_ixL (i := ((pickI xs k row.length : Nat) : Int)) (atI_nat hd) (de_v 2) (DE.is (de_mod (show (0 : Int) < ((row.length : Nat) : Int) by omega) (de_intOf B.int (de_call Ce (da_cons (de_v 0) (da_cons (de_v 1) da_nil)) ⟨_, xs, k, hD, hk, rfl, rfl⟩)) (de_len B.len rfl (de_v 2))) ?_)) rfl)
  rw [mod_nat hp]
  rfl
theorem psD_mem {ps : List Str} {d : DV} (h : d ∈ psD ps) : ∃ z ∈ ps, d = .str z := by
  unfold psD at h
  rw [List.mem_map] at h
  obtain ⟨z, hz, rfl⟩ := h
  exact ⟨z, hz, rfl⟩
theorem psD_at {ps : List Str} {i : Nat} {d : DV} (h : (psD ps)[i]? = some d) : ∃ z, ps[i]? = some z ∧ d = .str z := by
  unfold psD at h
  rw [List.getElem?_map] at h
  cases q : ps[i]? with
  | none => rw [q] at h; cases h
  | some z =>
    rw [q] at h
    cases h
    exact ⟨z, rfl, rfl⟩
theorem ones_len1 {ls z : Str} (h : z ∈ onesS ls) : z.length = 1 := by
  unfold onesS at h
  rw [List.mem_map] at h
  obtain ⟨c, _, rfl⟩ := h
  rfl
theorem scLPieces : FnScope ["_law_letters", "_law_one", "_law_found", "_law_other"] ["_law_letters"] (defScope lPieces) := ⟨rfl, rfl, rfl, by decide +kernel, rfl, by decide +kernel, by decide +kernel⟩
def R_lpieces : List DV → DV → Prop := fun ds d => ∃ ls, letterSet ls ∧ ds = [.str ls] ∧ d = .lst (psD (piecesOf ls))
def prePieces (ls : Str) (i : Nat) : List Str := [⟨#[]⟩] ++ onesS ls ++ ((onesS ls).take i).flatMap fun a => (onesS ls).map fun b => a ++ b
theorem prePieces_len {ls : Str} (h : letterSet ls) (i : Nat) : (prePieces ls i).length ≤ 13 := by
  unfold prePieces
  have h1 := onesS_len h
  rw [List.length_append, List.length_append, List.length_flatMap]
  have := sum_le (l := ((onesS ls).take i).map fun a => ((onesS ls).map fun b => a ++ b).length) (m := 3) (by
    intro x hx
    rw [List.mem_map] at hx
    obtain ⟨a, _, rfl⟩ := hx
    rw [List.length_map]
    exact h1)
  rw [List.length_map, List.length_take] at this
  have e : ([⟨#[]⟩] : List Str).length = 1 := rfl
  omega
theorem ok_lpieces {f : Addr} {fd : FuncData} (F : Fun g.K "_law_pieces" "_law_pieces" lPieces f fd) : FnOk g.P g.w g.K g.mg g.base CX0 1 f fd ["_law_letters"] (spR g.K R_lpieces) := by
  refine fn_ok F scLPieces (fun ds d ⟨ls, _, e, _⟩ => by rw [e]; rfl) fun ds d ⟨ls, hls, e, ed⟩ => ?_
  subst e ed
  have h1 := onesS_len hls
  refine dss_cons (ds_set 2 scLPieces.nd (DE.is (d' := .lst (psD (prePieces ls 0))) (de_catL (i := [.str ⟨#[]⟩]) (j := psD (onesS ls)) (by rw [psD_len]; show 1 + _ ≤ 100000; omega) (dl_lst (da_cons de_str da_nil)).de (DE.is (dl_rL (own := [("_law_one", 1)]) scLPieces.nd (by decide +kernel) (rL.ev (is := [1]) (ds := psD (onesS ls)) (DI.is (di_s (de_v 0)) (signD_ones ls)) (by rw [psD_len]; omega) (by decide)
    (fun d => [.val (.str ls), .val d, .un, .un]) (fun _ => true) (fun d => d) (fun d hd => dg_n 1 scLPieces.nd) (fun d hd => dts_nil) (fun d hd _ => de_v 1))).de ?_)) ?_) (dss_cons (ds_for (is := [1]) (ds := psD (onesS ls)) (DI.is (di_s (de_v 0)) (signD_ones ls))
    (fun i ρ => ∃ x1 : EV, ρ = [.val (.str ls), x1, .val (.lst (psD (prePieces ls i))), .un]) ⟨.un, rfl⟩ ?_ ?_)))
  · rw [filt, List.map_id']
  · unfold prePieces
    rw [List.take_zero, List.flatMap_nil, List.append_nil]
    rfl
  · rintro i d ρ hd ⟨x1, rfl⟩
    obtain ⟨a, ha, rfl⟩ := psD_at hd
    have la := ones_len1 (List.mem_of_getElem? ha)
    have hl := prePieces_len hls i
    refine ⟨_, dg_n 1 scLPieces.nd, dss_one (ds_set 2 scLPieces.nd (DE.is (d' := .lst (psD (prePieces ls (i + 1)))) (de_catL (i := psD (prePieces ls i)) (j := psD ((onesS ls).map fun b => a ++ b)) (by rw [psD_len, psD_len, List.length_map]; omega) (de_v 2) (DE.is (dl_rL (own := [("_law_other", 3)]) scLPieces.nd (by decide +kernel) (rL.ev (is := [3]) (ds := psD (onesS ls)) (DI.is (di_s (de_v 0)) (signD_ones ls)) (by rw [psD_len]; omega) (by decide)
      (fun d => [.val (.str ls), .val (.str a), .val (.lst (psD (prePieces ls i))), .val d]) (fun _ => true) (fun d => match d with | .str z => .str (a ++ z) | _ => .non) (fun d hd => dg_n 3 scLPieces.nd) (fun d hd => dts_nil) (fun d hd _ => ?_))).de ?_)) ?_) ⟨.val (.str a), rfl⟩)⟩
    · obtain ⟨z, hz, rfl⟩ := psD_mem hd
      have lz := ones_len1 hz
      exact de_addS (by omega) (de_v 1) (de_v 3)
    · rw [filt]
      unfold psD
      rw [List.map_map, List.map_map]
      rfl
    · unfold prePieces psD
      rw [take_more ha, List.flatMap_append, ← List.append_assoc, List.map_append (l₂ := ([a].flatMap _)), List.flatMap_singleton]
  · rintro ρ ⟨x1, rfl⟩
    rw [psD_len]
    refine dss_one (ds_ret (de_v 2) ?_)
    show DV.lst _ = DV.lst _
    unfold prePieces
    rw [List.take_length]
    rfl
end SP

namespace SP
open PySem PySem.Spec PyProof.Rows L2 PD
variable {g : Gb} {C : Addr}
theorem scLText : FnScope ["_law_pieces_here", "_law_order", "_law_found", "_law_block"] ["_law_pieces_here", "_law_order"] (defScope lText) := ⟨rfl, rfl, rfl, by decide +kernel, rfl, by decide +kernel, by decide +kernel⟩
def R_ltext : List DV → DV → Prop := fun ds d => ∃ P O ps od, Bx ps od ∧ SqD P (psD ps) ∧ SqD O (odD od) ∧ ds = [P, O] ∧ d = .str (textOf ps od)
theorem odD_at {od : List Nat} {i : Nat} {d : DV} (h : (odD od)[i]? = some d) : ∃ b : Nat, od[i]? = some b ∧ d = .int (b : Int) := by
  unfold odD at h
  rw [List.getElem?_map] at h
  cases q : od[i]? with
  | none => rw [q] at h; cases h
  | some z =>
    rw [q] at h
    cases h
    exact ⟨z, rfl, rfl⟩
theorem odD_mem {od : List Nat} {d : DV} (h : d ∈ odD od) : ∃ b : Nat, b ∈ od ∧ d = .int (b : Int) := by
  unfold odD at h
  rw [List.mem_map] at h
  obtain ⟨z, hz, rfl⟩ := h
  exact ⟨z, hz, rfl⟩
theorem ok_ltext {f : Addr} {fd : FuncData} (F : Fun g.K "_law_text" "_law_text" lText f fd) : FnOk g.P g.w g.K g.mg g.base CX0 1 f fd ["_law_pieces_here", "_law_order"] (spR g.K R_ltext) := by
  refine fn_ok F scLText (fun ds d ⟨P, O, ps, od, _, _, _, e, _⟩ => by rw [e]; rfl) fun ds d ⟨P, O, ps, od, h, hP, hO, e, ed⟩ => ?_
  subst e ed
  refine dss_cons (ds_set 2 scLText.nd de_str (dss_cons (ds_for (is := [3]) (ds := odD od) (di_q hO (de_v 1)) (fun i ρ => ∃ x3 : EV, ρ = [.val P, .val O, .val (.str (textOf ps (od.take i))), x3]) ⟨.un, ?_⟩ ?_ ?_)))
  · rfl
  · rintro i d ρ hd ⟨x3, rfl⟩
    obtain ⟨b, hb, rfl⟩ := odD_at hd
    have hbl := h.hb b (List.mem_of_getElem? hb)
    have l1 := textX_len (h.take i)
    have l2 := h.hp _ (oldP_mem hbl)
    refine ⟨_, dg_n 3 scLText.nd, dss_one (ds_set 2 scLText.nd (DE.is (de_addS (i := textOf ps (od.take i)) (j := oldP ps b) (by omega) (de_v 2) (de_ixQ hP (atI_nat (psD_get (get_piece hbl))) (de_v 0) (de_v 3))) ?_) ⟨.val (.int b), rfl⟩)⟩
    rw [take_more hb, textOf_snoc]
  · rintro ρ ⟨x3, rfl⟩
    rw [odD_len, List.take_length]
    exact dss_one (ds_ret (de_v 2) rfl)
theorem scLGoal : FnScope ["_law_script", "_law_at", "_law_parts", "_law_draw", "_law_old", "_law_place", "_law_letter", "_law_block"] ["_law_script", "_law_at", "_law_parts"] (defScope lGoal) := ⟨rfl, rfl, rfl, by decide +kernel, rfl, by decide +kernel, by decide +kernel⟩
def R_lgoal : List DV → DV → Prop := fun ds d => ∃ D xs ls ps od pp op tn, Scr D xs ∧ VS ls ps od ∧ ds = [D, .int 11, partsD ls ps od pp op tn] ∧ d = .str (goalOf xs ls ps od)
section
variable {l : Lc} {ρ : Rho} {e : Expr} {pos p1 : Pos} {j : Option Str} {ls : Str} {ps : List Str} {od : List Nat} {pp op : Int} {tn : Bool}
end
theorem atS_get {z : Str} {i : Nat} (h : i < z.length) : atI z.cps.toList (i : Int) = some (z.cps.toList.getD i 0) := by
  refine atI_nat ?_
  rw [List.getD_eq_getElem?_getD, List.getElem?_eq_getElem (by rw [len_toList]; exact h)]
  rfl
theorem len_ls {ls : Str} (h : letterSet ls) : ls.length ≤ 3 := by rcases h with rfl | rfl <;> decide +kernel
theorem str_ne_nil (z : Str) : decide (z = ("" : Str)) = decide (z.length = 0) := by
  refine decide_eq_decide.mpr ⟨fun h => by rw [h]; rfl, fun h => ?_⟩
  refine Str.ext' ?_
  show z.cps = #[]
  exact Array.eq_empty_of_size_eq_zero h
theorem ok_lgoal (B : Bt g) (Ce : Fn g 1 "_law_cell_at" R_cell) (Te : Fn g 1 "_law_text" R_ltext) (Lp : Fn g 1 "_law_pieces" R_lpieces) {f : Addr} {fd : FuncData} (F : Fun g.K "_law_goal" "_law_goal" lGoal f fd) : FnOk g.P g.w g.K g.mg g.base CX0 2 f fd ["_law_script", "_law_at", "_law_parts"] (spR g.K R_lgoal) := by
  refine fn_ok F scLGoal (fun ds d ⟨D, xs, ls, ps, od, pp, op, tn, _, _, e, _⟩ => by rw [e]; rfl) fun ds d ⟨D, xs, ls, ps, od, pp, op, tn, hD, v, e, ed⟩ => ?_
  subst e ed
  have hlen := textOf_len v.bd
  have hls := len_ls v.hls
  have hls0 := ls_pos v.hls
  have hps1 := v.hps1
  have Q : ∀ {l : Lc} {ρ : Rho} {e : Expr} {pos p1 : Pos} {i : Int} {j} {d : DV}, atI [.str ls, .tup (psD ps), .tup (odD od), .int pp, .int op, .bl tn] i = some d → DE g l e ρ (partsD ls ps od pp op tn) → DE g l (.Subscript e (.Constant (.int i) j p1) pos) ρ d := fun h he => de_ixT h he de_int
  refine dss_cons (ds_par 3 4 scLGoal.nd (de_call Ce (da_cons (de_v 0) (da_cons (de_v 1) da_nil)) ⟨_, xs, 11, hD, by decide, rfl, rfl⟩) (de_call Te (da_cons (Q (d := .tup (psD ps)) rfl (de_v 2)) (da_cons (Q (d := .tup (odD od)) rfl (de_v 2)) da_nil)) ⟨_, _, ps, od, v.bd.bx, .inr rfl, .inr rfl, rfl, rfl⟩) ?_)
  unfold goalOf
  simp only
  refine dss_cons (ds_if (x := decide (cellAt xs 11 % 4 = 0)) (dt_eqI (de_mod (by decide) (de_intOf B.int (de_v 3)) de_int) de_int) (fun h => ?_) fun h => dss_nil ?_)
  · rw [if_pos (of_decide_eq_true h)]
    exact dss_one (ds_ret (de_revS (by omega) (de_v 4)) rfl)
  · rw [if_neg (of_decide_eq_false h)]
    refine dss_cons (ds_if (x := decide (cellAt xs 11 % 4 = 1) && !decide (textOf ps od = ("" : Str))) (dt_w (dw_and (dt_eqI (de_mod (by decide) (de_intOf B.int (de_v 3)) de_int) de_int) fun _ => dw_and1 (dt_neS (de_v 4) de_str))) (fun h => ?_) fun h => dss_nil ?_)
    · rw [Bool.and_eq_true, Bool.not_eq_true', str_ne_nil] at h
      have h1 := of_decide_eq_true h.1
      have h2 := of_decide_eq_false h.2
      rw [if_pos ⟨h1, h2⟩]
      have hpos : 0 < (textOf ps od).length := Nat.pos_of_ne_zero h2
      have hi := mod_lt' (a := cellAt xs 11 / 4) hpos
      refine dss_cons (ds_set 5 scLGoal.nd (DE.is (d' := .int (((cellAt xs 11 / 4 % ((textOf ps od).length : Int)).toNat : Nat) : Int)) (de_mod (show (0 : Int) < (((textOf ps od).length : Nat) : Int) by omega) (de_intOf B.int (de_fd (de_v 3) de_int)) (de_lenS B.len (by omega) (de_v 4))) (by rw [← mod_nat hpos])) (dss_cons (ds_set 6 scLGoal.nd (d := .str (atS ls (cellAt xs 11 / 40 % (ls.length : Int)).toNat)) (de_ixS (z := ls) (i := (((cellAt xs 11 / 40 % (ls.length : Int)).toNat : Nat) : Int)) (by omega) (atS_get (mod_lt' hls0)) (Q (d := .str ls) rfl (de_v 2)) (DE.is (de_mod (show (0 : Int) < ((ls.length : Nat) : Int) by omega) (de_intOf B.int (de_fd (de_v 3) de_int)) (de_lenS B.len (by omega) (Q (d := .str ls) rfl (de_v 2)))) (by rw [← mod_nat hls0]))) (dss_one (ds_ret (DE.is (de_addS (i := takeS (textOf ps od) (cellAt xs 11 / 4 % ((textOf ps od).length : Int)).toNat ++ atS ls (cellAt xs 11 / 40 % (ls.length : Int)).toNat) (j := dropS (textOf ps od) ((cellAt xs 11 / 4 % ((textOf ps od).length : Int)).toNat + 1)) ?_ (de_addS ?_ (DE.is (de_slS (z := textOf ps od) (by omega) (de_v 4) dp_none (dp_some (de_v 5))) (by rw [cutS_to (by omega)])) (de_v 6)) (DE.is (de_slS (z := textOf ps od) (i := some (((cellAt xs 11 / 4 % ((textOf ps od).length : Int)).toNat + 1 : Nat) : Int)) (by omega) (de_v 4) (dp_some (DE.is (de_add (de_v 5) de_int) ?_)) dp_none) (by rw [cutS_from]))) rfl) rfl)))))
      · have t1 := takeS_len (textOf ps od) (cellAt xs 11 / 4 % ((textOf ps od).length : Int)).toNat
        have t2 := dropS_len (textOf ps od) ((cellAt xs 11 / 4 % ((textOf ps od).length : Int)).toNat + 1)
        have t3 : (atS ls (cellAt xs 11 / 40 % (ls.length : Int)).toNat).length = 1 := rfl
        rw [Str.length_append]
        omega
      · have t1 := takeS_len (textOf ps od) (cellAt xs 11 / 4 % ((textOf ps od).length : Int)).toNat
        have t3 : (atS ls (cellAt xs 11 / 40 % (ls.length : Int)).toNat).length = 1 := rfl
        omega
      · rfl
    · have hn : ¬ (cellAt xs 11 % 4 = 1 ∧ (textOf ps od).length ≠ 0) := fun ⟨h1, h2⟩ => by
        rw [decide_eq_true h1, str_ne_nil, decide_eq_false h2] at h
        cases h
      rw [if_neg hn]
      refine dss_cons (ds_if (x := decide (cellAt xs 11 % 4 = 2)) (dt_eqI (de_mod (by decide) (de_intOf B.int (de_v 3)) de_int) de_int) (fun h => ?_) fun h => dss_nil ?_)
      · rw [if_pos (of_decide_eq_true h)]
        refine dss_one (ds_ret (de_call Te (da_cons (Q (d := .tup (psD ps)) rfl (de_v 2)) (da_cons (DE.is (d' := .lst (odD (od.map fun (b : Nat) => (((b : Int) + 1) % (ps.length : Int)).toNat))) (dl_rL (own := [("_law_block", 7)]) scLGoal.nd (by decide +kernel) (rL.ev (is := [7]) (ds := odD od) (di_t (Q (d := .tup (odD od)) rfl (de_v 2))) (by rw [odD_len]; have := v.hod; omega) (by decide)
          (fun d => [.val D, .val (.int 11), .val (partsD ls ps od pp op tn), .val (.int (cellAt xs 11)), .val (.str (textOf ps od)), .un, .un, .val d]) (fun _ => true) (fun d => match d with | .int i => .int ((i + 1) % (ps.length : Int)) | _ => .non) (fun d hd => dg_n 7 scLGoal.nd) (fun d hd => dts_nil) (fun d hd _ => ?_))).de ?_) da_nil)) ⟨_, _, ps, _, ⟨v.bd.bx.hp, ?_, ?_⟩, .inr rfl, .inl rfl, rfl, rfl⟩) rfl)
        · obtain ⟨b, hb, rfl⟩ := odD_mem hd
          refine de_mod (show (0 : Int) < ((ps.length : Nat) : Int) by omega) (de_intOf B.int (de_add (de_v 7) de_int)) (DE.is (de_len B.len rfl (Q (d := .tup (psD ps)) rfl (de_v 2))) ?_)
          rw [psD_len]
        · rw [filt]
          unfold odD
          rw [List.map_map, List.map_map]
          refine congrArg DV.lst (List.map_congr_left fun b _ => ?_)
          show DV.int (((b : Int) + 1) % (ps.length : Int)) = _
          rw [mod_nat (show 0 < ps.length by omega)]
          rfl
        · rw [List.length_map]
          have := v.hod
          omega
        · intro b hb
          rw [List.mem_map] at hb
          obtain ⟨c, _, rfl⟩ := hb
          exact mod_lt' (by omega)
      · rw [if_neg (of_decide_eq_false h)]
        have h7 := pieces7 v.hls
        refine dss_one (ds_ret (de_call Te (da_cons (de_call Lp (da_cons (Q (d := .str ls) rfl (de_v 2)) da_nil) ⟨ls, v.hls, rfl, rfl⟩) (da_cons (DE.is (d' := .lst (odD [(cellAt xs 11 / 4 % 7).toNat, (cellAt xs 11 / 28 % 7).toNat])) (dl_lst (da_cons (de_mod (by decide) (de_intOf B.int (de_fd (de_v 3) de_int)) de_int) (da_cons (de_mod (by decide) (de_intOf B.int (de_fd (de_v 3) de_int)) de_int) da_nil))).de ?_) da_nil)) ⟨_, _, piecesOf ls, [(cellAt xs 11 / 4 % 7).toNat, (cellAt xs 11 / 28 % 7).toNat], ⟨fun p hp => Nat.le_trans (wordOk_len (pieces_word v.hls p hp)) (by decide), (show 2 ≤ 6 by decide), ?_⟩, .inl rfl, .inl rfl, rfl, rfl⟩) rfl)
        · show DV.lst [DV.int (cellAt xs 11 / 4 % 7), DV.int (cellAt xs 11 / 28 % 7)] = DV.lst [DV.int (((cellAt xs 11 / 4 % 7).toNat : Nat) : Int), DV.int (((cellAt xs 11 / 28 % 7).toNat : Nat) : Int)]
          rw [Int.toNat_of_nonneg (Int.emod_nonneg _ (by decide)), Int.toNat_of_nonneg (Int.emod_nonneg _ (by decide))]
        · intro b hb
          rcases List.mem_cons.mp hb with rfl | hb
          · omega
          · rcases List.mem_cons.mp hb with rfl | hb
            · omega
            · cases hb
end SP

namespace SP
open PySem PySem.Spec PyProof.Rows L2 PD
variable {g : Gb} {C : Addr}
theorem scLDrawn : FnScope ["_law_script", "_law_at", "_law_most", "_law_draw", "_law_letters", "_law_many", "_law_pieces_here", "_law_order", "_law_prices", "_law_place"] ["_law_script", "_law_at", "_law_most"] (defScope lDrawn) := ⟨rfl, rfl, rfl, by decide +kernel, rfl, by decide +kernel, by decide +kernel⟩
def R_ldrawn : List DV → DV → Prop := fun ds d => ∃ D xs, Scr D xs ∧ ds = [D, .int 0, .int 4] ∧ d = partsD (drLs xs) (drPs xs) (drOd xs) (drPp xs) (drOp xs) (drTn xs)
theorem rg_map {n : Nat} {f : DV → DV} {h : Nat → DV} (e : ∀ i, i < n → f (.int (i : Int)) = h i) : (rgD n).map f = (List.range n).map h := by
  unfold rgD
  rw [List.map_map]
  refine List.map_congr_left fun i hi => ?_
  exact e i (List.mem_range.mp hi)
theorem ok_ldrawn (B : Bt g) (Ce : Fn g 1 "_law_cell_at" R_cell) (Pk : Fn g 2 "_law_pick" R_pick) (Lp : Fn g 1 "_law_pieces" R_lpieces) {f : Addr} {fd : FuncData} (F : Fun g.K "_law_drawn" "_law_drawn" lDrawn f fd) : FnOk g.P g.w g.K g.mg g.base CX0 3 f fd ["_law_script", "_law_at", "_law_most"] (spR g.K R_ldrawn) := by
  refine fn_ok F scLDrawn (fun ds d ⟨D, xs, _, e, _⟩ => by rw [e]; rfl) fun ds d ⟨D, xs, hD, e, ed⟩ => ?_
  subst e ed
  have hls := drLs_ok xs
  have hp0 := pieces_pos hls
  have hN : drN xs ≤ 4 := by unfold drN; omega
  have hN0 : 0 < drN xs := by unfold drN; omega
  refine dss_cons (ds_asgS (d := .tup [.int (cellAt xs 0), .str (drLs xs)]) (de_tup (da_cons (de_call Ce (da_cons (de_v 0) (da_cons (de_v 1) da_nil)) ⟨_, xs, 0, hD, by decide, rfl, rfl⟩) (da_cons (de_if (x := decide (0 < cellAt xs 0 % 3)) (dt_gtI (de_mod (by decide) (de_intOf B.int (de_call Ce (da_cons (de_v 0) (da_cons (de_v 1) da_nil)) ⟨_, xs, 0, hD, by decide, rfl, rfl⟩)) de_int) de_int) (fun h => DE.is de_str ?_) (fun h => DE.is de_str ?_)) da_nil))) (dg_tup (dgs_cons (dg_n 3 scLDrawn.nd) (dgs_cons (dg_n 4 scLDrawn.nd) dgs_nil)))
    (dss_cons (ds_set 5 scLDrawn.nd (DE.is (d' := .int (drN xs : Nat)) (de_add de_int (de_mod (show (0 : Int) < 4 by decide) (de_intOf B.int (de_fd (de_v 3) de_int)) (de_v 2))) ?_) (dss_cons (ds_set 6 scLDrawn.nd (de_tupleOf (ds := psD (drPs xs)) (da := .lst (psD (drPs xs))) B.tuple rfl (DE.is (dl_rL (own := [("_law_place", 9)]) scLDrawn.nd (by decide +kernel) (rL.ev (is := [9]) (ds := rgD (drN xs)) (di_rg B.range (by omega) (de_v 5)) (by rw [rgD_len]; omega) (by decide)
      (fun d => [.val D, .val (.int 0), .val (.int 4), .val (.int (cellAt xs 0)), .val (.str (drLs xs)), .val (.int (drN xs : Nat)), .un, .un, .un, .val d]) (fun _ => true) (fun d => match d with | .int i => .str ((piecesOf (drLs xs)).getD (pickI xs (1 + i.toNat) (piecesOf (drLs xs)).length) ⟨#[]⟩) | _ => .non) (fun d hd => dg_n 9 scLDrawn.nd) (fun d hd => dts_nil) (fun d hd _ => ?_))).de ?_))
    (dss_cons (ds_set 7 scLDrawn.nd (de_tupleOf (ds := odD (drOd xs)) (da := .lst (odD (drOd xs))) B.tuple rfl (DE.is (dl_rL (own := [("_law_place", 9)]) scLDrawn.nd (by decide +kernel) (rL.ev (is := [9]) (ds := rgD (((cellAt xs 0 / 12) % 4).toNat)) (di_rg B.range (by omega) (DE.is (de_mod (by decide) (de_intOf B.int (de_fd (de_v 3) de_int)) de_int) ?_)) (by rw [rgD_len]; omega) (by decide)
      (fun d => [.val D, .val (.int 0), .val (.int 4), .val (.int (cellAt xs 0)), .val (.str (drLs xs)), .val (.int (drN xs : Nat)), .val (.tup (psD (drPs xs))), .un, .un, .val d]) (fun _ => true) (fun d => match d with | .int i => .int ((cellAt xs (6 + i.toNat) % (drN xs : Int)).toNat : Nat) | _ => .non) (fun d hd => dg_n 9 scLDrawn.nd) (fun d hd => dts_nil) (fun d hd _ => ?_))).de ?_))
    (dss_cons (ds_set 8 scLDrawn.nd (de_tup (da_cons (de_add de_int (de_fd (de_mod (by decide) (de_intOf B.int (de_fd (de_v 3) de_int)) de_int) de_int)) (da_cons (de_add de_int (de_fd (de_mod (by decide) (de_intOf B.int (de_fd (de_v 3) de_int)) de_int) de_int)) da_nil))) (dss_one (ds_ret (d := partsD (drLs xs) (drPs xs) (drOd xs) (drPp xs) (drOp xs) (drTn xs)) (de_tup (da_cons (de_v 4) (da_cons (de_v 6) (da_cons (de_v 7) (da_cons (de_ixT (d := .int (drPp xs)) rfl (de_v 8) de_int) (da_cons (de_ixT (d := .int (drOp xs)) rfl (de_v 8) de_int) (da_cons (de_eqI (de_mod (by decide) (de_intOf B.int (de_fd (de_v 3) de_int)) de_int) de_int) da_nil))))))) rfl)))))))))))
  · unfold drLs
    rw [if_pos (of_decide_eq_true h)]
  · unfold drLs
    rw [if_neg (of_decide_eq_false h)]
  · congr 1
    unfold drN
    show (1 : Int) + cellAt xs 0 / 3 % 4 = ((1 + (cellAt xs 0 / 3 % 4).toNat : Nat) : Int)
    omega
  · obtain ⟨i, hi, rfl⟩ := rgD_mem hd
    show DE _ _ _ _ (.str ((piecesOf (drLs xs)).getD (pickI xs (1 + ((i : Int)).toNat) (piecesOf (drLs xs)).length) ⟨#[]⟩))
    rw [Int.toNat_natCast]
    have hpk := pickI_lt (xs := xs) (k := 1 + i) hp0
    refine de_call Pk (da_cons (de_v 0) (da_cons (DE.is (d' := .int ((1 + i : Nat) : Int)) (de_add (de_add (de_v 1) de_int) (de_v 9)) ?_) (da_cons (de_call Lp (da_cons (de_v 4) da_nil) ⟨_, hls, rfl, rfl⟩) da_nil))) ⟨_, xs, 1 + i, _, hD, by omega, rfl, ?_⟩
    · exact congrArg DV.int (show (0 : Int) + 1 + (i : Int) = ((1 + i : Nat) : Int) by omega)
    · rw [psD_len]
      refine psD_get ?_
      rw [List.getD_eq_getElem?_getD, List.getElem?_eq_getElem hpk]
      rfl
  · rw [filt]
    congr 1
    unfold psD drPs
    rw [List.map_map]
    exact rg_map fun i _ => rfl
  · congr 1
    exact mod_nat (n := 4) (by decide)
  · obtain ⟨i, hi, rfl⟩ := rgD_mem hd
    show DE _ _ _ _ (.int ((cellAt xs (6 + ((i : Int)).toNat) % (drN xs : Int)).toNat : Nat))
    rw [Int.toNat_natCast, ← mod_nat hN0]
    refine de_mod (show (0 : Int) < ((drN xs : Nat) : Int) by omega) (de_intOf B.int (de_call Ce (da_cons (de_v 0) (da_cons (DE.is (d' := .int ((6 + i : Nat) : Int)) (de_add (de_add (de_v 1) de_int) (de_v 9)) ?_) da_nil)) ⟨_, xs, 6 + i, hD, by omega, rfl, rfl⟩)) (de_v 5)
    exact congrArg DV.int (show (0 : Int) + 6 + (i : Int) = ((6 + i : Nat) : Int) by omega)
  · rw [filt]
    congr 1
    unfold odD drOd
    rw [List.map_map]
    exact rg_map fun i _ => rfl
theorem scLBuilt : FnScope ["_law_parts"] ["_law_parts"] (defScope lBuilt) := ⟨rfl, rfl, rfl, by decide +kernel, rfl, by decide +kernel, by decide +kernel⟩
def R_lbuilt (C : Addr) : List DV → DV → Prop := fun ds d => ∃ ls ps od pp op tn, VF ls ps od pp op ∧ ds = [partsD ls ps od pp op tn] ∧ d = fileD C ls ps od pp op tn
theorem parts_at {l : Lc} {ρ : Rho} {e : Expr} {pos p1 : Pos} {i : Int} {j} {d : DV} {ls : Str} {ps : List Str} {od : List Nat} {pp op : Int} {tn : Bool} (h : atI [.str ls, .tup (psD ps), .tup (odD od), .int pp, .int op, .bl tn] i = some d) (he : DE g l e ρ (partsD ls ps od pp op tn)) : DE g l (.Subscript e (.Constant (.int i) j p1) pos) ρ d := de_ixT h he de_int
theorem ok_lbuilt (P : Fp g C) {f : Addr} {fd : FuncData} (F : Fun g.K "_law_built" "_law_built" lBuilt f fd) : FnOk g.P g.w g.K g.mg g.base CX0 6 f fd ["_law_parts"] (spR g.K (R_lbuilt C)) := by
  refine fn_ok F scLBuilt (fun ds d ⟨ls, ps, od, pp, op, tn, _, e, _⟩ => by rw [e]; rfl) fun ds d ⟨ls, ps, od, pp, op, tn, v, e, ed⟩ => ?_
  subst e ed
  exact dss_one (ds_ret (de_make P.make (da_cons (parts_at (d := .str ls) rfl (de_v 0)) (da_cons (parts_at (d := .tup (psD ps)) rfl (de_v 0)) (da_cons (parts_at (d := .tup (odD od)) rfl (de_v 0)) da_nil))) (dk_cons (parts_at (d := .int pp) rfl (de_v 0)) (dk_cons (parts_at (d := .int op) rfl (de_v 0)) (dk_cons (parts_at (d := .bl tn) rfl (de_v 0)) dk_nil))) ⟨ls, ps, od, pp, op, tn, v.v, v.pp, v.op, rfl, rfl⟩) rfl)
theorem scLOrders : FnScope ["_law_many", "_law_one", "_law_found", "_law_other", "_law_third"] ["_law_many"] (defScope lOrders) := ⟨rfl, rfl, rfl, by decide +kernel, rfl, by decide +kernel, by decide +kernel⟩
def R_lorders : List DV → DV → Prop := fun ds d => ∃ n : Nat, n ≤ 4 ∧ ds = [.int n] ∧ d = .lst ((ordersOf n).map oD)
def ordA (n i : Nat) : List (List Nat) := [[]] ++ onesO n ++ (List.range i).flatMap fun a => (List.range n).map fun b => [a, b]
def ordB (n i : Nat) : List (List Nat) := ordA n n ++ (List.range i).flatMap fun a => (List.range n).flatMap fun b => (List.range n).map fun c => [a, b, c]
def ordC (n i j : Nat) : List (List Nat) := ordB n i ++ (List.range j).flatMap fun b => (List.range n).map fun c => [i, b, c]
theorem ordA_len (n i : Nat) : (ordA n i).length = 1 + n + i * n := by
  unfold ordA onesO
  rw [List.length_append, List.length_append, List.length_map, List.length_range, List.length_flatMap]
  have : ((List.range i).map fun a => ((List.range n).map fun b => [a, b]).length) = (List.range i).map fun _ => n := List.map_congr_left fun a _ => by rw [List.length_map, List.length_range]
  rw [this, List.map_const', List.sum_replicate_nat, List.length_range]
  rfl
theorem ordB_len (n i : Nat) : (ordB n i).length = 1 + n + n * n + i * (n * n) := by
  unfold ordB
  rw [List.length_append, ordA_len, List.length_flatMap]
  have : ((List.range i).map fun a => ((List.range n).flatMap fun b => (List.range n).map fun c => [a, b, c]).length) = (List.range i).map fun _ => n * n := List.map_congr_left fun a _ => by
    rw [List.length_flatMap]
    have : ((List.range n).map fun b => ((List.range n).map fun c => [a, b, c]).length) = (List.range n).map fun _ => n := List.map_congr_left fun b _ => by rw [List.length_map, List.length_range]
    rw [this, List.map_const', List.sum_replicate_nat, List.length_range]
  rw [this, List.map_const', List.sum_replicate_nat, List.length_range]
theorem ordC_len (n i j : Nat) : (ordC n i j).length = 1 + n + n * n + i * (n * n) + j * n := by
  unfold ordC
  rw [List.length_append, ordB_len, List.length_flatMap]
  have : ((List.range j).map fun b => ((List.range n).map fun c => [i, b, c]).length) = (List.range j).map fun _ => n := List.map_congr_left fun b _ => by rw [List.length_map, List.length_range]
  rw [this, List.map_const', List.sum_replicate_nat, List.length_range]
theorem ord_all : ∀ n ≤ 4, ordB n n = ordersOf n := by decide +kernel
theorem oD1 (a : Nat) : oD [a] = .tup [.int (a : Int)] := rfl
theorem ok_lorders (B : Bt g) {f : Addr} {fd : FuncData} (F : Fun g.K "_law_orders" "_law_orders" lOrders f fd) : FnOk g.P g.w g.K g.mg g.base CX0 1 f fd ["_law_many"] (spR g.K R_lorders) := by
  refine fn_ok F scLOrders (fun ds d ⟨n, _, e, _⟩ => by rw [e]; rfl) fun ds d ⟨n, hn, e, ed⟩ => ?_
  subst e ed
  have bnd : ∀ i ≤ 4, i * n ≤ 16 := fun i hi => Nat.mul_le_mul hi hn
  have hn2 : n * n ≤ 16 := bnd n hn
  have bnd2 : ∀ i ≤ 4, i * (n * n) ≤ 64 := fun i hi => Nat.mul_le_mul hi hn2
  refine dss_cons (ds_set 2 scLOrders.nd (DE.is (d' := .lst ((ordA n 0).map oD)) (de_catL (i := [oD []]) (j := (onesO n).map oD) ?_ (dl_lst (da_cons (de_tup da_nil) da_nil)).de (DE.is (dl_rL (own := [("_law_one", 1)]) scLOrders.nd (by decide +kernel) (rL.ev (is := [1]) (ds := rgD n) (di_rg B.range (by omega) (de_v 0)) (by rw [rgD_len]; omega) (by decide)
    (fun d => [.val (.int n), .val d, .un, .un, .un]) (fun _ => true) (fun d => .tup [d]) (fun d hd => dg_n 1 scLOrders.nd) (fun d hd => dts_nil) (fun d hd _ => de_tup (da_cons (de_v 1) da_nil)))).de ?_)) ?_) (dss_cons (ds_for (is := [1]) (ds := rgD n) (di_rg B.range (by omega) (de_v 0))
    (fun i ρ => ∃ x1 : EV, ρ = [.val (.int n), x1, .val (.lst ((ordA n i).map oD)), .un, .un]) ⟨.un, rfl⟩ ?_ ?_)))
  · unfold onesO
    rw [List.length_map, List.length_map, List.length_range]
    show 1 + n ≤ 100000
    omega
  · rw [filt]
    unfold onesO
    rw [List.map_map]
    exact congrArg DV.lst (rg_map fun i _ => rfl)
  · unfold ordA
    rw [List.range_zero, List.flatMap_nil, List.append_nil, List.map_append]
    rfl
  · rintro i d ρ hd ⟨x1, rfl⟩
    obtain ⟨hi, rfl⟩ := rgD_at hd
    refine ⟨_, dg_n 1 scLOrders.nd, dss_one (ds_set 2 scLOrders.nd (DE.is (d' := .lst ((ordA n (i + 1)).map oD)) (de_catL (i := (ordA n i).map oD) (j := ((List.range n).map fun b => [i, b]).map oD) ?_ (de_v 2) (DE.is (dl_rL (own := [("_law_other", 3)]) scLOrders.nd (by decide +kernel) (rL.ev (is := [3]) (ds := rgD n) (di_rg B.range (by omega) (de_v 0)) (by rw [rgD_len]; omega) (by decide)
      (fun d => [.val (.int n), .val (.int i), .val (.lst ((ordA n i).map oD)), .val d, .un]) (fun _ => true) (fun d => .tup [.int i, d]) (fun d hd => dg_n 3 scLOrders.nd) (fun d hd => dts_nil) (fun d hd _ => de_tup (da_cons (de_v 1) (da_cons (de_v 3) da_nil))))).de ?_)) ?_) ⟨.val (.int i), rfl⟩)⟩
    · rw [List.length_map, List.length_map, List.length_map, List.length_range, ordA_len]
      have := bnd i (by omega)
      omega
    · rw [filt, List.map_map]
      exact congrArg DV.lst (rg_map fun i _ => rfl)
    · rw [← List.map_append]
      unfold ordA
      rw [List.range_succ, List.flatMap_append, List.flatMap_singleton, ← List.append_assoc]
  · rintro ρ ⟨x1, rfl⟩
    rw [rgD_len]
    refine dss_cons (ds_for (is := [1]) (ds := rgD n) (di_rg B.range (by omega) (de_v 0)) (fun i ρ => ∃ x1 x3 : EV, ρ = [.val (.int n), x1, .val (.lst ((ordB n i).map oD)), x3, .un]) ⟨x1, .un, ?_⟩ ?_ ?_)
    · unfold ordB
      rw [List.range_zero, List.flatMap_nil, List.append_nil]
    · rintro i d ρ hd ⟨x1, x3, rfl⟩
      obtain ⟨hi, rfl⟩ := rgD_at hd
      refine ⟨_, dg_n 1 scLOrders.nd, dss_one (ds_for (is := [3]) (ds := rgD n) (di_rg B.range (by omega) (de_v 0)) (fun j ρ => ∃ x3 : EV, ρ = [.val (.int n), .val (.int i), .val (.lst ((ordC n i j).map oD)), x3, .un]) ⟨x3, ?_⟩ ?_ ?_)⟩
      · unfold ordC
        rw [List.range_zero, List.flatMap_nil, List.append_nil]
        rfl
      · rintro j d ρ hd ⟨x3, rfl⟩
        obtain ⟨hj, rfl⟩ := rgD_at hd
        refine ⟨_, dg_n 3 scLOrders.nd, dss_one (ds_set 2 scLOrders.nd (DE.is (d' := .lst ((ordC n i (j + 1)).map oD)) (de_catL (i := (ordC n i j).map oD) (j := ((List.range n).map fun c => [i, j, c]).map oD) ?_ (de_v 2) (DE.is (dl_rL (own := [("_law_third", 4)]) scLOrders.nd (by decide +kernel) (rL.ev (is := [4]) (ds := rgD n) (di_rg B.range (by omega) (de_v 0)) (by rw [rgD_len]; omega) (by decide)
          (fun d => [.val (.int n), .val (.int i), .val (.lst ((ordC n i j).map oD)), .val (.int j), .val d]) (fun _ => true) (fun d => .tup [.int i, .int j, d]) (fun d hd => dg_n 4 scLOrders.nd) (fun d hd => dts_nil) (fun d hd _ => de_tup (da_cons (de_v 1) (da_cons (de_v 3) (da_cons (de_v 4) da_nil)))))).de ?_)) ?_) ⟨.val (.int j), rfl⟩)⟩
        · rw [List.length_map, List.length_map, List.length_map, List.length_range, ordC_len]
          have := bnd j (by omega)
          have := bnd2 i (by omega)
          omega
        · rw [filt, List.map_map]
          exact congrArg DV.lst (rg_map fun i _ => rfl)
        · rw [← List.map_append]
          unfold ordC
          rw [List.range_succ, List.flatMap_append, List.flatMap_singleton, ← List.append_assoc]
      · rintro ρ ⟨x3, rfl⟩
        rw [rgD_len]
        refine ⟨.val (.int i), x3, ?_⟩
        unfold ordC ordB
        rw [List.range_succ (n := i), List.flatMap_append, List.flatMap_singleton, ← List.append_assoc]
    · rintro ρ ⟨x1, x3, rfl⟩
      rw [rgD_len, ord_all n hn]
      exact dss_one (ds_ret (de_v 2) rfl)
end SP

namespace SP
open PySem PySem.Spec PyProof.Rows L2 PD
variable {g : Gb} {C : Addr}
theorem scLWrites : FnScope ["_law_parts", "_law_pieces_here", "_law_order", "_law_found", "_law_block", "_law_piece", "_law_row"] ["_law_parts", "_law_pieces_here", "_law_order"] (defScope lWrites) := ⟨rfl, rfl, rfl, by decide +kernel, rfl, by decide +kernel, by decide +kernel⟩
def R_lwrites : List DV → DV → Prop := fun ds d => ∃ ls ps od ps0 od0 pp op tn, VS ls ps od ∧ ds = [partsD ls ps0 od0 pp op tn, .tup (psD ps), .tup (odD od)] ∧ d = wrsD (writesOf ls ps od)
def pieceW (ls : Str) (p : Str × Nat) : List Wr := ((piecesOf ls).filter fun n => !decide (n = p.1)).map fun n => Wr.piece p.2 n
def preW (ls : Str) (ps : List Str) (i : Nat) : List Wr := (ps.zipIdx.take i).flatMap (pieceW ls)
theorem pieceW_len {ls : Str} (h : letterSet ls) (p : Str × Nat) : (pieceW ls p).length ≤ 13 := by
  unfold pieceW
  rw [List.length_map]
  exact Nat.le_trans (List.length_filter_le _ _) (piecesOf_len h)
theorem preW_len {ls : Str} {ps : List Str} (h : letterSet ls) (hps : ps.length ≤ 4) (i : Nat) : (preW ls ps i).length ≤ 52 := by
  unfold preW
  rw [List.length_flatMap]
  refine Nat.le_trans (sum_le (m := 13) fun x hx => ?_) ?_
  · rw [List.mem_map] at hx
    obtain ⟨p, _, rfl⟩ := hx
    exact pieceW_len h p
  · rw [List.length_map, List.length_take, List.length_zipIdx]
    omega
theorem zip_at {ps : List Str} {i : Nat} (h : i < ps.length) : ps.zipIdx[i]? = some (oldP ps i, i) := by
  rw [List.getElem?_zipIdx, get_piece h]
  simp
theorem ok_lwrites (B : Bt g) (Lp : Fn g 1 "_law_pieces" R_lpieces) (Lo : Fn g 1 "_law_orders" R_lorders) {f : Addr} {fd : FuncData} (F : Fun g.K "_law_writes" "_law_writes" lWrites f fd) : FnOk g.P g.w g.K g.mg g.base CX0 2 f fd ["_law_parts", "_law_pieces_here", "_law_order"] (spR g.K R_lwrites) := by
  refine fn_ok F scLWrites (fun ds d ⟨ls, ps, od, ps0, od0, pp, op, tn, _, e, _⟩ => by rw [e]; rfl) fun ds d ⟨ls, ps, od, ps0, od0, pp, op, tn, v, e, ed⟩ => ?_
  subst e ed
  have hps := v.hps
  refine dss_cons (ds_set 3 scLWrites.nd (dl_lst da_nil).de (dss_cons (ds_for (is := [4]) (ds := rgD ps.length) (di_rg B.range (by omega) (DE.is (de_len B.len rfl (de_v 1)) (by rw [psD_len])))
    (fun i ρ => ∃ x4 : EV, ρ = [.val (partsD ls ps0 od0 pp op tn), .val (.tup (psD ps)), .val (.tup (odD od)), .val (.lst ((preW ls ps i).map Wr.d)), x4, .un, .un]) ⟨.un, rfl⟩ ?_ ?_)))
  · rintro i d ρ hd ⟨x4, rfl⟩
    obtain ⟨hi, rfl⟩ := rgD_at hd
    have h1 := preW_len v.hls hps i
    have h2 := pieceW_len v.hls (oldP ps i, i)
    refine ⟨_, dg_n 4 scLWrites.nd, dss_one (ds_set 3 scLWrites.nd (DE.is (d' := .lst ((preW ls ps (i + 1)).map Wr.d)) (de_catL (i := (preW ls ps i).map Wr.d) (j := (pieceW ls (oldP ps i, i)).map Wr.d) (by rw [List.length_map, List.length_map]; omega) (de_v 3) (DE.is (dl_rL (own := [("_law_piece", 5)]) scLWrites.nd (by decide +kernel) (rL.ev (is := [5]) (ds := psD (piecesOf ls)) (di_l (de_call Lp (da_cons (parts_at (d := .str ls) rfl (de_v 0)) da_nil) ⟨ls, v.hls, rfl, rfl⟩)) (by rw [psD_len]; have := piecesOf_len v.hls; omega) (by decide)
      (fun d => [.val (partsD ls ps0 od0 pp op tn), .val (.tup (psD ps)), .val (.tup (odD od)), .val (.lst ((preW ls ps i).map Wr.d)), .val (.int i), .val d, .un]) (fun d => match d with | .str n => !decide (n = oldP ps i) | _ => false) (fun d => .tup [.str "piece", .int i, d]) (fun d hd => dg_n 5 scLWrites.nd) (fun d hd => ?_) (fun d hd _ => ?_))).de ?_)) ?_) ⟨.val (.int i), rfl⟩)⟩
    · obtain ⟨z, hz, rfl⟩ := psD_mem hd
      exact dts_one (dt_neS (de_v 5) (de_ixT (atI_nat (psD_get (get_piece hi))) (de_v 1) (de_v 4)))
    · obtain ⟨z, hz, rfl⟩ := psD_mem hd
      exact de_tup (da_cons de_str (da_cons (de_v 4) (da_cons (de_v 5) da_nil)))
    · congr 1
      unfold psD pieceW
      rw [List.filter_map, List.map_map, List.map_map]
      rfl
    · rw [← List.map_append]
      unfold preW
      rw [take_more (zip_at hi), List.flatMap_append, List.flatMap_singleton]
  · rintro ρ ⟨x4, rfl⟩
    rw [rgD_len]
    have e1 : preW ls ps ps.length = ps.zipIdx.flatMap (pieceW ls) := by
      unfold preW
      rw [List.take_of_length_le (by rw [List.length_zipIdx]; exact Nat.le_refl _)]
    have h1 := preW_len v.hls hps ps.length
    have h2 := Nat.le_trans (List.length_filter_le (fun o => !decide (o = od)) (ordersOf ps.length)) (ordersOf_len hps)
    refine dss_one (ds_ret (DE.is (d' := wrsD (writesOf ls ps od)) (de_catL (i := (preW ls ps ps.length).map Wr.d) (j := (((ordersOf ps.length).filter fun o => !decide (o = od)).map Wr.order).map Wr.d) (by rw [List.length_map, List.length_map, List.length_map]; omega) (de_v 3) (DE.is (dl_rL (own := [("_law_row", 6)]) scLWrites.nd (by decide +kernel) (rL.ev (is := [6]) (ds := (ordersOf ps.length).map oD) (di_l (de_call Lo (da_cons (de_len B.len rfl (de_v 1)) da_nil) ⟨ps.length, hps, by rw [psD_len], rfl⟩)) ?_ (by decide)
      (fun d => [.val (partsD ls ps0 od0 pp op tn), .val (.tup (psD ps)), .val (.tup (odD od)), .val (.lst ((preW ls ps ps.length).map Wr.d)), x4, .un, .val d]) (orderNew od) orderWr (fun d hd => dg_n 6 scLWrites.nd) ?_ ?_)).de (congrArg DV.lst (writes_orders ps.length od)))) ?_) rfl)
    · rw [List.length_map]
      exact Nat.le_trans (ordersOf_len hps) (by decide)
    · intro d hd
      rw [List.mem_map] at hd
      obtain ⟨o, ho, rfl⟩ := hd
      exact dts_one (dt_neD (ok_odD _) (ok_odD _) (de_v 6) (de_v 2))
    · intro d hd _
      exact de_tup (da_cons de_str (da_cons (de_v 6) da_nil))
    · rw [e1, ← List.map_append]
      rfl
/-- P[:i] + (c,) + P[i + 1:] -/
theorem de_putP {l : Lc} {ρ : Rho} {P P2 I I2 c : Expr} {q1 q2 q3 q4 q5 q6 q7 q8 q9 : Pos} {k1 k2 : Nat} {ps : List Str} {b : Nat} {z : Str} (hb : b < ps.length) (hps : ps.length ≤ 4) (hP : DE g l P ρ (.tup (psD ps))) (hI : DE g l I ρ (.int b)) (hc : DE g l c ρ (.str z)) (hP2 : DE g l P2 ρ (.tup (psD ps))) (hI2 : DE g l I2 ρ (.int b))
    (hs : ∀ env, starEach [c] env = (false, eval c env) :: starEach [] env := by intro _; rfl) :
    DE g l (.BinOp (.BinOp (.Subscript P (.Slice none (some I) none q1) q2) .Add (.Tuple [c] k1 q3) q4) .Add (.Subscript P2 (.Slice (some (.BinOp I2 .Add (.Constant (.int 1) k2 q5) q6)) none none q7) q8) q9) ρ (.tup (psD (ps.set b z))) := by
  refine DE.is (de_catT ?_ (de_catT ?_ (de_slT hP dp_none (dp_some hI)) (de_tup (da_cons hc da_nil hs))) (de_slT (j := none) (i := some ((b + 1 : Nat) : Int)) hP2 (dp_some (DE.is (de_add hI2 de_int) ?_)) dp_none)) ?_
  · rw [cutG_to (by rw [psD_len]; omega), cutG_from, List.length_append, List.length_take, List.length_drop, psD_len]
    show min b ps.length + 1 + (ps.length - (b + 1)) ≤ 100000
    omega
  · rw [cutG_to (by rw [psD_len]; omega), List.length_take, psD_len]
    show min b ps.length + 1 ≤ 100000
    omega
  · exact congrArg DV.int (show (b : Int) + 1 = ((b + 1 : Nat) : Int) by omega)
  · rw [cutG_to (by rw [psD_len]; omega), cutG_from, set_cut (by rw [psD_len]; exact hb)]
    unfold psD
    rw [List.map_set]
def Wr.isO : Wr → Bool
  | .order _ => true | _ => false
section
variable {l : Lc} {ρ : Rho} {e : Expr} {pos p1 p2 p3 : Pos} {k : Nat} {j : Nat} {w : Wr}
theorem dt_isOrd (h : DE g l e ρ w.d) : DT g l (.Compare (.Subscript e (.Constant (.int 0) j p1) p2) [.Eq] [.Constant (.str "order") k p3] pos) ρ w.isO := by
  cases w with
  | piece b p => exact DT.is (dt_eqS (de_ixT (xs := [.str "piece", .int b, .str p]) (i := 0) (d := .str "piece") rfl h de_int) de_str) (show decide (("piece" : Str) = "order") = false by decide +kernel)
  | order o => exact DT.is (dt_eqS (de_ixT (xs := [.str "order", .tup (odD o)]) (i := 0) (d := .str "order") rfl h de_int) de_str) (show decide (("order" : Str) = "order") = true by decide +kernel)
theorem dt_isPc (h : DE g l e ρ w.d) : DT g l (.Compare (.Subscript e (.Constant (.int 0) j p1) p2) [.Eq] [.Constant (.str "piece") k p3] pos) ρ (!w.isO) := by
  cases w with
  | piece b p => exact DT.is (dt_eqS (de_ixT (xs := [.str "piece", .int b, .str p]) (i := 0) (d := .str "piece") rfl h de_int) de_str) (show decide (("piece" : Str) = "piece") = true by decide +kernel)
  | order o => exact DT.is (dt_eqS (de_ixT (xs := [.str "order", .tup (odD o)]) (i := 0) (d := .str "order") rfl h de_int) de_str) (show decide (("order" : Str) = "piece") = false by decide +kernel)
theorem de_wB {b : Nat} {p : Str} (h : DE g l e ρ (Wr.d (.piece b p))) : DE g l (.Subscript e (.Constant (.int 1) j p1) pos) ρ (.int b) := de_ixT (xs := [.str "piece", .int b, .str p]) (i := 1) (d := .int b) rfl h de_int
theorem de_wP {b : Nat} {p : Str} (h : DE g l e ρ (Wr.d (.piece b p))) : DE g l (.Subscript e (.Constant (.int 2) j p1) pos) ρ (.str p) := de_ixT (xs := [.str "piece", .int b, .str p]) (i := 2) (d := .str p) rfl h de_int
theorem de_wO {o : List Nat} (h : DE g l e ρ (Wr.d (.order o))) : DE g l (.Subscript e (.Constant (.int 1) j p1) pos) ρ (.tup (odD o)) := de_ixT (xs := [.str "order", .tup (odD o)]) (i := 1) (d := .tup (odD o)) rfl h de_int
end
theorem scLDone : FnScope ["_law_pieces_here", "_law_order", "_law_write"] ["_law_pieces_here", "_law_order", "_law_write"] (defScope lDone) := ⟨rfl, rfl, rfl, by decide +kernel, rfl, by decide +kernel, by decide +kernel⟩
def R_ldone : List DV → DV → Prop := fun ds d => ∃ ps od w, okW ps.length w ∧ ps.length ≤ 4 ∧ ds = [.tup (psD ps), .tup (odD od), Wr.d w] ∧ d = stD (afterP ps w) (afterO od w)
theorem ok_ldone {f : Addr} {fd : FuncData} (F : Fun g.K "_law_done" "_law_done" lDone f fd) : FnOk g.P g.w g.K g.mg g.base CX0 1 f fd ["_law_pieces_here", "_law_order", "_law_write"] (spR g.K R_ldone) := by
  refine fn_ok F scLDone (fun ds d ⟨ps, od, w, _, _, e, _⟩ => by rw [e]; rfl) fun ds d ⟨ps, od, w, h, hps, e, ed⟩ => ?_
  subst e ed
  cases w with
  | piece b p => exact dss_cons (ds_if (dt_isOrd (w := .piece b p) (de_v 2)) (fun h => by cases h) fun _ => dss_nil (dss_one (ds_ret (de_tup (da_cons (de_putP h hps (de_v 0) (de_wB (de_v 2)) (de_wP (de_v 2)) (de_v 0) (de_wB (de_v 2))) (da_cons (de_v 1) da_nil))) rfl)))
  | order o => exact dss_cons (ds_if (dt_isOrd (w := .order o) (de_v 2)) (fun _ => dss_one (ds_ret (de_tup (da_cons (de_v 0) (da_cons (de_wO (de_v 2)) da_nil))) rfl)) fun h => by cases h)
theorem scLPrice : FnScope ["_law_parts", "_law_write"] ["_law_parts", "_law_write"] (defScope lPrice) := ⟨rfl, rfl, rfl, by decide +kernel, rfl, by decide +kernel, by decide +kernel⟩
def R_lprice : List DV → DV → Prop := fun ds d => ∃ ls ps od pp op tn w, ds = [partsD ls ps od pp op tn, Wr.d w] ∧ d = .int (priceOf pp op w)
theorem ok_lprice {f : Addr} {fd : FuncData} (F : Fun g.K "_law_price" "_law_price" lPrice f fd) : FnOk g.P g.w g.K g.mg g.base CX0 1 f fd ["_law_parts", "_law_write"] (spR g.K R_lprice) := by
  refine fn_ok F scLPrice (fun ds d ⟨ls, ps, od, pp, op, tn, w, e, _⟩ => by rw [e]; rfl) fun ds d ⟨ls, ps, od, pp, op, tn, w, e, ed⟩ => ?_
  subst e ed
  cases w with
  | piece b p => exact dss_one (ds_ret (de_if (d := .int pp) (dt_isPc (w := .piece b p) (de_v 1)) (fun _ => parts_at (d := .int pp) rfl (de_v 0)) fun h => by cases h) rfl)
  | order o => exact dss_one (ds_ret (de_if (d := .int op) (dt_isPc (w := .order o) (de_v 1)) (fun h => by cases h) fun _ => parts_at (d := .int op) rfl (de_v 0)) rfl)
end SP

namespace SP
open PySem PySem.Spec PyProof.Rows L2 PD
variable {g : Gb} {C : Addr}
theorem scLReadings : FnScope ["_law_parts", "_law_pieces_here", "_law_order", "_law_write", "_law_old", "_law_new", "_law_rows", "_law_found", "_law_row", "_law_length"] ["_law_parts", "_law_pieces_here", "_law_order", "_law_write"] (defScope lReadings) := ⟨rfl, rfl, rfl, by decide +kernel, rfl, by decide +kernel, by decide +kernel⟩
def R_lreadings : List DV → DV → Prop := fun ds d => ∃ ls ps od ps0 od0 pp op tn w, VS ls ps od ∧ VW ls ps.length w ∧ ds = [partsD ls ps0 od0 pp op tn, .tup (psD ps), .tup (odD od), Wr.d w] ∧ d = .lst ((readingsOf ps od w tn).map DV.str)
/-- the contents on the way -/
def rowsP (p q : Str) (tn : Bool) : List Str := (if tn = true then (List.range p.length).map fun n => mixS p q n else [q]) ++ [p]
def rowsO (p q : List Nat) (tn : Bool) : List (List Nat) := (if tn = true then (List.range p.length).map fun n => mixO p q n else [q]) ++ [p]
theorem set_old {ps : List Str} {b : Nat} (h : b < ps.length) : ps.set b (oldP ps b) = ps := by
  have e := get_piece h
  obtain ⟨h1, h2⟩ := List.getElem?_eq_some_iff.mp e
  rw [← h2]
  exact List.set_getElem_self h1
theorem readP {ps : List Str} {od : List Nat} {b : Nat} {p : Str} {tn : Bool} (h : b < ps.length) : (rowsP p (oldP ps b) tn).map (fun r => textOf (ps.set b r) od) = readingsOf ps od (.piece b p) tn := by
  unfold rowsP readingsOf
  rw [List.map_append]
  cases tn
  · rw [if_neg (by decide), if_neg (by decide)]
    show [textOf (ps.set b (oldP ps b)) od] ++ _ = _
    rw [set_old h]
    rfl
  · rw [if_pos rfl, if_pos rfl]
    unfold tornOf
    rw [List.map_map, List.map_map]
    rfl
theorem readO {ps : List Str} {od o : List Nat} {tn : Bool} : (rowsO o od tn).map (fun r => textOf ps r) = readingsOf ps od (.order o) tn := by
  unfold rowsO readingsOf
  rw [List.map_append]
  cases tn
  · rfl
  · rw [if_pos rfl, if_pos rfl]
    unfold tornOf
    rw [List.map_map, List.map_map]
    rfl
theorem rowsP_len {p q : Str} {tn : Bool} (hp : p.length ≤ 2) : (rowsP p q tn).length ≤ 3 := by
  unfold rowsP
  cases tn
  · exact (by decide : 2 ≤ 3)
  · rw [if_pos rfl, List.length_append, List.length_map, List.length_range]
    show _ + 1 ≤ 3
    omega
theorem rowsO_len {p q : List Nat} {tn : Bool} (hp : p.length ≤ 3) : (rowsO p q tn).length ≤ 4 := by
  unfold rowsO
  cases tn
  · exact (by decide : 2 ≤ 4)
  · rw [if_pos rfl, List.length_append, List.length_map, List.length_range]
    show _ + 1 ≤ 4
    omega
theorem rowsP_mem {p q r : Str} {tn : Bool} (hp : p.length ≤ 2) (hq : q.length ≤ 2) (h : r ∈ rowsP p q tn) : r.length ≤ 4 := by
  unfold rowsP at h
  rcases List.mem_append.mp h with h | h
  · cases tn
    · rw [if_neg (by decide)] at h
      rw [List.mem_singleton.mp h]
      omega
    · rw [if_pos rfl, List.mem_map] at h
      obtain ⟨n, hn, rfl⟩ := h
      rw [List.mem_range] at hn
      have := mixS_len (p := p) (q := q) (n := n)
      omega
  · rw [List.mem_singleton.mp h]
    omega
theorem rowsO_mem {p q r : List Nat} {m : Nat} {tn : Bool} (hp : p.length ≤ 3) (hq : q.length ≤ 3) (hpm : ∀ b ∈ p, b < m) (hqm : ∀ b ∈ q, b < m) (h : r ∈ rowsO p q tn) : r.length ≤ 6 ∧ ∀ b ∈ r, b < m := by
  unfold rowsO at h
  rcases List.mem_append.mp h with h | h
  · cases tn
    · rw [if_neg (by decide)] at h
      rw [List.mem_singleton.mp h]
      exact ⟨by omega, hqm⟩
    · rw [if_pos rfl, List.mem_map] at h
      obtain ⟨n, hn, rfl⟩ := h
      rw [List.mem_range] at hn
      have := mixO_len (p := p) (q := q) (n := n)
      exact ⟨by omega, mixO_mem hpm hqm⟩
  · rw [List.mem_singleton.mp h]
    exact ⟨by omega, hpm⟩
theorem oDs_at {l : List (List Nat)} {i : Nat} {d : DV} (h : (l.map oD)[i]? = some d) : ∃ o, l[i]? = some o ∧ d = oD o := by
  rw [List.getElem?_map] at h
  cases q : l[i]? with
  | none => rw [q] at h; cases h
  | some z =>
    rw [q] at h
    cases h
    exact ⟨z, rfl, rfl⟩
theorem ok_lreadings (B : Bt g) (Te : Fn g 1 "_law_text" R_ltext) {f : Addr} {fd : FuncData} (F : Fun g.K "_law_readings" "_law_readings" lReadings f fd) : FnOk g.P g.w g.K g.mg g.base CX0 2 f fd ["_law_parts", "_law_pieces_here", "_law_order", "_law_write"] (spR g.K R_lreadings) := by
  refine fn_ok F scLReadings (fun ds d ⟨ls, ps, od, ps0, od0, pp, op, tn, w, _, _, e, _⟩ => by rw [e]; rfl) fun ds d ⟨ls, ps, od, ps0, od0, pp, op, tn, w, v, h, e, ed⟩ => ?_
  subst e ed
  have hps := v.hps
  have hod := v.hod
  cases w with
  | piece b p =>
    have hb := h.1
    have hp := wordOk_len h.2
    have hq := wordOk_len (v.hp _ (oldP_mem hb))
    have hl := rowsP_len (p := p) (q := oldP ps b) (tn := tn) hp
    refine dss_cons (ds_set 4 scLReadings.nd (de_if (d := .str (oldP ps b)) (dt_isOrd (w := .piece b p) (de_v 3)) (fun h => by cases h) fun _ => de_ixT (atI_nat (psD_get (get_piece hb))) (de_v 1) (de_wB (de_v 3))) (dss_cons (ds_set 5 scLReadings.nd (de_ixT (xs := [.str "piece", .int b, .str p]) (i := -1) (d := .str p) rfl (de_v 3) (de_neg de_int))
      (dss_cons (ds_set 6 scLReadings.nd (d := .lst (psD (if tn = true then (List.range p.length).map fun n => mixS p (oldP ps b) n else [oldP ps b]))) (de_if (x := tn) (dt_e (parts_at (d := .bl tn) rfl (de_v 0))) (fun ht => DE.is (dl_rL (own := [("_law_length", 9)]) scLReadings.nd (by decide +kernel) (rL.ev (is := [9]) (ds := rgD p.length) (di_rg B.range (by omega) (de_lenS B.len (by omega) (de_v 5))) (by rw [rgD_len]; omega) (by decide)
        (fun d => [.val (partsD ls ps0 od0 pp op tn), .val (.tup (psD ps)), .val (.tup (odD od)), .val (Wr.d (.piece b p)), .val (.str (oldP ps b)), .val (.str p), .un, .un, .un, .val d]) (fun _ => true) (fun d => match d with | .int i => .str (mixS p (oldP ps b) i.toNat) | _ => .non) (fun d hd => dg_n 9 scLReadings.nd) (fun d hd => dts_nil) (fun d hd _ => ?_))).de ?_) (fun ht => DE.is (dl_lst (da_cons (de_v 4) da_nil)).de ?_))
      (dss_cons (ds_setL 7 scLReadings.nd (dl_lst da_nil) (dss_cons (ds_for (is := [8]) (ds := psD (rowsP p (oldP ps b) tn)) (di_l (DE.is (de_catL (j := [.str p]) ?_ (de_v 6) (dl_lst (da_cons (de_v 5) da_nil)).de) ?_))
        (fun i ρ => ∃ x6 x8 : EV, ρ = [.val (partsD ls ps0 od0 pp op tn), .val (.tup (psD ps)), .val (.tup (odD od)), .val (Wr.d (.piece b p)), .val (.str (oldP ps b)), .val (.str p), x6, .own (((rowsP p (oldP ps b) tn).take i).map fun r => DV.str (textOf (ps.set b r) od)), x8, .un]) ⟨_, .un, rfl⟩ ?_ ?_)))))))))
    · obtain ⟨n, hn, rfl⟩ := rgD_mem hd
      have e1 := cutS_to (x := p) (k := n) (by omega)
      have e2 := cutS_from (x := oldP ps b) (k := n)
      have l1 := takeS_len p n
      have l2 := dropS_len (oldP ps b) n
      exact de_addS (i := takeS p n) (j := dropS (oldP ps b) n) (by omega) (DE.is (de_slS (z := p) (by omega) (de_v 5) dp_none (dp_some (de_v 9))) (by rw [e1])) (DE.is (de_slS (z := oldP ps b) (by omega) (de_v 4) (dp_some (de_v 9)) dp_none) (by rw [e2]))
    · rw [filt, if_pos ht]
      congr 1
      unfold psD
      rw [List.map_map]
      exact rg_map fun i _ => rfl
    · rw [if_neg (by rw [ht]; decide)]
      rfl
    · have : (if tn = true then (List.range p.length).map fun n => mixS p (oldP ps b) n else [oldP ps b]).length ≤ 3 := by
        unfold rowsP at hl
        rw [List.length_append] at hl
        omega
      rw [psD_len]
      show _ + 1 ≤ 100000
      omega
    · unfold rowsP psD
      rw [List.map_append]
      rfl
    · rintro i d ρ hd ⟨x6, x8, rfl⟩
      obtain ⟨r, hr, rfl⟩ := psD_at hd
      have hrl := rowsP_mem hp hq (List.mem_of_getElem? hr)
      refine ⟨_, dg_n 8 scLReadings.nd, dss_one (ds_if (dt_isOrd (w := .piece b p) (de_v 3)) (fun h => by cases h) fun _ => dss_one (ds_append 7 rfl (de_call Te (da_cons (de_putP hb hps (de_v 1) (de_wB (de_v 3)) (de_v 8) (de_v 1) (de_wB (de_v 3))) (da_cons (de_v 2) da_nil)) ⟨_, _, ps.set b r, od, ⟨fun q hq => ?_, by omega, fun c hc => ?_⟩, .inr rfl, .inr rfl, rfl, rfl⟩) ?_ ⟨x6, .val (.str r), ?_⟩))⟩
      · rcases List.mem_or_eq_of_mem_set hq with hq | rfl
        · exact Nat.le_trans (wordOk_len (v.hp q hq)) (by decide)
        · exact hrl
      · rw [List.length_set]
        exact v.hb c hc
      · rw [List.length_map, List.length_take]
        omega
      · rw [take_more hr, List.map_append]
        rfl
    · rintro ρ ⟨x6, x8, rfl⟩
      rw [psD_len, List.take_length]
      refine dss_freeze 7 rfl (dss_one (ds_ret (de_v 7) ?_))
      show DV.lst _ = DV.lst _
      rw [← readP hb, List.map_map]
      rfl
  | order o =>
    have h1 := h.1
    have h2 := h.2
    have hl := rowsO_len (p := o) (q := od) (tn := tn) h1
    refine dss_cons (ds_set 4 scLReadings.nd (de_if (d := .tup (odD od)) (dt_isOrd (w := .order o) (de_v 3)) (fun _ => de_v 2) fun h => by cases h) (dss_cons (ds_set 5 scLReadings.nd (de_ixT (xs := [.str "order", .tup (odD o)]) (i := -1) (d := .tup (odD o)) rfl (de_v 3) (de_neg de_int))
      (dss_cons (ds_set 6 scLReadings.nd (d := .lst ((if tn = true then (List.range o.length).map fun n => mixO o od n else [od]).map oD)) (de_if (x := tn) (dt_e (parts_at (d := .bl tn) rfl (de_v 0))) (fun ht => DE.is (dl_rL (own := [("_law_length", 9)]) scLReadings.nd (by decide +kernel) (rL.ev (is := [9]) (ds := rgD o.length) (di_rg B.range (by omega) (DE.is (de_len B.len rfl (de_v 5)) (by rw [odD_len]))) (by rw [rgD_len]; omega) (by decide)
        (fun d => [.val (partsD ls ps0 od0 pp op tn), .val (.tup (psD ps)), .val (.tup (odD od)), .val (Wr.d (.order o)), .val (.tup (odD od)), .val (.tup (odD o)), .un, .un, .un, .val d]) (fun _ => true) (fun d => match d with | .int i => oD (mixO o od i.toNat) | _ => .non) (fun d hd => dg_n 9 scLReadings.nd) (fun d hd => dts_nil) (fun d hd _ => ?_))).de ?_) (fun ht => DE.is (dl_lst (da_cons (de_v 4) da_nil)).de ?_))
      (dss_cons (ds_setL 7 scLReadings.nd (dl_lst da_nil) (dss_cons (ds_for (is := [8]) (ds := (rowsO o od tn).map oD) (di_l (DE.is (de_catL (j := [oD o]) ?_ (de_v 6) (dl_lst (da_cons (de_v 5) da_nil)).de) ?_))
        (fun i ρ => ∃ x6 x8 : EV, ρ = [.val (partsD ls ps0 od0 pp op tn), .val (.tup (psD ps)), .val (.tup (odD od)), .val (Wr.d (.order o)), .val (.tup (odD od)), .val (.tup (odD o)), x6, .own (((rowsO o od tn).take i).map fun r => DV.str (textOf ps r)), x8, .un]) ⟨_, .un, rfl⟩ ?_ ?_)))))))))
    · obtain ⟨n, hn, rfl⟩ := rgD_mem hd
      have e1 := cutG_to (xs := odD o) (k := n) (by rw [odD_len]; omega)
      have e2 := cutG_from (xs := odD od) (k := n)
      refine DE.is (de_catT ?_ (de_slT (de_v 5) dp_none (dp_some (de_v 9))) (de_slT (de_v 4) (dp_some (de_v 9)) dp_none)) (congrArg DV.tup ?_)
      · rw [e1, e2, List.length_take, List.length_drop, odD_len, odD_len]
        omega
      · rw [e1, e2, odD_cut]
        rfl
    · rw [filt, if_pos ht]
      congr 1
      rw [List.map_map]
      exact rg_map fun i _ => rfl
    · rw [if_neg (by rw [ht]; decide)]
      rfl
    · have : (if tn = true then (List.range o.length).map fun n => mixO o od n else [od]).length ≤ 4 := by
        unfold rowsO at hl
        rw [List.length_append] at hl
        omega
      rw [List.length_map]
      show _ + 1 ≤ 100000
      omega
    · unfold rowsO
      rw [List.map_append]
      rfl
    · rintro i d ρ hd ⟨x6, x8, rfl⟩
      obtain ⟨r, hr, rfl⟩ := oDs_at hd
      obtain ⟨hr1, hr2⟩ := rowsO_mem h1 hod h2 v.hb (List.mem_of_getElem? hr)
      refine ⟨_, dg_n 8 scLReadings.nd, dss_one (ds_if (dt_isOrd (w := .order o) (de_v 3)) (fun _ => dss_one (ds_append 7 rfl (de_call Te (da_cons (de_v 1) (da_cons (de_v 8) da_nil)) ⟨_, _, ps, r, ⟨v.bd.hp, hr1, hr2⟩, .inr rfl, .inr rfl, rfl, rfl⟩) ?_ ⟨x6, .val (oD r), ?_⟩)) fun h => by cases h)⟩
      · rw [List.length_map, List.length_take]
        omega
      · rw [take_more hr, List.map_append]
        rfl
    · rintro ρ ⟨x6, x8, rfl⟩
      rw [List.length_map, List.take_length]
      refine dss_freeze 7 rfl (dss_one (ds_ret (de_v 7) ?_))
      show DV.lst _ = DV.lst _
      rw [← readO, List.map_map]
      rfl
theorem scLSafe : FnScope ["_law_parts", "_law_pieces_here", "_law_order", "_law_texts", "_law_found", "_law_write", "_law_text_here"] ["_law_parts", "_law_pieces_here", "_law_order", "_law_texts"] (defScope lSafe) := ⟨rfl, rfl, rfl, by decide +kernel, rfl, by decide +kernel, by decide +kernel⟩
def R_lsafe : List DV → DV → Prop := fun ds d => ∃ ls ps od ps0 od0 pp op tn t, VS ls ps od ∧ ds = [partsD ls ps0 od0 pp op tn, .tup (psD ps), .tup (odD od), .lst [.str (textOf ps od), .str t]] ∧ d = wrsD (safesOf ls ps od tn t)
theorem wr_at {l : List Wr} {i : Nat} {d : DV} (h : (l.map Wr.d)[i]? = some d) : ∃ w, l[i]? = some w ∧ d = w.d := by
  rw [List.getElem?_map] at h
  cases q : l[i]? with
  | none => rw [q] at h; cases h
  | some z =>
    rw [q] at h
    cases h
    exact ⟨z, rfl, rfl⟩
theorem ok_lsafe (B : Bt g) (Lw : Fn g 2 "_law_writes" R_lwrites) (Lr : Fn g 2 "_law_readings" R_lreadings) {f : Addr} {fd : FuncData} (F : Fun g.K "_law_safe" "_law_safe" lSafe f fd) : FnOk g.P g.w g.K g.mg g.base CX0 3 f fd ["_law_parts", "_law_pieces_here", "_law_order", "_law_texts"] (spR g.K R_lsafe) := by
  refine fn_ok F scLSafe (fun ds d ⟨ls, ps, od, ps0, od0, pp, op, tn, t, _, e, _⟩ => by rw [e]; rfl) fun ds d ⟨ls, ps, od, ps0, od0, pp, op, tn, t, v, e, ed⟩ => ?_
  subst e ed
  have hwl := writes_len v
  refine dss_cons (ds_setL 4 scLSafe.nd (dl_lst da_nil) (dss_cons (ds_for (is := [5]) (ds := (writesOf ls ps od).map Wr.d) (di_l (de_call Lw (da_cons (de_v 0) (da_cons (de_v 1) (da_cons (de_v 2) da_nil))) ⟨ls, ps, od, ps0, od0, pp, op, tn, v, rfl, rfl⟩))
    (fun i ρ => ∃ x5 : EV, ρ = [.val (partsD ls ps0 od0 pp op tn), .val (.tup (psD ps)), .val (.tup (odD od)), .val (.lst [.str (textOf ps od), .str t]), .own ((((writesOf ls ps od).take i).filter fun w => safeOf ps od w tn t).map Wr.d), x5, .un]) ⟨.un, rfl⟩ ?_ ?_)))
  · rintro i d ρ hd ⟨x5, rfl⟩
    obtain ⟨w, hw, rfl⟩ := wr_at hd
    obtain ⟨vw, _⟩ := writes_ok v w (List.mem_of_getElem? hw)
    have hll : ((((writesOf ls ps od).take i).filter fun w => safeOf ps od w tn t).map Wr.d).length < 100000 := by
      rw [List.length_map]
      refine Nat.lt_of_le_of_lt (List.length_filter_le _ _) ?_
      rw [List.length_take]
      omega
    refine ⟨_, dg_n 5 scLSafe.nd, dss_one (ds_if (x := safeOf ps od w tn t) (DT.is (dt_e (de_all (bs := (readingsOf ps od w tn).map (okText (textOf ps od) t)) B.all (DE.is (dl_rL (own := [("_law_text_here", 6)]) scLSafe.nd (by decide +kernel) (rL.ev (is := [6]) (ds := (readingsOf ps od w tn).map DV.str) (di_l (de_call Lr (da_cons (de_v 0) (da_cons (de_v 1) (da_cons (de_v 2) (da_cons (de_v 5) da_nil)))) ⟨ls, ps, od, ps0, od0, pp, op, tn, w, v, vw, rfl, rfl⟩)) (by rw [List.length_map]; have := readingsOf_len (tn := tn) (od := od) vw; omega) (by decide)
      (fun d => [.val (partsD ls ps0 od0 pp op tn), .val (.tup (psD ps)), .val (.tup (odD od)), .val (.lst [.str (textOf ps od), .str t]), .own _, .val w.d, .val d]) (fun _ => true) (fun d => .bl (inD d [.str (textOf ps od), .str t])) (fun d hd => dg_n 6 scLSafe.nd) (fun d hd => dts_nil) (fun d hd _ => ?_))).de ?_))) ?_) (fun hs => ?_) fun hs => ?_)⟩
    · obtain ⟨z, hz, rfl⟩ := psD_mem (ps := readingsOf ps od w tn) hd
      exact de_in rfl rfl rfl (de_v 6) (de_v 3)
    · rw [filt, List.map_map, List.map_map]
      rfl
    · rw [List.all_map]
      rfl
    · refine dss_one (ds_append 4 rfl (de_v 5) hll ⟨.val w.d, ?_⟩)
      rw [take_more hw, List.filter_append, List.map_append]
      have e1 : ([w].filter fun w => safeOf ps od w tn t) = [w] := by simp [hs]
      rw [e1]
      rfl
    · refine dss_nil ⟨.val w.d, ?_⟩
      rw [take_more hw, List.filter_append, List.map_append]
      have e1 : ([w].filter fun w => safeOf ps od w tn t) = [] := by simp [hs]
      rw [e1, List.map_nil, List.append_nil]
      rfl
  · rintro ρ ⟨x5, rfl⟩
    rw [List.length_map, List.take_length]
    exact dss_freeze 4 rfl (dss_one (ds_ret (de_v 4) rfl))
end SP

namespace SP
open PySem PySem.Spec PyProof.Rows L2 PD
variable {g : Gb} {C : Addr}
theorem eqv_self {d : DV} (h : d.ok = true) : d.eqv d = true := PySem.SeqAt.eqv_refl d.pd (pd_lay (ok_plain h))
/-- what else the class has -/
structure Fm (g : Gb) (C : Addr) : Prop where
  text : Pr g 2 C "text" (R_ftext C)
  used : Me g 1 C "used" (R_fused C)
  spare : Me g 1 C "spare" (R_fspare C)
  len : Lo g 1 C (R_flen C)
  eq : Eo g 1 C (R_feq C)
theorem str_ok {ls : Str} (h : letterSet ls) : PyData.strOk ls = true := by rcases h with rfl | rfl <;> decide +kernel
theorem ok_three {ls : Str} {ps : List Str} {od : List Nat} (v : VS ls ps od) : (DV.tup [.str ls, .tup (psD ps), .tup (odD od)]).ok = true := by
  unfold DV.ok
  rw [DV.plain, plainAll, plainAll, plainAll, plainAll, DV.plain, DV.plain, DV.plain, str_ok v.hls, plain_psD v.str, plain_odD, DV.dep, depAll, depAll, depAll, depAll, DV.dep, DV.dep, DV.dep, dep_psD, dep_odD]
  decide
theorem ok_nums {pp op : Int} {tn : Bool} : (DV.tup [.int pp, .int op, .bl tn]).ok = true := by
  unfold DV.ok
  rw [DV.plain, plainAll, plainAll, plainAll, plainAll, DV.plain, DV.plain, DV.plain, DV.dep, depAll, depAll, depAll, depAll, DV.dep, DV.dep, DV.dep]
  decide
theorem ok_row {xs : List DV} (h : ∀ d ∈ xs, ∃ i, d = .int i) : (DV.lst xs).ok = true := by
  have go : ∀ xs : List DV, (∀ d ∈ xs, ∃ i, d = .int i) → plainAll xs = true ∧ depAll xs = 0 := by
    intro xs
    induction xs with
    | nil => exact fun _ => ⟨by rw [plainAll], by rw [depAll]⟩
    | cons x xs ih =>
      intro h
      obtain ⟨a, b⟩ := ih fun d hd => h d (List.mem_cons_of_mem _ hd)
      obtain ⟨i, rfl⟩ := h x (List.mem_cons_self ..)
      exact ⟨by rw [plainAll, a, DV.plain]; rfl, by rw [depAll, b, DV.dep]; rfl⟩
  obtain ⟨a, b⟩ := go xs h
  unfold DV.ok
  rw [DV.plain, a, DV.dep, b]
  rfl
theorem ok_strs {xs : List Str} (h : ∀ p ∈ xs, PyData.strOk p = true) : (DV.lst (psD xs)).ok = true := by
  unfold DV.ok
  rw [DV.plain, plain_psD h, DV.dep, dep_psD]
  rfl
theorem wr_plain {ls : Str} {n : Nat} {w : Wr} (hl : letterSet ls) (h : VW ls n w) : w.d.plain = true ∧ w.d.dep ≤ 2 := by
  cases w with
  | piece b p =>
    show (DV.tup [.str "piece", .int b, .str p]).plain = true ∧ (DV.tup [.str "piece", .int b, .str p]).dep ≤ 2
    rw [DV.plain, plainAll, plainAll, plainAll, plainAll, DV.plain, DV.plain, DV.plain, word_ok hl h.2, DV.dep, depAll, depAll, depAll, depAll, DV.dep, DV.dep, DV.dep, show PyData.strOk ("piece" : Str) = true by decide +kernel]
    decide
  | order o =>
    show (DV.tup [.str "order", .tup (odD o)]).plain = true ∧ (DV.tup [.str "order", .tup (odD o)]).dep ≤ 2
    rw [DV.plain, plainAll, plainAll, plainAll, DV.plain, DV.plain, plain_odD, DV.dep, depAll, depAll, depAll, DV.dep, DV.dep, dep_odD, show PyData.strOk ("order" : Str) = true by decide +kernel]
    decide
theorem ok_wrs {ls : Str} {n : Nat} {ws : List Wr} (hl : letterSet ls) (h : ∀ w ∈ ws, VW ls n w) : (wrsD ws).ok = true := by
  have go : ∀ ws : List Wr, (∀ w ∈ ws, VW ls n w) → plainAll (ws.map Wr.d) = true ∧ depAll (ws.map Wr.d) ≤ 2 := by
    intro ws
    induction ws with
    | nil => exact fun _ => ⟨by rw [List.map_nil, plainAll], by rw [List.map_nil, depAll]; decide⟩
    | cons x xs ih =>
      intro h
      obtain ⟨a, b⟩ := ih fun d hd => h d (List.mem_cons_of_mem _ hd)
      obtain ⟨a', b'⟩ := wr_plain hl (h x (List.mem_cons_self ..))
      refine ⟨by rw [List.map_cons, plainAll, a, a']; rfl, ?_⟩
      rw [List.map_cons, depAll]
      exact Nat.max_le.mpr ⟨b', b⟩
  obtain ⟨a, b⟩ := go ws h
  unfold wrsD DV.ok
  rw [DV.plain, a, DV.dep, Bool.true_and]
  exact decide_eq_true (by omega)
theorem scLFileRight : FnScope ["_law_file", "_law_parts", "_law_blocks", "_law_block"] ["_law_file", "_law_parts"] (defScope lFileRight) := ⟨rfl, rfl, rfl, by decide +kernel, rfl, by decide +kernel, by decide +kernel⟩
def R_lfright (C : Addr) : List DV → DV → Prop := fun ds d => ∃ ls ps od pp op tn, VS ls ps od ∧ ds = [fileD C ls ps od pp op tn, partsD ls ps od pp op tn] ∧ d = .bl true
theorem used_ints (ps : List Str) (od : List Nat) : ∀ d ∈ usedD ps od, ∃ i, d = .int i := fun d hd => by
  unfold usedD at hd
  exact range_int (List.mem_filter.mp hd).1
theorem spare_ints (ps : List Str) (od : List Nat) : ∀ d ∈ spareD ps od, ∃ i, d = .int i := fun d hd => by
  unfold spareD at hd
  exact range_int (List.mem_filter.mp hd).1
theorem ok_lfright (B : Bt g) (L : Fl g C) (P : Fp g C) (M : Fm g C) (Te : Fn g 1 "_law_text" R_ltext) {f : Addr} {fd : FuncData} (F : Fun g.K "_law_file_right" "_law_file_right" lFileRight f fd) : FnOk g.P g.w g.K g.mg g.base CX0 4 f fd ["_law_file", "_law_parts"] (spR g.K (R_lfright C)) := by
  refine fn_ok F scLFileRight (fun ds d ⟨ls, ps, od, pp, op, tn, _, e, _⟩ => by rw [e]; rfl) fun ds d ⟨ls, ps, od, pp, op, tn, v, e, ed⟩ => ?_
  subst e ed
  have hps := v.hps
  have c := L.kl.c
  refine dss_cons (ds_if (x := false) (DT.is (dt_neD (ok_three v) (ok_three v) (de_tup (da_cons (de_ls L P (de_v 0)) (da_cons (de_ps L P (de_v 0)) (da_cons (de_od L P (de_v 0)) da_nil)))) (DE.is (de_slT (i := none) (j := some 3) (de_v 1) dp_none (dp_some de_int)) rfl)) (by rw [eqv_self (ok_three v)]; rfl)) (fun h => by cases h) fun _ => dss_nil
    (dss_cons (ds_if (x := false) (DT.is (dt_neD ok_nums ok_nums (de_tup (da_cons (de_pp L P (de_v 0)) (da_cons (de_oq L P (de_v 0)) (da_cons (de_tn L P (de_v 0)) da_nil)))) (DE.is (de_slT (i := some 3) (j := none) (de_v 1) (dp_some de_int) dp_none) rfl)) (by rw [eqv_self ok_nums]; rfl)) (fun h => by cases h) fun _ => dss_nil
    (dss_cons (ds_set 2 scLFileRight.nd (de_listRg (n := ps.length) B (by omega) (DE.is (de_len B.len rfl (parts_at (d := .tup (psD ps)) rfl (de_v 1))) (by rw [psD_len])))
    (dss_cons (ds_if (x := false) (DT.is (dt_w (dw_or (dt_neD (ok_row (used_ints ps od)) (ok_row (used_ints ps od)) (de_meth0 c M.used (fgs_no (by decide +kernel)) ⟨ls, ps, od, pp, op, tn, hps, rfl, rfl⟩ (de_v 0)) (DE.is (dl_rL (own := [("_law_block", 3)]) scLFileRight.nd (by decide +kernel) (rL.ev (is := [3]) (ds := rangeD 0 ps.length) (di_l (de_v 2)) (by rw [rangeD_len]; omega) (by decide)
      (fun d => [.val (fileD C ls ps od pp op tn), .val (partsD ls ps od pp op tn), .val (.lst (rangeD 0 ps.length)), .val d]) (fun d => inD d (odD od)) (fun d => d) (fun d hd => dg_n 3 scLFileRight.nd) (fun d hd => ?_) (fun d hd _ => de_v 3))).de ?_)) fun _ => dw_or1 (dt_neI (de_lenO (i := ps.length) B M.len ⟨ls, ps, od, pp, op, tn, rfl, rfl⟩ (by omega) (de_v 0)) (DE.is (de_len B.len rfl (parts_at (d := .tup (psD ps)) rfl (de_v 1))) (by rw [psD_len]))))) ?_) (fun h => by cases h) fun _ => dss_nil
    (dss_cons (ds_if (x := false) (DT.is (dt_not (dt_eqD (ok_row (spare_ints ps od)) (ok_row (spare_ints ps od)) (de_meth0 c M.spare (fgs_no (by decide +kernel)) ⟨ls, ps, od, pp, op, tn, hps, rfl, rfl⟩ (de_v 0)) (DE.is (dl_rL (own := [("_law_block", 3)]) scLFileRight.nd (by decide +kernel) (rL.ev (is := [3]) (ds := rangeD 0 ps.length) (di_l (de_v 2)) (by rw [rangeD_len]; omega) (by decide)
      (fun d => [.val (fileD C ls ps od pp op tn), .val (partsD ls ps od pp op tn), .val (.lst (rangeD 0 ps.length)), .val d]) (fun d => !inD d (odD od)) (fun d => d) (fun d hd => dg_n 3 scLFileRight.nd) (fun d hd => ?_) (fun d hd _ => de_v 3))).de ?_))) ?_) (fun h => by cases h) fun _ => dss_nil
    (dss_one (ds_ret (DE.is (de_eqS (de_prop c M.text ⟨ls, ps, od, pp, op, tn, v.bd, rfl, rfl⟩ (de_v 0)) (de_call Te (da_cons (parts_at (d := .tup (psD ps)) rfl (de_v 1)) (da_cons (parts_at (d := .tup (odD od)) rfl (de_v 1)) da_nil)) ⟨_, _, ps, od, v.bd.bx, .inr rfl, .inr rfl, rfl, rfl⟩)) ?_) rfl)))))))))))
  · obtain ⟨i, rfl⟩ := range_int hd
    exact dts_one (dt_in rfl rfl (flat_od od) (de_v 3) (parts_at (d := .tup (odD od)) rfl (de_v 1)))
  · rw [List.map_id']
    rfl
  · rw [eqv_self (ok_row (used_ints ps od)), decide_eq_true rfl]
    rfl
  · obtain ⟨i, rfl⟩ := range_int hd
    exact dts_one (dt_notIn rfl rfl (flat_od od) (de_v 3) (parts_at (d := .tup (odD od)) rfl (de_v 1)))
  · rw [List.map_id']
    rfl
  · rw [eqv_self (ok_row (spare_ints ps od))]
    rfl
  · rw [decide_eq_true rfl]
end SP

namespace SP
open PySem PySem.Spec PyProof.Rows L2 PD
variable {g : Gb} {C : Addr}
theorem orders_two : ∀ n ≤ 4, 1 ≤ n → ([] : List Nat) ∈ ordersOf n ∧ [0] ∈ ordersOf n := by decide +kernel
theorem writes_pos {ls : Str} {ps : List Str} {od : List Nat} (v : VS ls ps od) : 0 < (writesOf ls ps od).length := by
  obtain ⟨h1, h2⟩ := orders_two _ v.hps v.hps1
  have go : ∃ o ∈ ordersOf ps.length, o ≠ od := by
    by_cases e : od = []
    · exact ⟨[0], h2, by rw [e]; decide⟩
    · exact ⟨[], h1, fun z => e z.symm⟩
  obtain ⟨o, ho, hne⟩ := go
  have m : Wr.order o ∈ writesOf ls ps od := by
    unfold writesOf
    refine List.mem_append_right _ (List.mem_map.mpr ⟨o, List.mem_filter.mpr ⟨ho, ?_⟩, rfl⟩)
    rw [decide_eq_false hne]
    rfl
  exact List.length_pos_of_mem m
def pickW (xs : List Int) (k : Nat) (ls : Str) (ps : List Str) (od : List Nat) : Wr := (writesOf ls ps od).getD (pickI xs k (writesOf ls ps od).length) (.order [])
theorem pickW_at {xs : List Int} {k : Nat} {ls : Str} {ps : List Str} {od : List Nat} (v : VS ls ps od) : ((writesOf ls ps od).map Wr.d)[pickI xs k ((writesOf ls ps od).map Wr.d).length]? = some (pickW xs k ls ps od).d := by
  have h := pickI_lt (xs := xs) (k := k) (writes_pos v)
  unfold pickW
  rw [List.length_map, List.getElem?_map, List.getElem?_eq_getElem h, List.getD_eq_getElem?_getD, List.getElem?_eq_getElem h]
  rfl
theorem pickW_mem {xs : List Int} {k : Nat} {ls : Str} {ps : List Str} {od : List Nat} (v : VS ls ps od) : pickW xs k ls ps od ∈ writesOf ls ps od := getD_mem (pickI_lt (writes_pos v))
theorem read_word {ls : Str} {ps : List Str} {od : List Nat} {w : Wr} {tn : Bool} (v : VS ls ps od) (h : VW ls ps.length w) : ∀ t ∈ readingsOf ps od w tn, PyData.strOk t = true := by
  have go : ∀ (ps : List Str) (od : List Nat), (∀ p ∈ ps, PyData.strOk p = true) → (∀ b ∈ od, b < ps.length) → PyData.strOk (textOf ps od) = true := by
    intro ps od hp hb
    have cat : ∀ l : List Str, (∀ p ∈ l, PyData.strOk p = true) → PyData.strOk (catS l) = true := by
      intro l
      induction l with
      | nil => exact fun _ => (by decide +kernel : PyData.strOk ⟨#[]⟩ = true)
      | cons x l ih =>
        intro h
        rw [catS_cons]
        have h1 := h x (List.mem_cons_self ..)
        have h2 := ih fun p hp => h p (List.mem_cons_of_mem _ hp)
        unfold PyData.strOk at h1 h2 ⊢
        show (x.cps ++ (catS l).cps).all _ = true
        rw [← Array.all_toList] at h1 h2 ⊢
        rw [Array.toList_append, List.all_append, h1, h2]
        rfl
    refine cat _ fun p hp' => ?_
    rw [List.mem_map] at hp'
    obtain ⟨b, hb', rfl⟩ := hp'
    exact hp _ (oldP_mem (hb b hb'))
  have mix : ∀ p q : Str, ∀ n, PyData.strOk p = true → PyData.strOk q = true → PyData.strOk (mixS p q n) = true := by
    intro p q n hp hq
    unfold PyData.strOk at hp hq ⊢
    show ((p.cps.toList.take n).toArray ++ (q.cps.toList.drop n).toArray).all _ = true
    rw [← Array.all_toList] at hp hq ⊢
    rw [Array.toList_append, List.all_append, Bool.and_eq_true, List.all_eq_true, List.all_eq_true]
    exact ⟨fun c hc => List.all_eq_true.mp hp c (List.mem_of_mem_take hc), fun c hc => List.all_eq_true.mp hq c (List.mem_of_mem_drop hc)⟩
  intro t ht
  unfold readingsOf at ht
  rcases List.mem_append.mp ht with ht | ht
  · cases tn
    · rw [if_neg (by decide)] at ht
      rw [List.mem_singleton.mp ht]
      exact go _ _ v.str v.hb
    · rw [if_pos rfl, List.mem_map] at ht
      obtain ⟨s, hs, rfl⟩ := ht
      have hb := tornOf_bd v h s hs
      refine go _ _ ?_ hb.hb
      cases w with
      | piece b p =>
        unfold tornOf at hs
        rw [List.mem_map] at hs
        obtain ⟨n, hn, rfl⟩ := hs
        intro q hq
        rcases List.mem_or_eq_of_mem_set hq with hq | rfl
        · exact v.str q hq
        · exact mix _ _ _ (word_ok v.hls h.2) (v.str _ (oldP_mem h.1))
      | order o =>
        unfold tornOf at hs
        rw [List.mem_map] at hs
        obtain ⟨n, hn, rfl⟩ := hs
        exact v.str
  · rw [List.mem_singleton.mp ht]
    exact go _ _ (v.after h).str (v.after h).hb
theorem scLWritesRight : FnScope ["_law_script", "_law_file", "_law_parts", "_law_goal_here", "_law_old", "_law_writes_here", "_law_safe_here", "_law_turn", "_law_write", "_law_texts", "_law_block", "_law_text_here"] ["_law_script", "_law_file", "_law_parts", "_law_goal_here"] (defScope lWritesRight) := ⟨rfl, rfl, rfl, by decide +kernel, rfl, by decide +kernel, by decide +kernel⟩
def R_lwright (C : Addr) : List DV → DV → Prop := fun ds d => ∃ xs ls ps od pp op tn t, VS ls ps od ∧ wordOk ls 6 t = true ∧ ds = [.lst (intsD xs), fileD C ls ps od pp op tn, partsD ls ps od pp op tn, .str t] ∧ d = .bl true
theorem ok_lwright (B : Bt g) (Te : Fn g 1 "_law_text" R_ltext) (Lw : Fn g 2 "_law_writes" R_lwrites) (Ls : Fn g 3 "_law_safe" R_lsafe) (Pk : Fn g 2 "_law_pick" R_pick) (Lr : Fn g 2 "_law_readings" R_lreadings) (Aw : Fn g 4 "all_writes" (R_allw C)) (Sw : Fn g 5 "safe_writes" (R_safes C)) (Iw : Fn g 5 "is_write" (R_iswr C)) (Tt : Fn g 6 "torn_texts" (R_ttexts C)) (Is : Fn g 6 "is_safe" (R_safe C)) {f : Addr} {fd : FuncData} (F : Fun g.K "_law_writes_right" "_law_writes_right" lWritesRight f fd) :
    FnOk g.P g.w g.K g.mg g.base CX0 7 f fd ["_law_script", "_law_file", "_law_parts", "_law_goal_here"] (spR g.K (R_lwright C)) := by
  refine fn_ok F scLWritesRight (fun ds d ⟨xs, ls, ps, od, pp, op, tn, t, _, _, e, _⟩ => by rw [e]; rfl) fun ds d ⟨xs, ls, ps, od, pp, op, tn, t, v, ht, e, ed⟩ => ?_
  subst e ed
  have hps := v.hps
  have okw : (wrsD (writesOf ls ps od)).ok = true := ok_wrs v.hls fun w hw => (writes_ok v w hw).1
  have oks : (wrsD (safesOf ls ps od tn t)).ok = true := ok_wrs v.hls fun w hw => (writes_ok v w (List.mem_filter.mp hw).1).1
  refine dss_cons (ds_asgS (d := .tup [.str (textOf ps od), wrsD (writesOf ls ps od)]) (de_tup (da_cons (de_call Te (da_cons (parts_at (d := .tup (psD ps)) rfl (de_v 2)) (da_cons (parts_at (d := .tup (odD od)) rfl (de_v 2)) da_nil)) ⟨_, _, ps, od, v.bd.bx, .inr rfl, .inr rfl, rfl, rfl⟩) (da_cons (de_call Lw (da_cons (de_v 2) (da_cons (parts_at (d := .tup (psD ps)) rfl (de_v 2)) (da_cons (parts_at (d := .tup (odD od)) rfl (de_v 2)) da_nil))) ⟨ls, ps, od, ps, od, pp, op, tn, v, rfl, rfl⟩) da_nil))) (dg_tup (dgs_cons (dg_n 4 scLWritesRight.nd) (dgs_cons (dg_n 5 scLWritesRight.nd) dgs_nil)))
    (dss_cons (ds_set 6 scLWritesRight.nd (de_call Ls (da_cons (de_v 2) (da_cons (parts_at (d := .tup (psD ps)) rfl (de_v 2)) (da_cons (parts_at (d := .tup (odD od)) rfl (de_v 2)) (da_cons (dl_lst (da_cons (de_v 4) (da_cons (de_v 3) da_nil))).de da_nil)))) ⟨ls, ps, od, ps, od, pp, op, tn, t, v, rfl, rfl⟩)
    (dss_cons (ds_if (x := false) (DT.is (dt_w (dw_or (dt_neD okw okw (de_call Aw (da_cons (de_v 1) da_nil) ⟨ls, ps, od, pp, op, tn, v, rfl, rfl⟩) (de_v 5)) fun _ => dw_or1 (dt_neD oks oks (de_call Sw (da_cons (de_v 1) (da_cons (de_v 3) da_nil)) ⟨ls, ps, od, pp, op, tn, t, v, ht, rfl, rfl⟩) (de_v 6)))) (by rw [eqv_self okw, eqv_self oks]; rfl)) (fun h => by cases h) fun _ => dss_nil
    (dss_cons (ds_for (is := [7]) (ds := rgD 6) (di_rg (n := 6) B.range (by decide) de_int)
      (fun i ρ => ∃ x7 x8 x9 : EV, ρ = [.val (.lst (intsD xs)), .val (fileD C ls ps od pp op tn), .val (partsD ls ps od pp op tn), .val (.str t), .val (.str (textOf ps od)), .val (wrsD (writesOf ls ps od)), .val (wrsD (safesOf ls ps od tn t)), x7, x8, x9, .un, .un]) ⟨.un, .un, .un, rfl⟩ ?_ ?_)))))))
  · rintro i d ρ hd ⟨x7, x8, x9, rfl⟩
    obtain ⟨hi, rfl⟩ := rgD_at hd
    obtain ⟨vw, hc⟩ := writes_ok v _ (pickW_mem (xs := xs) (k := 20 + i) v)
    have okr : (DV.lst (psD (readingsOf ps od (pickW xs (20 + i) ls ps od) tn))).ok = true := ok_strs (read_word v vw)
    refine ⟨_, dg_n 7 scLWritesRight.nd, dss_cons (ds_set 8 scLWritesRight.nd (d := (pickW xs (20 + i) ls ps od).d) (de_call Pk (da_cons (de_v 0) (da_cons (DE.is (d' := .int ((20 + i : Nat) : Int)) (de_add de_int (de_v 7)) ?_) (da_cons (de_v 5) da_nil))) ⟨_, xs, 20 + i, _, .inl rfl, by omega, rfl, pickW_at v⟩)
      (dss_cons (ds_set 9 scLWritesRight.nd (de_call Lr (da_cons (de_v 2) (da_cons (parts_at (d := .tup (psD ps)) rfl (de_v 2)) (da_cons (parts_at (d := .tup (odD od)) rfl (de_v 2)) (da_cons (de_v 8) da_nil)))) ⟨ls, ps, od, ps, od, pp, op, tn, _, v, vw, rfl, rfl⟩)
      (dss_cons (ds_if (x := false) (DT.is (dt_w (dw_or (dt_not (dt_e (de_call Iw (da_cons (de_v 1) (da_cons (de_v 8) da_nil)) ⟨ls, ps, od, pp, op, tn, _, v, fit_wr vw, rfl, rfl⟩))) fun _ => dw_or1 (dt_neD okr okr (de_call Tt (da_cons (de_v 1) (da_cons (de_v 8) da_nil)) ⟨ls, ps, od, pp, op, tn, _, v, vw, hc, rfl, rfl⟩) (de_v 9)))) ?_) (fun h => by cases h) fun _ => dss_nil
      (dss_one (ds_if (x := false) (DT.is (dt_cmp (fun X o => op_ne) (od_neF rfl rfl rfl) (de_call Is (da_cons (de_v 1) (da_cons (de_v 8) (da_cons (de_v 3) da_nil))) ⟨ls, ps, od, pp, op, tn, _, t, v, vw, hc, ht, rfl, rfl⟩) (de_all (bs := (readingsOf ps od (pickW xs (20 + i) ls ps od) tn).map (okText (textOf ps od) t)) B.all (DE.is (dl_rL (own := [("_law_text_here", 11)]) scLWritesRight.nd (by decide +kernel) (rL.ev (is := [11]) (ds := (readingsOf ps od (pickW xs (20 + i) ls ps od) tn).map DV.str) (di_l (de_v 9)) (by rw [List.length_map]; have := readingsOf_len (tn := tn) (od := od) vw; omega) (by decide)
        (fun d => [.val (.lst (intsD xs)), .val (fileD C ls ps od pp op tn), .val (partsD ls ps od pp op tn), .val (.str t), .val (.str (textOf ps od)), .val (wrsD (writesOf ls ps od)), .val (wrsD (safesOf ls ps od tn t)), .val (.int i), .val (pickW xs (20 + i) ls ps od).d, .val (.lst ((readingsOf ps od (pickW xs (20 + i) ls ps od) tn).map DV.str)), .un, .val d]) (fun _ => true) (fun d => .bl (inD d [.str (textOf ps od), .str t])) (fun d hd => dg_n 11 scLWritesRight.nd) (fun d hd => dts_nil) (fun d hd _ => ?_))).de ?_)) (nomark _)) ?_) (fun h => by cases h) fun _ => dss_nil ⟨.val (.int i), .val (pickW xs (20 + i) ls ps od).d, .val (.lst ((readingsOf ps od (pickW xs (20 + i) ls ps od) tn).map DV.str)), rfl⟩)))))))⟩
    · exact congrArg DV.int (show (20 : Int) + (i : Int) = ((20 + i : Nat) : Int) by omega)
    · rw [isWr_d vw, hc, eqv_self okr]
      rfl
    · obtain ⟨z, hz, rfl⟩ := psD_mem (ps := readingsOf ps od _ tn) hd
      exact de_in rfl rfl rfl (de_v 11) (dl_lst (da_cons (de_v 4) (da_cons (de_v 3) da_nil))).de
    · rw [filt, List.map_map, List.map_map]
      rfl
    · rw [List.all_map]
      show (!decide (V.bl (safeOf ps od _ tn t) = V.bl (safeOf ps od _ tn t))) = false
      rw [decide_eq_true rfl]
      rfl
  · rintro ρ ⟨x7, x8, x9, rfl⟩
    refine dss_cons (ds_for (is := [10]) (ds := rgD ps.length) (di_rg B.range (by omega) (DE.is (de_len B.len rfl (parts_at (d := .tup (psD ps)) rfl (de_v 2))) (by rw [psD_len])))
      (fun i ρ => ∃ x10 : EV, ρ = [.val (.lst (intsD xs)), .val (fileD C ls ps od pp op tn), .val (partsD ls ps od pp op tn), .val (.str t), .val (.str (textOf ps od)), .val (wrsD (writesOf ls ps od)), .val (wrsD (safesOf ls ps od tn t)), x7, x8, x9, x10, .un]) ⟨.un, rfl⟩ ?_ ?_)
    · rintro i d ρ hd ⟨x10, rfl⟩
      obtain ⟨hi, rfl⟩ := rgD_at hd
      have vw : VW ls ps.length (.piece i (oldP ps i)) := ⟨hi, v.hp _ (oldP_mem hi)⟩
      refine ⟨_, dg_n 10 scLWritesRight.nd, dss_one (ds_if (x := false) (DT.is (dt_e (de_call Iw (da_cons (de_v 1) (da_cons (de_tup (da_cons de_str (da_cons (de_v 10) (da_cons (de_ixT (atI_nat (psD_get (get_piece hi))) (parts_at (d := .tup (psD ps)) rfl (de_v 2)) (de_v 10)) da_nil)))) da_nil)) ⟨ls, ps, od, pp, op, tn, _, v, fit_wr vw, rfl, rfl⟩)) ?_) (fun h => by cases h) fun _ => dss_nil ⟨.val (.int i), rfl⟩)⟩
      rw [isWr_d vw]
      show (!decide (oldP ps i = oldP ps i)) = false
      rw [decide_eq_true rfl]
      rfl
    · rintro ρ ⟨x10, rfl⟩
      have vw : VW ls ps.length (.order od) := ⟨v.hod, v.hb⟩
      refine dss_one (ds_ret (DE.is (de_not (de_call Iw (da_cons (de_v 1) (da_cons (de_tup (da_cons de_str (da_cons (parts_at (d := .tup (odD od)) rfl (de_v 2)) da_nil))) da_nil)) ⟨ls, ps, od, pp, op, tn, _, v, fit_wr vw, rfl, rfl⟩)) ?_) rfl)
      congr 1
      rw [isWr_d vw]
      show (!(!decide (od = od))) = true
      rw [decide_eq_true rfl]
      rfl
end SP

namespace SP
open PySem PySem.Spec PyProof.Rows L2 PD
variable {g : Gb} {C : Addr}
theorem feq_self {ls : Str} {ps : List Str} {od : List Nat} {pp op : Int} {tn : Bool} : feq ls ls ps ps od od pp pp op op tn tn = true := by
  unfold feq DV.eqF
  rw [decide_eq_true rfl, decide_eq_true rfl, decide_eq_true rfl, decide_eq_true rfl, decide_eq_true rfl, decide_eq_true rfl]
  rfl
theorem cost_snoc (pp op : Int) (ws : List Wr) (w : Wr) : costOf pp op (ws ++ [w]) = costOf pp op ws + priceOf pp op w := by
  unfold costOf
  rw [List.map_append, List.sum_append]
  simp
theorem scLLaw : FnScope ["_law_script", "_law_parts", "_law_file", "_law_goal_here", "_law_first", "_law_done_here", "_law_cost", "_law_turn", "_law_later"] ["_law_script"] (defScope lLaw) := ⟨rfl, rfl, rfl, by decide +kernel, rfl, by decide +kernel, by decide +kernel⟩
def R_law : List DV → DV → Prop := fun ds d => ∃ xs : List Int, xs.length ≤ 1000 ∧ ds = [.frz (intsD xs)] ∧ d = .bl true
theorem last_snoc (ds : List DV) (d : DV) : atI (ds ++ [d]) (-1) = some d := by
  unfold atI ixN
  rw [List.length_append, if_neg (by omega), if_pos (by simp; omega)]
  show (ds ++ [d])[((-1 : Int) + ((ds.length + 1 : Nat) : Int)).toNat]? = _
  rw [show ((-1 : Int) + ((ds.length + 1 : Nat) : Int)).toNat = ds.length by omega]
  rw [List.getElem?_append_right (Nat.le_refl _), Nat.sub_self]
  rfl
theorem ok_law (B : Bt g) (M : Fm g C) (Dr : Fn g 3 "_law_drawn" R_ldrawn) (Bu : Fn g 6 "_law_built" (R_lbuilt C)) (Go : Fn g 2 "_law_goal" R_lgoal) (Fr : Fn g 4 "_law_file_right" (R_lfright C)) (Wr' : Fn g 7 "_law_writes_right" (R_lwright C)) (Pk : Fn g 2 "_law_pick" R_pick) (Lw : Fn g 2 "_law_writes" R_lwrites) (Do : Fn g 1 "_law_done" R_ldone) (Pr' : Fn g 1 "_law_price" R_lprice) (Af : Fn g 7 "after" (R_after C)) (Ap : Fn g 7 "apply" (R_apply C)) (Co : Fn g 7 "cost_of" (R_cost C)) {f : Addr} {fd : FuncData} (F : Fun g.K "law" "law" lLaw f fd) :
    FnOk g.P g.w g.K g.mg g.base CX0 8 f fd ["_law_script"] (spR g.K R_law) := by
  refine fn_ok F scLLaw (fun ds d ⟨xs, _, e, _⟩ => by rw [e]; rfl) fun ds d ⟨xs, hx, e, ed⟩ => ?_
  subst e ed
  have v0 := dr_vs xs
  have hpp := dr_pp xs
  have hop := dr_op xs
  have ht := goal_word (xs := xs) v0
  refine dss_cons (ds_set 1 scLLaw.nd (de_call Dr (da_cons (de_v 0) (da_cons de_int (da_cons de_int da_nil))) ⟨_, xs, .inr rfl, rfl, rfl⟩) ?_)
  generalize drTn xs = tn at *
  generalize drOp xs = op at *
  generalize drPp xs = pp at *
  generalize drOd xs = od at *
  generalize drPs xs = ps at *
  generalize drLs xs = ls at *
  have vf0 : VF ls ps od pp op := ⟨v0, hpp, hop⟩
  refine dss_cons (ds_par 2 3 scLLaw.nd (de_call Bu (da_cons (de_v 1) da_nil) ⟨ls, ps, od, pp, op, tn, vf0, rfl, rfl⟩) (de_call Go (da_cons (de_v 0) (da_cons de_int (da_cons (de_v 1) da_nil))) ⟨_, xs, ls, ps, od, pp, op, tn, .inr rfl, v0, rfl, rfl⟩)
    (dss_cons (ds_par3O 4 5 6 scLLaw.nd (de_v 2) (dl_lst da_nil) de_int
    (dss_cons (ds_for (is := [7]) (ds := rgD 5) (di_rg (n := 5) B.range (by decide) de_int)
      (fun i ρ => ∃ (ws : List Wr) (x7 x8 : EV), ws.length = i ∧ chain ls ps od ws ∧ ρ = [.val (.frz (intsD xs)), .val (partsD ls (endP ps ws) (endO od ws) pp op tn), .val (fileD C ls (endP ps ws) (endO od ws) pp op tn), .val (.str (goalOf xs ls ps od)), .val (fileD C ls ps od pp op tn), .own (ws.map Wr.d), .val (.int (costOf pp op ws)), x7, x8]) ⟨[], .un, .un, rfl, trivial, rfl⟩ ?_ ?_)))))
  · rintro i d ρ hd ⟨ws, x7, x8, hws, hc, rfl⟩
    obtain ⟨hi, rfl⟩ := rgD_at hd
    have v1 := VS.chain v0 hc
    have vw := writes_ok v1 _ (pickW_mem (xs := xs) (k := 30 + i) v1)
    generalize hw : pickW xs (30 + i) ls (endP ps ws) (endO od ws) = w at vw
    have hc2 := chain_snoc hc vw.1 vw.2
    have hl2 : (ws ++ [w]).length = i + 1 := by rw [List.length_append, hws]; rfl
    have v2 := v1.after vw.1
    have ep := endP_snoc ws ps w
    have eo := endO_snoc ws od w
    have lastW : atI ((ws ++ [w]).map Wr.d) (-1) = some w.d := by
      rw [List.map_append]
      exact last_snoc _ _
    refine ⟨_, dg_n 7 scLLaw.nd, dss_cons (ds_if (x := false) (DT.is (dt_w (dw_or (dt_not (dt_e (de_call Fr (da_cons (de_v 2) (da_cons (de_v 1) da_nil)) ⟨ls, _, _, pp, op, tn, v1, rfl, rfl⟩))) fun _ => dw_or1 (dt_not (dt_e (de_call Wr' (da_cons (DE.is (d' := .lst (intsD (xs.drop i ++ [(i : Int)]))) (de_catL (i := (intsD xs).drop i) (j := [.int i]) ?_ (DE.is (de_slF (i := some (i : Int)) (j := none) (de_v 0) (dp_some (de_v 7)) dp_none) (by rw [cutG_from])) (dl_lst (da_cons (de_v 7) da_nil)).de) ?_) (da_cons (de_v 2) (da_cons (de_v 1) (da_cons (de_v 3) da_nil)))) ⟨_, ls, _, _, pp, op, tn, _, v1, ht, rfl, rfl⟩))))) rfl) (fun h => by cases h) fun _ => dss_nil
      (dss_cons (ds_append 5 rfl (d := w.d) (de_call Pk (da_cons (de_v 0) (da_cons (DE.is (d' := .int ((30 + i : Nat) : Int)) (de_add de_int (de_v 7)) ?_) (da_cons (de_call Lw (da_cons (de_v 1) (da_cons (parts_at (d := .tup (psD (endP ps ws))) rfl (de_v 1)) (da_cons (parts_at (d := .tup (odD (endO od ws))) rfl (de_v 1)) da_nil))) ⟨ls, _, _, _, _, pp, op, tn, v1, rfl, rfl⟩) da_nil))) ⟨_, xs, 30 + i, _, .inr rfl, by omega, rfl, ?_⟩) ?_ ?_)))⟩
    · rw [List.length_drop, intsD_len]
      show _ + 1 ≤ 100000
      omega
    · unfold intsD
      rw [List.map_append, List.map_drop]
      rfl
    · exact congrArg DV.int (show (30 : Int) + (i : Int) = ((30 + i : Nat) : Int) by omega)
    · rw [← hw]
      exact pickW_at v1
    · rw [List.length_map]
      omega
    · have e5 : ws.map Wr.d ++ [w.d] = (ws ++ [w]).map Wr.d := by rw [List.map_append]; rfl
      rw [e5]
      refine dss_cons (ds_set 8 scLLaw.nd (de_call Do (da_cons (parts_at (d := .tup (psD (endP ps ws))) rfl (de_v 1)) (da_cons (parts_at (d := .tup (odD (endO od ws))) rfl (de_v 1)) (da_cons (de_ixOwn 5 rfl lastW (de_neg de_int)) da_nil))) ⟨endP ps ws, endO od ws, w, vw.1.ok, v1.hps, rfl, rfl⟩)
        (dss_cons (ds_par 1 2 scLLaw.nd (d1 := partsD ls (endP ps (ws ++ [w])) (endO od (ws ++ [w])) pp op tn) (DE.is (de_catT (i := [.str ls, .tup (psD (afterP (endP ps ws) w)), .tup (odD (afterO (endO od ws) w))]) (j := [.int pp, .int op, .bl tn]) ?_ (de_tup (da_cons (parts_at (d := .str ls) rfl (de_v 1)) (da_cons (de_ixT (d := .tup (psD (afterP (endP ps ws) w))) rfl (de_v 8) de_int) (da_cons (de_ixT (d := .tup (odD (afterO (endO od ws) w))) rfl (de_v 8) de_int) da_nil)))) (DE.is (de_slT (i := some 3) (j := none) (de_v 1) (dp_some de_int) dp_none) rfl)) ?_) (de_call Af (da_cons (de_v 2) (da_cons (de_ixOwn 5 rfl lastW (de_neg de_int)) da_nil)) ⟨ls, endP ps ws, endO od ws, pp, op, tn, w, ⟨v1, hpp, hop⟩, vw.1, vw.2, rfl, rfl⟩)
        (dss_cons (ds_set 6 scLLaw.nd (DE.is (d' := .int (costOf pp op (ws ++ [w]))) (de_add (de_v 6) (de_call Pr' (da_cons (de_v 1) (da_cons (de_ixOwn 5 rfl lastW (de_neg de_int)) da_nil)) ⟨ls, _, _, pp, op, tn, w, rfl, rfl⟩)) ?_)
        (dss_one (ds_if (x := false) (eb_tmp (i := 5) rfl (DT.is (dt_w (dw_or (dt_neO M.eq (x := true) ⟨ls, ls, endP ps (ws ++ [w]), endP ps (ws ++ [w]), endO od (ws ++ [w]), endO od (ws ++ [w]), pp, pp, op, op, tn, tn, VS.chain v0 hc2, VS.chain v0 hc2, rfl, ?_⟩ (de_call Ap (da_cons (de_v 4) (da_cons (de_v 5) da_nil)) ⟨ls, ps, od, pp, op, tn, _, ws ++ [w], vf0, hc2, by omega, .inl rfl, rfl, rfl⟩) (DE.is (de_v 2) ?_)) fun _ =>
          dw_or (dt_neI (de_call Co (da_cons (de_v 4) (da_cons (de_tupleOf B.tuple rfl (de_v 5)) da_nil)) ⟨ls, ps, od, pp, op, tn, _, ws ++ [w], v0, hc2, by omega, .inr rfl, rfl, rfl⟩) (de_v 6)) fun _ =>
          dw_or1 (dt_neO M.eq (x := true) ⟨ls, ls, endP ps (ws ++ [w]), endP ps (ws ++ [w]), endO od (ws ++ [w]), endO od (ws ++ [w]), pp, pp, op, op, tn, tn, VS.chain v0 hc2, VS.chain v0 hc2, rfl, ?_⟩ (DE.is (de_v 2) ?_) (de_call Bu (da_cons (de_v 1) da_nil) ⟨ls, endP ps (ws ++ [w]), endO od (ws ++ [w]), pp, op, tn, ⟨VS.chain v0 hc2, hpp, hop⟩, rfl, rfl⟩)))) ?_)) (fun h => by cases h) fun _ => dss_nil ⟨ws ++ [w], .val (.int i), .val (stD (afterP (endP ps ws) w) (afterO (endO od ws) w)), hl2, hc2, ?_⟩)))))))
      · exact (by decide : 3 + 3 ≤ 100000)
      · rw [ep, eo]
        rfl
      · rw [cost_snoc]
      · rw [feq_self]
      · rw [ep, eo]
        rfl
      · rw [feq_self]
      · rw [ep, eo]
        rfl
      · rw [decide_eq_true rfl]
        rfl
      · rw [ep, eo]
        rfl
  · rintro ρ ⟨ws, x7, x8, hws, hc, rfl⟩
    exact dss_one (ds_ret de_bl rfl)
end SP

namespace SP
open PySem PySem.Spec PyProof.Rows L2 PD
/-- a def as the top has written it -/
def DefAt (K : PySem.W.Frag) (x : Str) (st : Stmt) : Prop := ∃ f fd, PySem.W.nsIn K mainGlobals x = some (some (.ref f)) ∧ Fun K x x st f fd
theorem def_mk {K : PySem.W.Frag} {x : Str} {st : Stmt} {f : Addr} {oc : Value} {od an : Option Addr} {osl : Array (Option Value)} {kV doc pm cdv ct : Value} (a : PySem.W.nsIn K mainGlobals x = some (some (.ref f)))
    (l : K.lookup f = some ⟨oc, od, .func (PySem.W.fnOf x x (defArgs st) (defBody st) (defScope st) .none kV doc pm an cdv ct), osl⟩) (c : PySem.W.codeIn K cdv x = true) (k : PySem.W.keepIn K (.ref f) = true) : DefAt K x st := ⟨f, _, a, fun_mk l c k⟩
def MethAt (K : PySem.W.Frag) (C : Addr) (m qual : Str) (st : Stmt) : Prop := ∃ f fd, Meth K C m f ∧ Fun K m qual st f fd
theorem meth_mk {K : PySem.W.Frag} {C : Addr} {m qual : Str} {st : Stmt} {f : Addr} {oc : Value} {od an : Option Addr} {osl : Array (Option Value)} {kV doc pm cdv ct : Value} (a : PySem.W.findIn K (.ref C) m = some (some (.ref f))) (i : PySem.W.isFn K (.ref f) = true)
    (l : K.lookup f = some ⟨oc, od, .func (PySem.W.fnOf m qual (defArgs st) (defBody st) (defScope st) .none kV doc pm an cdv ct), osl⟩) (c : PySem.W.codeIn K cdv qual = true) (k : PySem.W.keepIn K (.ref f) = true) : MethAt K C m qual st := ⟨f, _, ⟨a, i, k⟩, fun_mk l c k⟩
def PropAt (K : PySem.W.Frag) (C : Addr) (m qual : Str) (st : Stmt) : Prop := ∃ p f fd, PropOf K C m p f ∧ Fun K m qual st f fd
theorem prop_mk {K : PySem.W.Frag} {C : Addr} {m qual : Str} {st : Stmt} {p f : Addr} {rest : List Value} {oc : Value} {od an : Option Addr} {osl : Array (Option Value)} {kV doc pm cdv ct : Value} (a : PySem.W.findIn K (.ref C) m = some (some (.ref p))) (e : PySem.W.specialIn K (.ref p) "__get__" = some (some (.builtin "property.__get__"))) (t : PySem.W.takesIn K (.ref p) = some true) (r : PySem.W.recIn K p "property" = some (.ref f :: rest))
    (l : K.lookup f = some ⟨oc, od, .func (PySem.W.fnOf m qual (defArgs st) (defBody st) (defScope st) .none kV doc pm an cdv ct), osl⟩) (c : PySem.W.codeIn K cdv qual = true) (k : PySem.W.keepIn K (.ref f) = true) : PropAt K C m qual st := ⟨p, f, _, ⟨a, e, t, ⟨rest, r⟩⟩, fun_mk l c k⟩
def InitAt (K : PySem.W.Frag) (C : Addr) (st : Stmt) : Prop := ∃ f fd, Mk K C f ∧ FunD K "__init__" "File.__init__" (defArgs st) (defBody st) (defScope st) [] [("torn", .bl false)] f fd
theorem init_mk {K : PySem.W.Frag} {C D : Addr} {st : Stmt} {f : Addr} {oc : Value} {od an : Option Addr} {osl : Array (Option Value)} {doc pm cdv ct : Value} (m : PySem.W.makesIn K C = true) (a : PySem.W.findIn K (.ref C) "__init__" = some (some (.ref f))) (i : PySem.W.isFn K (.ref f) = true) (kc : PySem.W.keepIn K (.ref C) = true)
    (l : K.lookup f = some ⟨oc, od, .func (PySem.W.fnOf "__init__" "File.__init__" (defArgs st) (defBody st) (defScope st) .none (.ref D) doc pm an cdv ct), osl⟩) (c : PySem.W.codeIn K cdv "File.__init__" = true) (k : PySem.W.keepIn K (.ref f) = true) (n : PySem.W.nsIn K D "torn" = some (some (.bool false))) : InitAt K C st :=
  ⟨f, _, ⟨m, a, i, kc⟩, ⟨⟨oc, od, .none, .ref D, doc, pm, an, cdv, ct, osl, rfl, l, c, .inl ⟨rfl, rfl⟩, .inr ⟨D, rfl, fun q hq => by
    cases List.mem_singleton.mp hq
    exact ⟨_, n, rfl⟩⟩⟩, k⟩⟩
theorem letters_mk {K : PySem.W.Frag} {T : Addr} {d : Option Addr} {u1 u2 : Tok} {n : Nat} {sl : Array (Option Value)} (l : K.lookup T = some ⟨.type "tuple", d, .seq #[.str "ab" u1, .str "abc" u2] n, sl⟩) (S : Hp) : Rp K S (.ref T) (.tup [.str "ab", .str "abc"]) :=
  .tup (xs := [.str "ab", .str "abc"]) (.inr ⟨_, _, _, l, rfl, rfl, (by show 2 ≤ sizeLine; decide), .cons ⟨_, rfl⟩ (.cons ⟨_, rfl⟩ .nil)⟩) (.cons (.str _) (.cons (.str _) .nil))
theorem fin {P : Program} {w : World} {K : PySem.W.Frag} {h : Heap} {mg : Str → Option Value} {fa C T : Addr} {t_PIECE_LETTERS t_ORDER_BLOCKS t_TEXT_LETTERS t_MOST_BLOCKS t_MOST_PRICE u1 u2 : Tok} {dT : Option Addr} {nT : Nat} {slT : Array (Option Value)} (X : K.In h) (G : h.Ns mainGlobals mg) (hfa : mg "law" = some (.ref fa))
    (aC : PySem.W.nsIn K mainGlobals "File" = some (some (.ref C)))
    (b_isinstance : PySem.W.nsIn K mainGlobals "isinstance" = some none)
    (b_int : PySem.W.nsIn K mainGlobals "int" = some none)
    (b_bool : PySem.W.nsIn K mainGlobals "bool" = some none)
    (b_str : PySem.W.nsIn K mainGlobals "str" = some none)
    (b_tuple : PySem.W.nsIn K mainGlobals "tuple" = some none)
    (b_list : PySem.W.nsIn K mainGlobals "list" = some none)
    (b_len : PySem.W.nsIn K mainGlobals "len" = some none)
    (b_all : PySem.W.nsIn K mainGlobals "all" = some none)
    (b_range : PySem.W.nsIn K mainGlobals "range" = some none)
    (b_enumerate : PySem.W.nsIn K mainGlobals "enumerate" = some none)
    (b_sum : PySem.W.nsIn K mainGlobals "sum" = some none)
    (c_PIECE_LETTERS : PySem.W.nsIn K mainGlobals "PIECE_LETTERS" = some (some (.int 2 t_PIECE_LETTERS)))
    (c_ORDER_BLOCKS : PySem.W.nsIn K mainGlobals "ORDER_BLOCKS" = some (some (.int 3 t_ORDER_BLOCKS)))
    (c_TEXT_LETTERS : PySem.W.nsIn K mainGlobals "TEXT_LETTERS" = some (some (.int 6 t_TEXT_LETTERS)))
    (c_MOST_BLOCKS : PySem.W.nsIn K mainGlobals "MOST_BLOCKS" = some (some (.int 4 t_MOST_BLOCKS)))
    (c_MOST_PRICE : PySem.W.nsIn K mainGlobals "MOST_PRICE" = some (some (.int 5 t_MOST_PRICE)))
    (c_SETS : PySem.W.nsIn K mainGlobals "LETTER_SETS" = some (some (.ref T)))
    (r_SETS : K.lookup T = some ⟨.type "tuple", dT, .seq #[.str "ab" u1, .str "abc" u2] nT, slT⟩)
    (pg : PySem.W.plainGet K C Str.empty = true)
    (hd : PySem.W.hasDictIn K C = true)
    (po : PySem.W.plainOver K C = true)
    (sa : PySem.W.findIn K (.ref C) "__setattr__" = some (some (.builtin "object.__setattr__")))
    (kc : PySem.W.findIn K (.ref C) "__class__" = some (some (.builtin "object.__class__")))
    (kg : PySem.W.specialIn K (.builtin "object.__class__") "__get__" = some (some (.builtin "getset_descriptor.__get__")))
    (kt : PySem.W.takesIn K (.builtin "object.__class__") = some true)
    (km : PySem.W.mroIn K C (.type "object") = some true)
    (kn : PySem.W.findIn K (.ref C) "__ne__" = some (some (.builtin "object.__ne__")))
    (ks : PySem.W.subIn K (.ref C) (.type "object") = some true)
    (no_letters : PySem.W.findIn K (.ref C) "_letters" = some none)
    (no_pieces : PySem.W.findIn K (.ref C) "_pieces" = some none)
    (no_order : PySem.W.findIn K (.ref C) "_order" = some none)
    (no_piece_price : PySem.W.findIn K (.ref C) "_piece_price" = some none)
    (no_order_price : PySem.W.findIn K (.ref C) "_order_price" = some none)
    (no_torn : PySem.W.findIn K (.ref C) "_torn" = some none)
    (p_letters : PropAt K C "letters" "File.letters" (inClass sFile 1))
    (p_pieces : PropAt K C "pieces" "File.pieces" (inClass sFile 2))
    (p_order : PropAt K C "order" "File.order" (inClass sFile 3))
    (p_piece_price : PropAt K C "piece_price" "File.piece_price" (inClass sFile 4))
    (p_order_price : PropAt K C "order_price" "File.order_price" (inClass sFile 5))
    (p_torn : PropAt K C "torn" "File.torn" (inClass sFile 6))
    (p_text : PropAt K C "text" "File.text" sFText)
    (m_used : MethAt K C "used" "File.used" sFUsed)
    (m_spare : MethAt K C "spare" "File.spare" sFSpare)
    (m_len : MethAt K C "__len__" "File.__len__" sFLen)
    (m_eq : MethAt K C "__eq__" "File.__eq__" sFEq)
    (m_init : InitAt K C sFInit)
    (d_is_number : DefAt K "is_number" sNumber)
    (d_is_word : DefAt K "is_word" sWord)
    (d_is_piece : DefAt K "is_piece" sPiece)
    (d_is_text : DefAt K "is_text" sText)
    (d_is_block : DefAt K "is_block" sBlock)
    (d_is_order : DefAt K "is_order" sOrder)
    (d_is_state_write : DefAt K "is_state_write" sSWrite)
    (d_contents : DefAt K "contents" sContents)
    (d_all_pieces : DefAt K "all_pieces" sAllPieces)
    (d_all_orders : DefAt K "all_orders" sAllOrders)
    (d_state_writes : DefAt K "state_writes" sSWrites)
    (d_state_text : DefAt K "state_text" sSText)
    (d_old_content : DefAt K "old_content" sOld)
    (d_put_content : DefAt K "put_content" sPut)
    (d_state_after : DefAt K "state_after" sSAfter)
    (d_torn_states : DefAt K "torn_states" sTorn)
    (d_state_readings : DefAt K "state_readings" sReadings)
    (d_is_safe_write : DefAt K "is_safe_write" sIsSafe)
    (d_is_letters : DefAt K "is_letters" sIsLetters)
    (d_are_pieces : DefAt K "are_pieces" sArePieces)
    (d_is_price : DefAt K "is_price" sIsPrice)
    (d_check_file : DefAt K "check_file" sCheckFile)
    (d_check_goal : DefAt K "check_goal" sCheckGoal)
    (d_file_state : DefAt K "file_state" sFileState)
    (d_file_at : DefAt K "file_at" sFileAt)
    (d_all_writes : DefAt K "all_writes" sAllWrites)
    (d_is_write : DefAt K "is_write" sIsWrite)
    (d_check_write : DefAt K "check_write" sCheckWrite)
    (d_after : DefAt K "after" sAfter)
    (d_torn_texts : DefAt K "torn_texts" sTornTexts)
    (d_is_safe : DefAt K "is_safe" sSafe)
    (d_safe_writes : DefAt K "safe_writes" sSafeWrites)
    (d_price_of : DefAt K "price_of" sPriceOf)
    (d_passed_states : DefAt K "passed_states" sPassed)
    (d_check_writes : DefAt K "check_writes" sCheckWrites)
    (d_apply : DefAt K "apply" sApply)
    (d_cost_of : DefAt K "cost_of" sCostOf)
    (d__law_cell_at : DefAt K "_law_cell_at" lCell)
    (d__law_pick : DefAt K "_law_pick" lPick)
    (d__law_pieces : DefAt K "_law_pieces" lPieces)
    (d__law_drawn : DefAt K "_law_drawn" lDrawn)
    (d__law_built : DefAt K "_law_built" lBuilt)
    (d__law_text : DefAt K "_law_text" lText)
    (d__law_goal : DefAt K "_law_goal" lGoal)
    (d__law_orders : DefAt K "_law_orders" lOrders)
    (d__law_writes : DefAt K "_law_writes" lWrites)
    (d__law_done : DefAt K "_law_done" lDone)
    (d__law_readings : DefAt K "_law_readings" lReadings)
    (d__law_safe : DefAt K "_law_safe" lSafe)
    (d__law_price : DefAt K "_law_price" lPrice)
    (d__law_file_right : DefAt K "_law_file_right" lFileRight)
    (d__law_writes_right : DefAt K "_law_writes_right" lWritesRight)
    (d_law : DefAt K "law" lLaw)
    : ∃ fd : FuncData, (∀ (s : Shared) (v : Value), BindsTo s fd ⟨[v], []⟩ [("_law_script", v)]) ∧ ∀ base : Heap, K.In base → base.Ns mainGlobals mg → FnOk P w K mg base CX0 8 fa fd ["_law_script"] (spR K R_law) := by
  obtain ⟨_, _, a_is_number, F_is_number⟩ := d_is_number
  obtain ⟨_, _, a_is_word, F_is_word⟩ := d_is_word
  obtain ⟨_, _, a_is_piece, F_is_piece⟩ := d_is_piece
  obtain ⟨_, _, a_is_text, F_is_text⟩ := d_is_text
  obtain ⟨_, _, a_is_block, F_is_block⟩ := d_is_block
  obtain ⟨_, _, a_is_order, F_is_order⟩ := d_is_order
  obtain ⟨_, _, a_is_state_write, F_is_state_write⟩ := d_is_state_write
  obtain ⟨_, _, a_contents, F_contents⟩ := d_contents
  obtain ⟨_, _, a_all_pieces, F_all_pieces⟩ := d_all_pieces
  obtain ⟨_, _, a_all_orders, F_all_orders⟩ := d_all_orders
  obtain ⟨_, _, a_state_writes, F_state_writes⟩ := d_state_writes
  obtain ⟨_, _, a_state_text, F_state_text⟩ := d_state_text
  obtain ⟨_, _, a_old_content, F_old_content⟩ := d_old_content
  obtain ⟨_, _, a_put_content, F_put_content⟩ := d_put_content
  obtain ⟨_, _, a_state_after, F_state_after⟩ := d_state_after
  obtain ⟨_, _, a_torn_states, F_torn_states⟩ := d_torn_states
  obtain ⟨_, _, a_state_readings, F_state_readings⟩ := d_state_readings
  obtain ⟨_, _, a_is_safe_write, F_is_safe_write⟩ := d_is_safe_write
  obtain ⟨_, _, a_is_letters, F_is_letters⟩ := d_is_letters
  obtain ⟨_, _, a_are_pieces, F_are_pieces⟩ := d_are_pieces
  obtain ⟨_, _, a_is_price, F_is_price⟩ := d_is_price
  obtain ⟨_, _, a_check_file, F_check_file⟩ := d_check_file
  obtain ⟨_, _, a_check_goal, F_check_goal⟩ := d_check_goal
  obtain ⟨_, _, a_file_state, F_file_state⟩ := d_file_state
  obtain ⟨_, _, a_file_at, F_file_at⟩ := d_file_at
  obtain ⟨_, _, a_all_writes, F_all_writes⟩ := d_all_writes
  obtain ⟨_, _, a_is_write, F_is_write⟩ := d_is_write
  obtain ⟨_, _, a_check_write, F_check_write⟩ := d_check_write
  obtain ⟨_, _, a_after, F_after⟩ := d_after
  obtain ⟨_, _, a_torn_texts, F_torn_texts⟩ := d_torn_texts
  obtain ⟨_, _, a_is_safe, F_is_safe⟩ := d_is_safe
  obtain ⟨_, _, a_safe_writes, F_safe_writes⟩ := d_safe_writes
  obtain ⟨_, _, a_price_of, F_price_of⟩ := d_price_of
  obtain ⟨_, _, a_passed_states, F_passed_states⟩ := d_passed_states
  obtain ⟨_, _, a_check_writes, F_check_writes⟩ := d_check_writes
  obtain ⟨_, _, a_apply, F_apply⟩ := d_apply
  obtain ⟨_, _, a_cost_of, F_cost_of⟩ := d_cost_of
  obtain ⟨_, _, a__law_cell_at, F__law_cell_at⟩ := d__law_cell_at
  obtain ⟨_, _, a__law_pick, F__law_pick⟩ := d__law_pick
  obtain ⟨_, _, a__law_pieces, F__law_pieces⟩ := d__law_pieces
  obtain ⟨_, _, a__law_drawn, F__law_drawn⟩ := d__law_drawn
  obtain ⟨_, _, a__law_built, F__law_built⟩ := d__law_built
  obtain ⟨_, _, a__law_text, F__law_text⟩ := d__law_text
  obtain ⟨_, _, a__law_goal, F__law_goal⟩ := d__law_goal
  obtain ⟨_, _, a__law_orders, F__law_orders⟩ := d__law_orders
  obtain ⟨_, _, a__law_writes, F__law_writes⟩ := d__law_writes
  obtain ⟨_, _, a__law_done, F__law_done⟩ := d__law_done
  obtain ⟨_, _, a__law_readings, F__law_readings⟩ := d__law_readings
  obtain ⟨_, _, a__law_safe, F__law_safe⟩ := d__law_safe
  obtain ⟨_, _, a__law_price, F__law_price⟩ := d__law_price
  obtain ⟨_, _, a__law_file_right, F__law_file_right⟩ := d__law_file_right
  obtain ⟨_, _, a__law_writes_right, F__law_writes_right⟩ := d__law_writes_right
  obtain ⟨f_law, fd_law, a_law, F_law⟩ := d_law
  obtain ⟨_, _, _, O_letters, F_p_letters⟩ := p_letters
  obtain ⟨_, _, _, O_pieces, F_p_pieces⟩ := p_pieces
  obtain ⟨_, _, _, O_order, F_p_order⟩ := p_order
  obtain ⟨_, _, _, O_piece_price, F_p_piece_price⟩ := p_piece_price
  obtain ⟨_, _, _, O_order_price, F_p_order_price⟩ := p_order_price
  obtain ⟨_, _, _, O_torn, F_p_torn⟩ := p_torn
  obtain ⟨_, _, _, O_text, F_p_text⟩ := p_text
  obtain ⟨_, _, M_used, F_m_used⟩ := m_used
  obtain ⟨_, _, M_spare, F_m_spare⟩ := m_spare
  obtain ⟨_, _, M_len, F_m_len⟩ := m_len
  obtain ⟨_, _, M_eq, F_m_eq⟩ := m_eq
  obtain ⟨_, _, M_init, F_m_init⟩ := m_init
  have e := hfa.symm.trans (PySem.W.mg_of X G a_law)
  cases e
  refine ⟨fd_law, ?_, fun base _ _ => ?_⟩
  · obtain ⟨oc, od, kV, doc, pm, an, cdv, ct, osl, rfl, _⟩ := F_law.ex
    exact fun s v => .of_eq rfl
  let g : Gb := ⟨P, w, K, mg, base⟩
  have B : Bt g := ⟨PySem.W.mg_none_of X G b_isinstance, PySem.W.mg_none_of X G b_int, PySem.W.mg_none_of X G b_bool, PySem.W.mg_none_of X G b_str, PySem.W.mg_none_of X G b_tuple, PySem.W.mg_none_of X G b_list, PySem.W.mg_none_of X G b_len, PySem.W.mg_none_of X G b_all, PySem.W.mg_none_of X G b_range, PySem.W.mg_none_of X G b_enumerate, PySem.W.mg_none_of X G b_sum⟩
  have S : Cs g := ⟨⟨_, PySem.W.mg_of X G c_PIECE_LETTERS⟩, ⟨_, PySem.W.mg_of X G c_ORDER_BLOCKS⟩, ⟨_, PySem.W.mg_of X G c_TEXT_LETTERS⟩⟩
  have S2 : Cf g := ⟨⟨_, PySem.W.mg_of X G c_MOST_BLOCKS⟩, ⟨_, PySem.W.mg_of X G c_MOST_PRICE⟩, ⟨_, PySem.W.mg_of X G c_SETS, letters_mk r_SETS⟩⟩
  have n_is_number : Fn g 1 "is_number" R_number := Fn.mk' F_is_number (ok_number (g := g) B F_is_number) (PySem.W.mg_of X G a_is_number) (F_is_number.binds (ps := ["value"]) fun _ _ _ _ _ _ us hl => match us, hl with | [_], _ => rfl)
  have n_is_word : Fn g 1 "is_word" R_word := Fn.mk' F_is_word (ok_word (g := g) B F_is_word) (PySem.W.mg_of X G a_is_word) (F_is_word.binds (ps := ["letters", "most", "value"]) fun _ _ _ _ _ _ us hl => match us, hl with | [_, _, _], _ => rfl)
  have n_is_piece : Fn g 2 "is_piece" R_piece := Fn.mk' F_is_piece (ok_piece (g := g) S n_is_word F_is_piece) (PySem.W.mg_of X G a_is_piece) (F_is_piece.binds (ps := ["letters", "value"]) fun _ _ _ _ _ _ us hl => match us, hl with | [_, _], _ => rfl)
  have n_is_text : Fn g 2 "is_text" R_text := Fn.mk' F_is_text (ok_text (g := g) S n_is_word F_is_text) (PySem.W.mg_of X G a_is_text) (F_is_text.binds (ps := ["letters", "value"]) fun _ _ _ _ _ _ us hl => match us, hl with | [_, _], _ => rfl)
  have n_is_block : Fn g 2 "is_block" R_block := Fn.mk' F_is_block (ok_block (g := g) n_is_number F_is_block) (PySem.W.mg_of X G a_is_block) (F_is_block.binds (ps := ["blocks", "value"]) fun _ _ _ _ _ _ us hl => match us, hl with | [_, _], _ => rfl)
  have n_is_order : Fn g 3 "is_order" R_order := Fn.mk' F_is_order (ok_order (g := g) B S n_is_block F_is_order) (PySem.W.mg_of X G a_is_order) (F_is_order.binds (ps := ["blocks", "value"]) fun _ _ _ _ _ _ us hl => match us, hl with | [_, _], _ => rfl)
  have n_is_state_write : Fn g 4 "is_state_write" R_swrite := Fn.mk' F_is_state_write (ok_swrite (g := g) B n_is_piece n_is_block n_is_order F_is_state_write) (PySem.W.mg_of X G a_is_state_write) (F_is_state_write.binds (ps := ["letters", "state", "value"]) fun _ _ _ _ _ _ us hl => match us, hl with | [_, _, _], _ => rfl)
  have n_contents : Fn g 1 "contents" R_contents := Fn.mk' F_contents (ok_contents (g := g) B F_contents) (PySem.W.mg_of X G a_contents) (F_contents.binds (ps := ["empty", "items", "most"]) fun _ _ _ _ _ _ us hl => match us, hl with | [_, _, _], _ => rfl)
  have n_all_pieces : Fn g 2 "all_pieces" R_allp := Fn.mk' F_all_pieces (ok_allp (g := g) B S n_contents F_all_pieces) (PySem.W.mg_of X G a_all_pieces) (F_all_pieces.binds (ps := ["letters"]) fun _ _ _ _ _ _ us hl => match us, hl with | [_], _ => rfl)
  have n_all_orders : Fn g 2 "all_orders" R_allo := Fn.mk' F_all_orders (ok_allo (g := g) B S n_contents F_all_orders) (PySem.W.mg_of X G a_all_orders) (F_all_orders.binds (ps := ["blocks"]) fun _ _ _ _ _ _ us hl => match us, hl with | [_], _ => rfl)
  have n_state_writes : Fn g 3 "state_writes" R_swrites := Fn.mk' F_state_writes (ok_swrites (g := g) B n_all_pieces n_all_orders F_state_writes) (PySem.W.mg_of X G a_state_writes) (F_state_writes.binds (ps := ["letters", "state"]) fun _ _ _ _ _ _ us hl => match us, hl with | [_, _], _ => rfl)
  have n_state_text : Fn g 1 "state_text" R_stext := Fn.mk' F_state_text (ok_stext (g := g) F_state_text) (PySem.W.mg_of X G a_state_text) (F_state_text.binds (ps := ["state"]) fun _ _ _ _ _ _ us hl => match us, hl with | [_], _ => rfl)
  have n_old_content : Fn g 1 "old_content" R_old := Fn.mk' F_old_content (ok_old (g := g) F_old_content) (PySem.W.mg_of X G a_old_content) (F_old_content.binds (ps := ["state", "write"]) fun _ _ _ _ _ _ us hl => match us, hl with | [_, _], _ => rfl)
  have n_put_content : Fn g 1 "put_content" R_put := Fn.mk' F_put_content (ok_put (g := g) F_put_content) (PySem.W.mg_of X G a_put_content) (F_put_content.binds (ps := ["state", "write", "content"]) fun _ _ _ _ _ _ us hl => match us, hl with | [_, _, _], _ => rfl)
  have n_state_after : Fn g 2 "state_after" R_safter := Fn.mk' F_state_after (ok_safter (g := g) n_put_content F_state_after) (PySem.W.mg_of X G a_state_after) (F_state_after.binds (ps := ["state", "write"]) fun _ _ _ _ _ _ us hl => match us, hl with | [_, _], _ => rfl)
  have n_torn_states : Fn g 2 "torn_states" R_torn := Fn.mk' F_torn_states (ok_torn (g := g) B n_old_content n_put_content F_torn_states) (PySem.W.mg_of X G a_torn_states) (F_torn_states.binds (ps := ["state", "write"]) fun _ _ _ _ _ _ us hl => match us, hl with | [_, _], _ => rfl)
  have n_state_readings : Fn g 3 "state_readings" R_readings := Fn.mk' F_state_readings (ok_readings (g := g) n_state_text n_torn_states n_state_after F_state_readings) (PySem.W.mg_of X G a_state_readings) (F_state_readings.binds (ps := ["state", "write", "torn"]) fun _ _ _ _ _ _ us hl => match us, hl with | [_, _, _], _ => rfl)
  have n_is_safe_write : Fn g 4 "is_safe_write" R_issafe := Fn.mk' F_is_safe_write (ok_issafe (g := g) B n_state_text n_state_readings F_is_safe_write) (PySem.W.mg_of X G a_is_safe_write) (F_is_safe_write.binds (ps := ["state", "write", "torn", "text"]) fun _ _ _ _ _ _ us hl => match us, hl with | [_, _, _, _], _ => rfl)
  have n_is_letters : Fn g 1 "is_letters" R_isl := Fn.mk' F_is_letters (ok_isl (g := g) B S2 F_is_letters) (PySem.W.mg_of X G a_is_letters) (F_is_letters.binds (ps := ["value"]) fun _ _ _ _ _ _ us hl => match us, hl with | [_], _ => rfl)
  have n_are_pieces : Fn g 3 "are_pieces" R_arep := Fn.mk' F_are_pieces (ok_arep (g := g) B S2 n_is_piece F_are_pieces) (PySem.W.mg_of X G a_are_pieces) (F_are_pieces.binds (ps := ["letters", "value"]) fun _ _ _ _ _ _ us hl => match us, hl with | [_, _], _ => rfl)
  have n_is_price : Fn g 2 "is_price" R_price := Fn.mk' F_is_price (ok_price (g := g) S2 n_is_number F_is_price) (PySem.W.mg_of X G a_is_price) (F_is_price.binds (ps := ["value"]) fun _ _ _ _ _ _ us hl => match us, hl with | [_], _ => rfl)
  have L : Fl g C := ⟨⟨⟨pg, hd, po, sa⟩, kc, kg, kt, km, PySem.W.mg_of X G aC⟩, no_letters, no_pieces, no_order, no_piece_price, no_order_price, no_torn⟩
  have q_init := ok_finit (g := g) B L n_is_letters n_are_pieces n_is_order n_is_price F_m_init
  obtain ⟨mv, KB⟩ := F_m_init.kbinds0 (ps := ["self", "letters", "pieces", "order", "piece_price", "order_price", "torn"]) 4 ["piece_price", "order_price", "torn"] [] (fun us _ ws => us ++ ws) (by decide) (fun q hq => by cases hq) (fun r1 _ r2 => r1.append r2) (fun D doc pm an cdv ct us mv ws l1 _ l2 => match us, ws, l1, l2 with | [_, _, _, _], [_, _, _], _, _ => rfl)
  have MF : Mf g 4 3 ["piece_price", "order_price", "torn"] C "File" [] R_finit := ⟨PySem.W.mg_of X G aC, _, _, _, _, _, [], M_init, q_init, KB, fun v vs zs => by rw [List.append_nil]; rfl, fun S => .nil⟩
  have P_letters : Pr g 1 C "letters" (R_get C "_letters") := ⟨_, _, O_letters, _, ["self"], ok_get (g := g) L.kl.c L.n1 ⟨rfl, rfl, rfl, by decide +kernel, rfl, by decide +kernel, by decide +kernel⟩ rfl F_p_letters, (F_p_letters.binds (ps := ["self"]) fun _ _ _ _ _ _ us hl => match us, hl with | [_], _ => rfl)⟩
  have P_pieces : Pr g 1 C "pieces" (R_get C "_pieces") := ⟨_, _, O_pieces, _, ["self"], ok_get (g := g) L.kl.c L.n2 ⟨rfl, rfl, rfl, by decide +kernel, rfl, by decide +kernel, by decide +kernel⟩ rfl F_p_pieces, (F_p_pieces.binds (ps := ["self"]) fun _ _ _ _ _ _ us hl => match us, hl with | [_], _ => rfl)⟩
  have P_order : Pr g 1 C "order" (R_get C "_order") := ⟨_, _, O_order, _, ["self"], ok_get (g := g) L.kl.c L.n3 ⟨rfl, rfl, rfl, by decide +kernel, rfl, by decide +kernel, by decide +kernel⟩ rfl F_p_order, (F_p_order.binds (ps := ["self"]) fun _ _ _ _ _ _ us hl => match us, hl with | [_], _ => rfl)⟩
  have P_piece_price : Pr g 1 C "piece_price" (R_get C "_piece_price") := ⟨_, _, O_piece_price, _, ["self"], ok_get (g := g) L.kl.c L.n4 ⟨rfl, rfl, rfl, by decide +kernel, rfl, by decide +kernel, by decide +kernel⟩ rfl F_p_piece_price, (F_p_piece_price.binds (ps := ["self"]) fun _ _ _ _ _ _ us hl => match us, hl with | [_], _ => rfl)⟩
  have P_order_price : Pr g 1 C "order_price" (R_get C "_order_price") := ⟨_, _, O_order_price, _, ["self"], ok_get (g := g) L.kl.c L.n5 ⟨rfl, rfl, rfl, by decide +kernel, rfl, by decide +kernel, by decide +kernel⟩ rfl F_p_order_price, (F_p_order_price.binds (ps := ["self"]) fun _ _ _ _ _ _ us hl => match us, hl with | [_], _ => rfl)⟩
  have P_torn : Pr g 1 C "torn" (R_get C "_torn") := ⟨_, _, O_torn, _, ["self"], ok_get (g := g) L.kl.c L.n6 ⟨rfl, rfl, rfl, by decide +kernel, rfl, by decide +kernel, by decide +kernel⟩ rfl F_p_torn, (F_p_torn.binds (ps := ["self"]) fun _ _ _ _ _ _ us hl => match us, hl with | [_], _ => rfl)⟩
  have P : Fp g C := ⟨P_letters, P_pieces, P_order, P_piece_price, P_order_price, P_torn, MF⟩
  have M : Fm g C := ⟨⟨_, _, O_text, _, ["self"], ok_ftext (g := g) L n_state_text F_p_text, (F_p_text.binds (ps := ["self"]) fun _ _ _ _ _ _ us hl => match us, hl with | [_], _ => rfl)⟩, ⟨_, M_used, _, ["self"], ok_fused (g := g) B L F_m_used, (F_m_used.binds (ps := ["self"]) fun _ _ _ _ _ _ us hl => match us, hl with | [_], _ => rfl)⟩, ⟨_, M_spare, _, ["self"], ok_fspare (g := g) B L F_m_spare, (F_m_spare.binds (ps := ["self"]) fun _ _ _ _ _ _ us hl => match us, hl with | [_], _ => rfl)⟩, ⟨_, M_len, _, ["self"], ok_flen (g := g) B L F_m_len, (F_m_len.binds (ps := ["self"]) fun _ _ _ _ _ _ us hl => match us, hl with | [_], _ => rfl)⟩, ⟨⟨_, M_eq, _, ["self", "other"], ok_feq (g := g) B L F_m_eq, (F_m_eq.binds (ps := ["self", "other"]) fun _ _ _ _ _ _ us hl => match us, hl with | [_, _], _ => rfl)⟩, kn, ks⟩⟩
  have n_check_file : Fn g 1 "check_file" (R_cfile C) := Fn.mk' F_check_file (ok_cfile (g := g) B L F_check_file) (PySem.W.mg_of X G a_check_file) (F_check_file.binds (ps := ["file"]) fun _ _ _ _ _ _ us hl => match us, hl with | [_], _ => rfl)
  have n_check_goal : Fn g 3 "check_goal" (R_cgoal C) := Fn.mk' F_check_goal (ok_cgoal (g := g) L P n_is_text F_check_goal) (PySem.W.mg_of X G a_check_goal) (F_check_goal.binds (ps := ["file", "text"]) fun _ _ _ _ _ _ us hl => match us, hl with | [_, _], _ => rfl)
  have n_file_state : Fn g 3 "file_state" (R_fstate C) := Fn.mk' F_file_state (ok_fstate (g := g) L P F_file_state) (PySem.W.mg_of X G a_file_state) (F_file_state.binds (ps := ["file"]) fun _ _ _ _ _ _ us hl => match us, hl with | [_], _ => rfl)
  have n_file_at : Fn g 6 "file_at" (R_fat C) := Fn.mk' F_file_at (ok_fat (g := g) L P F_file_at) (PySem.W.mg_of X G a_file_at) (F_file_at.binds (ps := ["file", "state"]) fun _ _ _ _ _ _ us hl => match us, hl with | [_, _], _ => rfl)
  have n_all_writes : Fn g 4 "all_writes" (R_allw C) := Fn.mk' F_all_writes (ok_allw (g := g) L P n_check_file n_file_state n_state_writes F_all_writes) (PySem.W.mg_of X G a_all_writes) (F_all_writes.binds (ps := ["file"]) fun _ _ _ _ _ _ us hl => match us, hl with | [_], _ => rfl)
  have n_is_write : Fn g 5 "is_write" (R_iswr C) := Fn.mk' F_is_write (ok_iswr (g := g) L P n_check_file n_file_state n_is_state_write F_is_write) (PySem.W.mg_of X G a_is_write) (F_is_write.binds (ps := ["file", "value"]) fun _ _ _ _ _ _ us hl => match us, hl with | [_, _], _ => rfl)
  have n_check_write : Fn g 5 "check_write" (R_cwr C) := Fn.mk' F_check_write (ok_cwr (g := g) L P n_file_state n_is_state_write F_check_write) (PySem.W.mg_of X G a_check_write) (F_check_write.binds (ps := ["file", "write"]) fun _ _ _ _ _ _ us hl => match us, hl with | [_, _], _ => rfl)
  have n_after : Fn g 7 "after" (R_after C) := Fn.mk' F_after (ok_after (g := g) n_check_file n_check_write n_file_state n_state_after n_file_at F_after) (PySem.W.mg_of X G a_after) (F_after.binds (ps := ["file", "write"]) fun _ _ _ _ _ _ us hl => match us, hl with | [_, _], _ => rfl)
  have n_torn_texts : Fn g 6 "torn_texts" (R_ttexts C) := Fn.mk' F_torn_texts (ok_ttexts (g := g) L P n_check_file n_check_write n_file_state n_state_readings F_torn_texts) (PySem.W.mg_of X G a_torn_texts) (F_torn_texts.binds (ps := ["file", "write"]) fun _ _ _ _ _ _ us hl => match us, hl with | [_, _], _ => rfl)
  have n_is_safe : Fn g 6 "is_safe" (R_safe C) := Fn.mk' F_is_safe (ok_safe (g := g) L P n_check_file n_check_goal n_check_write n_file_state n_is_safe_write F_is_safe) (PySem.W.mg_of X G a_is_safe) (F_is_safe.binds (ps := ["file", "write", "text"]) fun _ _ _ _ _ _ us hl => match us, hl with | [_, _, _], _ => rfl)
  have n_safe_writes : Fn g 5 "safe_writes" (R_safes C) := Fn.mk' F_safe_writes (ok_safes (g := g) L P n_check_file n_check_goal n_file_state n_state_writes n_is_safe_write F_safe_writes) (PySem.W.mg_of X G a_safe_writes) (F_safe_writes.binds (ps := ["file", "text"]) fun _ _ _ _ _ _ us hl => match us, hl with | [_, _], _ => rfl)
  have n_price_of : Fn g 3 "price_of" (R_pof C) := Fn.mk' F_price_of (ok_pof (g := g) L P F_price_of) (PySem.W.mg_of X G a_price_of) (F_price_of.binds (ps := ["file", "write"]) fun _ _ _ _ _ _ us hl => match us, hl with | [_, _], _ => rfl)
  have n_passed_states : Fn g 5 "passed_states" (R_passed C) := Fn.mk' F_passed_states (ok_passed (g := g) B L P n_file_state n_is_state_write n_state_after F_passed_states) (PySem.W.mg_of X G a_passed_states) (F_passed_states.binds (ps := ["file", "writes"]) fun _ _ _ _ _ _ us hl => match us, hl with | [_, _], _ => rfl)
  have n_check_writes : Fn g 6 "check_writes" (R_cwrs C) := Fn.mk' F_check_writes (ok_cwrs (g := g) n_passed_states F_check_writes) (PySem.W.mg_of X G a_check_writes) (F_check_writes.binds (ps := ["file", "writes"]) fun _ _ _ _ _ _ us hl => match us, hl with | [_, _], _ => rfl)
  have n_apply : Fn g 7 "apply" (R_apply C) := Fn.mk' F_apply (ok_apply (g := g) n_check_file n_passed_states n_file_at F_apply) (PySem.W.mg_of X G a_apply) (F_apply.binds (ps := ["file", "writes"]) fun _ _ _ _ _ _ us hl => match us, hl with | [_, _], _ => rfl)
  have n_cost_of : Fn g 7 "cost_of" (R_cost C) := Fn.mk' F_cost_of (ok_cost (g := g) B n_check_file n_check_writes n_price_of F_cost_of) (PySem.W.mg_of X G a_cost_of) (F_cost_of.binds (ps := ["file", "writes"]) fun _ _ _ _ _ _ us hl => match us, hl with | [_, _], _ => rfl)
  have n__law_cell_at : Fn g 1 "_law_cell_at" R_cell := Fn.mk' F__law_cell_at (ok_cell (g := g) B F__law_cell_at) (PySem.W.mg_of X G a__law_cell_at) (F__law_cell_at.binds (ps := ["_law_script", "_law_k"]) fun _ _ _ _ _ _ us hl => match us, hl with | [_, _], _ => rfl)
  have n__law_pick : Fn g 2 "_law_pick" R_pick := Fn.mk' F__law_pick (ok_pick (g := g) B n__law_cell_at F__law_pick) (PySem.W.mg_of X G a__law_pick) (F__law_pick.binds (ps := ["_law_script", "_law_at", "_law_row"]) fun _ _ _ _ _ _ us hl => match us, hl with | [_, _, _], _ => rfl)
  have n__law_pieces : Fn g 1 "_law_pieces" R_lpieces := Fn.mk' F__law_pieces (ok_lpieces (g := g) F__law_pieces) (PySem.W.mg_of X G a__law_pieces) (F__law_pieces.binds (ps := ["_law_letters"]) fun _ _ _ _ _ _ us hl => match us, hl with | [_], _ => rfl)
  have n__law_drawn : Fn g 3 "_law_drawn" R_ldrawn := Fn.mk' F__law_drawn (ok_ldrawn (g := g) B n__law_cell_at n__law_pick n__law_pieces F__law_drawn) (PySem.W.mg_of X G a__law_drawn) (F__law_drawn.binds (ps := ["_law_script", "_law_at", "_law_most"]) fun _ _ _ _ _ _ us hl => match us, hl with | [_, _, _], _ => rfl)
  have n__law_built : Fn g 6 "_law_built" (R_lbuilt C) := Fn.mk' F__law_built (ok_lbuilt (g := g) P F__law_built) (PySem.W.mg_of X G a__law_built) (F__law_built.binds (ps := ["_law_parts"]) fun _ _ _ _ _ _ us hl => match us, hl with | [_], _ => rfl)
  have n__law_text : Fn g 1 "_law_text" R_ltext := Fn.mk' F__law_text (ok_ltext (g := g) F__law_text) (PySem.W.mg_of X G a__law_text) (F__law_text.binds (ps := ["_law_pieces_here", "_law_order"]) fun _ _ _ _ _ _ us hl => match us, hl with | [_, _], _ => rfl)
  have n__law_goal : Fn g 2 "_law_goal" R_lgoal := Fn.mk' F__law_goal (ok_lgoal (g := g) B n__law_cell_at n__law_text n__law_pieces F__law_goal) (PySem.W.mg_of X G a__law_goal) (F__law_goal.binds (ps := ["_law_script", "_law_at", "_law_parts"]) fun _ _ _ _ _ _ us hl => match us, hl with | [_, _, _], _ => rfl)
  have n__law_orders : Fn g 1 "_law_orders" R_lorders := Fn.mk' F__law_orders (ok_lorders (g := g) B F__law_orders) (PySem.W.mg_of X G a__law_orders) (F__law_orders.binds (ps := ["_law_many"]) fun _ _ _ _ _ _ us hl => match us, hl with | [_], _ => rfl)
  have n__law_writes : Fn g 2 "_law_writes" R_lwrites := Fn.mk' F__law_writes (ok_lwrites (g := g) B n__law_pieces n__law_orders F__law_writes) (PySem.W.mg_of X G a__law_writes) (F__law_writes.binds (ps := ["_law_parts", "_law_pieces_here", "_law_order"]) fun _ _ _ _ _ _ us hl => match us, hl with | [_, _, _], _ => rfl)
  have n__law_done : Fn g 1 "_law_done" R_ldone := Fn.mk' F__law_done (ok_ldone (g := g) F__law_done) (PySem.W.mg_of X G a__law_done) (F__law_done.binds (ps := ["_law_pieces_here", "_law_order", "_law_write"]) fun _ _ _ _ _ _ us hl => match us, hl with | [_, _, _], _ => rfl)
  have n__law_readings : Fn g 2 "_law_readings" R_lreadings := Fn.mk' F__law_readings (ok_lreadings (g := g) B n__law_text F__law_readings) (PySem.W.mg_of X G a__law_readings) (F__law_readings.binds (ps := ["_law_parts", "_law_pieces_here", "_law_order", "_law_write"]) fun _ _ _ _ _ _ us hl => match us, hl with | [_, _, _, _], _ => rfl)
  have n__law_safe : Fn g 3 "_law_safe" R_lsafe := Fn.mk' F__law_safe (ok_lsafe (g := g) B n__law_writes n__law_readings F__law_safe) (PySem.W.mg_of X G a__law_safe) (F__law_safe.binds (ps := ["_law_parts", "_law_pieces_here", "_law_order", "_law_texts"]) fun _ _ _ _ _ _ us hl => match us, hl with | [_, _, _, _], _ => rfl)
  have n__law_price : Fn g 1 "_law_price" R_lprice := Fn.mk' F__law_price (ok_lprice (g := g) F__law_price) (PySem.W.mg_of X G a__law_price) (F__law_price.binds (ps := ["_law_parts", "_law_write"]) fun _ _ _ _ _ _ us hl => match us, hl with | [_, _], _ => rfl)
  have n__law_file_right : Fn g 4 "_law_file_right" (R_lfright C) := Fn.mk' F__law_file_right (ok_lfright (g := g) B L P M n__law_text F__law_file_right) (PySem.W.mg_of X G a__law_file_right) (F__law_file_right.binds (ps := ["_law_file", "_law_parts"]) fun _ _ _ _ _ _ us hl => match us, hl with | [_, _], _ => rfl)
  have n__law_writes_right : Fn g 7 "_law_writes_right" (R_lwright C) := Fn.mk' F__law_writes_right (ok_lwright (g := g) B n__law_text n__law_writes n__law_safe n__law_pick n__law_readings n_all_writes n_safe_writes n_is_write n_torn_texts n_is_safe F__law_writes_right) (PySem.W.mg_of X G a__law_writes_right) (F__law_writes_right.binds (ps := ["_law_script", "_law_file", "_law_parts", "_law_goal_here"]) fun _ _ _ _ _ _ us hl => match us, hl with | [_, _, _, _], _ => rfl)
  exact ok_law (g := g) B M n__law_drawn n__law_built n__law_goal n__law_file_right n__law_writes_right n__law_pick n__law_writes n__law_done n__law_price n_after n_apply n_cost_of F_law
end SP

open PySem PySem.W PyProof.Rows
theorem SP.at_script {K : PySem.W.Frag} (H : L2.Hp) (a : Addr) (ns : List Int) (hl : ns.length ≤ 63) (hS : L2.SqL K H a (ns.map L2.V.int)) : PD.spR K SP.R_law [.ref a] H (fun v _ => v = .bl true) fun _ _ _ => False := by
  have go : ∀ ns : List Int, PD.RpA K H (ns.map L2.V.int) (SP.intsD ns) := by
    intro ns
    induction ns with
    | nil => exact .nil
    | cons n ns ih => exact .cons (.int n) ih
  exact ⟨H, [.frz (SP.intsD ns)], .bl true, fun _ _ e => e, .cons (.frz hS (go ns)) .nil, ⟨ns, by omega, rfl, rfl⟩, fun v S' H' _ r => by cases r; rfl⟩
set_option maxRecDepth 100000 in
set_option maxHeartbeats 0 in
theorem PySem.Challenge.cw_safepatch_k01_whole_writes_holds : PySem.Challenge.rw_safepatch_k01_whole_writes.Holds := by
  w_on; o_law; k_head; (case hw => w_witness2)
  k_fill
  refine L2.walk_of (l := PySem.Challenge.rw_safepatch_k01_whole_writes) (n := 63) (k := 8) (x := "_law_script") (CX := fun _ => L2.CX0) (sp := fun w => PD.spR _ SP.R_law) rfl (by decide) rfl ⟨rfl, by decide, by decide⟩ (fun w h Y => PySem.W.kIn_of Y) ?F (fun _ H a ns hl _ hS => SP.at_script H a ns hl hS) fun _ _ _ _ _ z => z
  case F =>
    intro w mg fa h KX G hmg
    refine' SP.fin KX G hmg ?aC ?b_isinstance ?b_int ?b_bool ?b_str ?b_tuple ?b_list ?b_len ?b_all ?b_range ?b_enumerate ?b_sum ?c_PIECE_LETTERS ?c_ORDER_BLOCKS ?c_TEXT_LETTERS ?c_MOST_BLOCKS ?c_MOST_PRICE ?c_SETS ?r_SETS ?pg ?hd ?po ?sa ?kc ?kg ?kt ?km ?kn ?ks ?no_letters ?no_pieces ?no_order ?no_piece_price ?no_order_price ?no_torn ?p_letters ?p_pieces ?p_order ?p_piece_price ?p_order_price ?p_torn ?p_text ?m_used ?m_spare ?m_len ?m_eq ?m_init ?d_is_number ?d_is_word ?d_is_piece ?d_is_text ?d_is_block ?d_is_order ?d_is_state_write ?d_contents ?d_all_pieces ?d_all_orders ?d_state_writes ?d_state_text ?d_old_content ?d_put_content ?d_state_after ?d_torn_states ?d_state_readings ?d_is_safe_write ?d_is_letters ?d_are_pieces ?d_is_price ?d_check_file ?d_check_goal ?d_file_state ?d_file_at ?d_all_writes ?d_is_write ?d_check_write ?d_after ?d_torn_texts ?d_is_safe ?d_safe_writes ?d_price_of ?d_passed_states ?d_check_writes ?d_apply ?d_cost_of ?d__law_cell_at ?d__law_pick ?d__law_pieces ?d__law_drawn ?d__law_built ?d__law_text ?d__law_goal ?d__law_orders ?d__law_writes ?d__law_done ?d__law_readings ?d__law_safe ?d__law_price ?d__law_file_right ?d__law_writes_right ?d_law
    (case aC => k_is)
    (case b_isinstance => k_is)
    (case b_int => k_is)
    (case b_bool => k_is)
    (case b_str => k_is)
    (case b_tuple => k_is)
    (case b_list => k_is)
    (case b_len => k_is)
    (case b_all => k_is)
    (case b_range => k_is)
    (case b_enumerate => k_is)
    (case b_sum => k_is)
    (case c_PIECE_LETTERS => k_is)
    (case c_ORDER_BLOCKS => k_is)
    (case c_TEXT_LETTERS => k_is)
    (case c_MOST_BLOCKS => k_is)
    (case c_MOST_PRICE => k_is)
    (case c_SETS => k_is)
    (case r_SETS => k_is)
    (case pg => k_is)
    (case hd => k_is)
    (case po => k_is)
    (case sa => k_is)
    (case kc => k_is)
    (case kg => k_is)
    (case kt => k_is)
    (case km => k_is)
    (case kn => k_is)
    (case ks => k_is)
    (case no_letters => k_is)
    (case no_pieces => k_is)
    (case no_order => k_is)
    (case no_piece_price => k_is)
    (case no_order_price => k_is)
    (case no_torn => k_is)
    (case p_letters => (refine' SP.prop_mk ?a ?e ?t ?r ?l ?c ?k; (case a => k_is); (case e => k_is); (case t => k_is); (case r => k_is); (case l => k_is); (case c => k_is); (case k => k_is)))
    (case p_pieces => (refine' SP.prop_mk ?a ?e ?t ?r ?l ?c ?k; (case a => k_is); (case e => k_is); (case t => k_is); (case r => k_is); (case l => k_is); (case c => k_is); (case k => k_is)))
    (case p_order => (refine' SP.prop_mk ?a ?e ?t ?r ?l ?c ?k; (case a => k_is); (case e => k_is); (case t => k_is); (case r => k_is); (case l => k_is); (case c => k_is); (case k => k_is)))
    (case p_piece_price => (refine' SP.prop_mk ?a ?e ?t ?r ?l ?c ?k; (case a => k_is); (case e => k_is); (case t => k_is); (case r => k_is); (case l => k_is); (case c => k_is); (case k => k_is)))
    (case p_order_price => (refine' SP.prop_mk ?a ?e ?t ?r ?l ?c ?k; (case a => k_is); (case e => k_is); (case t => k_is); (case r => k_is); (case l => k_is); (case c => k_is); (case k => k_is)))
    (case p_torn => (refine' SP.prop_mk ?a ?e ?t ?r ?l ?c ?k; (case a => k_is); (case e => k_is); (case t => k_is); (case r => k_is); (case l => k_is); (case c => k_is); (case k => k_is)))
    (case p_text => (refine' SP.prop_mk ?a ?e ?t ?r ?l ?c ?k; (case a => k_is); (case e => k_is); (case t => k_is); (case r => k_is); (case l => k_is); (case c => k_is); (case k => k_is)))
    (case m_used => (refine' SP.meth_mk ?a ?i ?l ?c ?k; (case a => k_is); (case i => k_is); (case l => k_is); (case c => k_is); (case k => k_is)))
    (case m_spare => (refine' SP.meth_mk ?a ?i ?l ?c ?k; (case a => k_is); (case i => k_is); (case l => k_is); (case c => k_is); (case k => k_is)))
    (case m_len => (refine' SP.meth_mk ?a ?i ?l ?c ?k; (case a => k_is); (case i => k_is); (case l => k_is); (case c => k_is); (case k => k_is)))
    (case m_eq => (refine' SP.meth_mk ?a ?i ?l ?c ?k; (case a => k_is); (case i => k_is); (case l => k_is); (case c => k_is); (case k => k_is)))
    (case m_init => (refine' SP.init_mk ?m ?a ?i ?kc ?l ?c ?k ?n; (case m => k_is); (case a => k_is); (case i => k_is); (case kc => k_is); (case l => k_is); (case c => k_is); (case k => k_is); (case n => k_is)))
    (case d_is_number => (refine' SP.def_mk ?a ?l ?c ?k; (case a => k_is); (case l => k_is); (case c => k_is); (case k => k_is)))
    (case d_is_word => (refine' SP.def_mk ?a ?l ?c ?k; (case a => k_is); (case l => k_is); (case c => k_is); (case k => k_is)))
    (case d_is_piece => (refine' SP.def_mk ?a ?l ?c ?k; (case a => k_is); (case l => k_is); (case c => k_is); (case k => k_is)))
    (case d_is_text => (refine' SP.def_mk ?a ?l ?c ?k; (case a => k_is); (case l => k_is); (case c => k_is); (case k => k_is)))
    (case d_is_block => (refine' SP.def_mk ?a ?l ?c ?k; (case a => k_is); (case l => k_is); (case c => k_is); (case k => k_is)))
    (case d_is_order => (refine' SP.def_mk ?a ?l ?c ?k; (case a => k_is); (case l => k_is); (case c => k_is); (case k => k_is)))
    (case d_is_state_write => (refine' SP.def_mk ?a ?l ?c ?k; (case a => k_is); (case l => k_is); (case c => k_is); (case k => k_is)))
    (case d_contents => (refine' SP.def_mk ?a ?l ?c ?k; (case a => k_is); (case l => k_is); (case c => k_is); (case k => k_is)))
    (case d_all_pieces => (refine' SP.def_mk ?a ?l ?c ?k; (case a => k_is); (case l => k_is); (case c => k_is); (case k => k_is)))
    (case d_all_orders => (refine' SP.def_mk ?a ?l ?c ?k; (case a => k_is); (case l => k_is); (case c => k_is); (case k => k_is)))
    (case d_state_writes => (refine' SP.def_mk ?a ?l ?c ?k; (case a => k_is); (case l => k_is); (case c => k_is); (case k => k_is)))
    (case d_state_text => (refine' SP.def_mk ?a ?l ?c ?k; (case a => k_is); (case l => k_is); (case c => k_is); (case k => k_is)))
    (case d_old_content => (refine' SP.def_mk ?a ?l ?c ?k; (case a => k_is); (case l => k_is); (case c => k_is); (case k => k_is)))
    (case d_put_content => (refine' SP.def_mk ?a ?l ?c ?k; (case a => k_is); (case l => k_is); (case c => k_is); (case k => k_is)))
    (case d_state_after => (refine' SP.def_mk ?a ?l ?c ?k; (case a => k_is); (case l => k_is); (case c => k_is); (case k => k_is)))
    (case d_torn_states => (refine' SP.def_mk ?a ?l ?c ?k; (case a => k_is); (case l => k_is); (case c => k_is); (case k => k_is)))
    (case d_state_readings => (refine' SP.def_mk ?a ?l ?c ?k; (case a => k_is); (case l => k_is); (case c => k_is); (case k => k_is)))
    (case d_is_safe_write => (refine' SP.def_mk ?a ?l ?c ?k; (case a => k_is); (case l => k_is); (case c => k_is); (case k => k_is)))
    (case d_is_letters => (refine' SP.def_mk ?a ?l ?c ?k; (case a => k_is); (case l => k_is); (case c => k_is); (case k => k_is)))
    (case d_are_pieces => (refine' SP.def_mk ?a ?l ?c ?k; (case a => k_is); (case l => k_is); (case c => k_is); (case k => k_is)))
    (case d_is_price => (refine' SP.def_mk ?a ?l ?c ?k; (case a => k_is); (case l => k_is); (case c => k_is); (case k => k_is)))
    (case d_check_file => (refine' SP.def_mk ?a ?l ?c ?k; (case a => k_is); (case l => k_is); (case c => k_is); (case k => k_is)))
    (case d_check_goal => (refine' SP.def_mk ?a ?l ?c ?k; (case a => k_is); (case l => k_is); (case c => k_is); (case k => k_is)))
    (case d_file_state => (refine' SP.def_mk ?a ?l ?c ?k; (case a => k_is); (case l => k_is); (case c => k_is); (case k => k_is)))
    (case d_file_at => (refine' SP.def_mk ?a ?l ?c ?k; (case a => k_is); (case l => k_is); (case c => k_is); (case k => k_is)))
    (case d_all_writes => (refine' SP.def_mk ?a ?l ?c ?k; (case a => k_is); (case l => k_is); (case c => k_is); (case k => k_is)))
    (case d_is_write => (refine' SP.def_mk ?a ?l ?c ?k; (case a => k_is); (case l => k_is); (case c => k_is); (case k => k_is)))
    (case d_check_write => (refine' SP.def_mk ?a ?l ?c ?k; (case a => k_is); (case l => k_is); (case c => k_is); (case k => k_is)))
    (case d_after => (refine' SP.def_mk ?a ?l ?c ?k; (case a => k_is); (case l => k_is); (case c => k_is); (case k => k_is)))
    (case d_torn_texts => (refine' SP.def_mk ?a ?l ?c ?k; (case a => k_is); (case l => k_is); (case c => k_is); (case k => k_is)))
    (case d_is_safe => (refine' SP.def_mk ?a ?l ?c ?k; (case a => k_is); (case l => k_is); (case c => k_is); (case k => k_is)))
    (case d_safe_writes => (refine' SP.def_mk ?a ?l ?c ?k; (case a => k_is); (case l => k_is); (case c => k_is); (case k => k_is)))
    (case d_price_of => (refine' SP.def_mk ?a ?l ?c ?k; (case a => k_is); (case l => k_is); (case c => k_is); (case k => k_is)))
    (case d_passed_states => (refine' SP.def_mk ?a ?l ?c ?k; (case a => k_is); (case l => k_is); (case c => k_is); (case k => k_is)))
    (case d_check_writes => (refine' SP.def_mk ?a ?l ?c ?k; (case a => k_is); (case l => k_is); (case c => k_is); (case k => k_is)))
    (case d_apply => (refine' SP.def_mk ?a ?l ?c ?k; (case a => k_is); (case l => k_is); (case c => k_is); (case k => k_is)))
    (case d_cost_of => (refine' SP.def_mk ?a ?l ?c ?k; (case a => k_is); (case l => k_is); (case c => k_is); (case k => k_is)))
    (case d__law_cell_at => (refine' SP.def_mk ?a ?l ?c ?k; (case a => k_is); (case l => k_is); (case c => k_is); (case k => k_is)))
    (case d__law_pick => (refine' SP.def_mk ?a ?l ?c ?k; (case a => k_is); (case l => k_is); (case c => k_is); (case k => k_is)))
    (case d__law_pieces => (refine' SP.def_mk ?a ?l ?c ?k; (case a => k_is); (case l => k_is); (case c => k_is); (case k => k_is)))
    (case d__law_drawn => (refine' SP.def_mk ?a ?l ?c ?k; (case a => k_is); (case l => k_is); (case c => k_is); (case k => k_is)))
    (case d__law_built => (refine' SP.def_mk ?a ?l ?c ?k; (case a => k_is); (case l => k_is); (case c => k_is); (case k => k_is)))
    (case d__law_text => (refine' SP.def_mk ?a ?l ?c ?k; (case a => k_is); (case l => k_is); (case c => k_is); (case k => k_is)))
    (case d__law_goal => (refine' SP.def_mk ?a ?l ?c ?k; (case a => k_is); (case l => k_is); (case c => k_is); (case k => k_is)))
    (case d__law_orders => (refine' SP.def_mk ?a ?l ?c ?k; (case a => k_is); (case l => k_is); (case c => k_is); (case k => k_is)))
    (case d__law_writes => (refine' SP.def_mk ?a ?l ?c ?k; (case a => k_is); (case l => k_is); (case c => k_is); (case k => k_is)))
    (case d__law_done => (refine' SP.def_mk ?a ?l ?c ?k; (case a => k_is); (case l => k_is); (case c => k_is); (case k => k_is)))
    (case d__law_readings => (refine' SP.def_mk ?a ?l ?c ?k; (case a => k_is); (case l => k_is); (case c => k_is); (case k => k_is)))
    (case d__law_safe => (refine' SP.def_mk ?a ?l ?c ?k; (case a => k_is); (case l => k_is); (case c => k_is); (case k => k_is)))
    (case d__law_price => (refine' SP.def_mk ?a ?l ?c ?k; (case a => k_is); (case l => k_is); (case c => k_is); (case k => k_is)))
    (case d__law_file_right => (refine' SP.def_mk ?a ?l ?c ?k; (case a => k_is); (case l => k_is); (case c => k_is); (case k => k_is)))
    (case d__law_writes_right => (refine' SP.def_mk ?a ?l ?c ?k; (case a => k_is); (case l => k_is); (case c => k_is); (case k => k_is)))
    (case d_law => (refine' SP.def_mk ?a ?l ?c ?k; (case a => k_is); (case l => k_is); (case c => k_is); (case k => k_is)))
#print axioms PySem.Challenge.cw_safepatch_k01_whole_writes_holds
