import PyProof.Rows.All
import Wide.All
import OpenK.AllK
import Wide.FinOn
import HandS.Call
import HandS.List
import HandS.Comp
import HandS.Text
import HandS.Iter
import KE.KDictKeyed
import HandS.IsInst
import HandS.TupAny
import HandS.Style
import HandS.Words
import HandS.Conv
import HandS.Exc
import PyProof.Draws
import PyProof.ListStr
import PySem.Challenge.RW_safepatch_k35_whole_texts
import KE.KStateDown
import KE.KNestM
import KE.KSuper
import HandS.ExcField
import HandS.Head0
import HandS.Head1
import HandS.Head2
import KE.KeyNested
import PyProof.DictMoreH
import PyProof.TupleKey
import PyProof.DictKind
import KE.KDictPairs
import KE.KDictCopyH
import PyProof.DictRoadsH
import HandS.Dict
import HandS.DictComp
import KE.KDictWalk
import HandS.Property
import HandS.MakeKwOnly
import HandS.Defaults
import KE.KDictList
import PyProof.DictTable
import PyProof.ZipIter
import KE.KDictZip
import HandS.Replace
import HandS.WordsExc
import HandS.ExcOwn
import HandS.TryOnly
import HandS.ExcIs
import KE.KExcIs
import HandS.SetFor
import HandS.ReplaceList
import HandS.Lambda
import KE.KEqDict
import HandS.Deep
import KE.SortData
import HandS.SortRule
import KE.KExcSuper
import HandS.ExcInit
import HandS.Nested
import HandS.FStr
import KE.KIsAll
import HandS.OwnEq
import HandS.TupMul
import HandS.Flow
import HandS.ReplaceLit
import PyProof.Rows.StrSplitJoin
set_option Elab.async false
set_option linter.all false
set_option maxRecDepth 100000
set_option maxHeartbeats 4000000
/-! Data, without the heap: what stands for a value (Rp), the slots of a frame as data (En), what a reading gives as data (EvD ..). -/
namespace PD
open PySem PySem.Spec PyProof.Rows L2

/-! ### heaps -/
def Ex (H H' : Hp) : Prop := ∀ a o, H a = some o → H' a = some o
theorem Ex.rf (H : Hp) : Ex H H := fun _ _ h => h
theorem Ex.tr {H H1 H2 : Hp} (a : Ex H H1) (b : Ex H1 H2) : Ex H H2 := fun x o h => b x o (a x o h)
theorem Ex.new {H : Hp} {p : Addr} {o : HO} (h : H p = none) : Ex H (upd H p o) := fun a u e => by
  rw [upd_ne (ne_of_none e h)]
  exact e
theorem Ex.off {S H : Hp} {p : Addr} {o : HO} (e : Ex S H) (h : S p = none) : Ex S (upd H p o) := fun a u q => by
  rw [upd_ne (ne_of_none q h)]
  exact e a u q
theorem Ex.free {S H : Hp} (e : Ex S H) {p : Addr} (h : H p = none) : S p = none := by
  cases q : S p with
  | none => rfl
  | some o =>
    rw [e p o q] at h
    cases h
theorem ex_rd {H H' : Hp} {a : Addr} {u : HO} (e : Ex H H') (h : Rd H a u) : Rd H' a u := by
  rcases h with h | ⟨o, h⟩
  · exact Or.inl (e a _ h)
  · exact Or.inr ⟨o, e a _ h⟩
theorem ex_l {K : PySem.W.Frag} {H H' : Hp} {a : Addr} {xs : List V} (e : Ex H H') (h : SqL K H a xs) : SqL K H' a xs := by
  rcases h with h | h
  · exact Or.inl (ex_rd e h)
  · exact Or.inr h
theorem ex_t {K : PySem.W.Frag} {H H' : Hp} {a : Addr} {xs : List V} (e : Ex H H') (h : SqT K H a xs) : SqT K H' a xs := by
  rcases h with h | h
  · exact Or.inl (ex_rd e h)
  · exact Or.inr h

/-- from the still part S of the heap H to the still part S' of H': both grow, what is new in S' was free in H -/
structure Go (S H S' H' : Hp) : Prop where
  s : Ex S S'
  h : Ex H H'
  sub : Ex S' H'
  new : ∀ p o, S' p = some o → S p = none → H p = none
theorem Go.rf {S H : Hp} (e : Ex S H) : Go S H S H := ⟨Ex.rf S, Ex.rf H, e, fun p o a b => by rw [b] at a; cases a⟩
theorem Go.tr {S H S1 H1 S2 H2 : Hp} (a : Go S H S1 H1) (b : Go S1 H1 S2 H2) : Go S H S2 H2 :=
  ⟨a.s.tr b.s, a.h.tr b.h, b.sub, fun p o q n => by
    cases e : S1 p with
    | none => exact a.h.free (b.new p o q e)
    | some u => exact a.new p u e n⟩
/-- a new still object -/
theorem Go.up {S H : Hp} {p : Addr} {o : HO} (e : Ex S H) (n : H p = none) : Go S H (upd S p o) (upd H p o) :=
  ⟨Ex.new (e.free n), Ex.new n, fun a u q => by
    by_cases h : a = p
    · subst h
      rw [upd_same] at q ⊢
      exact q
    · rw [upd_ne h] at q ⊢
      exact e a u q, fun a u q m => by
    by_cases h : a = p
    · subst h; exact n
    · rw [upd_ne h, m] at q
      cases q⟩
/-- the still part stays, the heap grows -/
theorem Go.side {S H H' : Hp} (e : Ex S H) (x : Ex H H') : Go S H S H' := ⟨Ex.rf S, x, e.tr x, fun p o a b => by rw [b] at a; cases a⟩

/-! ### data -/
inductive DV where
  | non | bl (b : Bool) | int (i : Int) | str (x : Str)
  | tup (xs : List DV) | lst (xs : List DV) | obj (C : Addr) (fs : List (Str × DV)) | frz (xs : List DV)
  | dct (W : World) (ks vs : List DV) | tks (n : Nat) (zs : List Str) | adr (a : Addr)
/-- a list of texts whose identities are all from n on -/
def Young (n : Nat) (o : Obj) (zs : List Str) : Prop := o.cls = .type "list" ∧ ∃ (its : Array Value) (k : Nat), o.data = .seq its k ∧ its.size = zs.length ∧ ∀ (i : Nat) (z : Str), zs[i]? = some z → ∃ tx : Tok, its[i]? = some (Value.str z tx) ∧ n ≤ tx

/-- the entries of a dict by its object -/
def DxO (p : Addr) (es : List DictEntry) : HO := .ext fun h => es.length ≤ sizeLine ∧ (p == sysModules) = false ∧ ∃ o a ep, h.get? p = some o ∧ o.ExactDict ∧ o.data = .dict a ep ∧ a.toList = es
mutual
/-- a key as the hash sees it -/
def DV.nk : DV → NestedKey
  | .bl b => .num (if b = true then 1 else 0) | .int i => .num i | .str x => .text x | .tup xs => .tup (nkAll xs) | _ => .none
def nkAll : List DV → List NestedKey
  | [] => []
  | d :: ds => d.nk :: nkAll ds
end
mutual
/-- what a key may be (below a tuple) -/
def DV.isKey : DV → Bool
  | .non => true | .bl _ => true | .int _ => true | .str _ => true | .tup xs => keyAll xs | _ => false
def keyAll : List DV → Bool
  | [] => true
  | d :: ds => d.isKey && keyAll ds
end
def DV.isKeyD (d : DV) : Bool := d.isKey && decide (d.nk.depth ≤ 8)
mutual
inductive Rp (K : PySem.W.Frag) (S : Hp) : V → DV → Prop
  | non : Rp K S .non .non
  | bl (b : Bool) : Rp K S (.bl b) (.bl b)
  | int (i : Int) : Rp K S (.int i) (.int i)
  | str (x : Str) : Rp K S (.str x) (.str x)
  | tup {a : Addr} {xs : List V} {ds : List DV} : SqT K S a xs → RpA K S xs ds → Rp K S (.ref a) (.tup ds)
  | lst {a : Addr} {xs : List V} {ds : List DV} : Rd S a (.lst xs) → RpA K S xs ds → Rp K S (.ref a) (.lst ds)
  | obj {a C dx : Addr} {fs : List (Str × V)} {gs : List (Str × DV)} : S a = some (.ins C dx fs) → RpF K S fs gs → Rp K S (.ref a) (.obj C gs)
  | frz {a : Addr} {xs : List V} {ds : List DV} : SqL K S a xs → RpA K S xs ds → Rp K S (.ref a) (.frz ds)
  | dct {a : Addr} {od : Obj} {W : World} {es : List DictEntry} {ks vs : List DV} : S a = some (.frz od (DxO a es)) → RpD K S W es ks vs → (nkAll ks).Nodup → Rp K S (.ref a) (.dct W ks vs)
  | tks {a : Addr} {o : Obj} {n : Nat} {zs : List Str} : S a = some (.frz o (.lst (zs.map V.str))) → Young n o zs → Rp K S (.ref a) (.tks n zs)
  | adr (a : Addr) : Rp K S (.ref a) (.adr a)
inductive RpA (K : PySem.W.Frag) (S : Hp) : List V → List DV → Prop
  | nil : RpA K S [] []
  | cons {v : V} {vs : List V} {d : DV} {ds : List DV} : Rp K S v d → RpA K S vs ds → RpA K S (v :: vs) (d :: ds)
inductive RpF (K : PySem.W.Frag) (S : Hp) : List (Str × V) → List (Str × DV) → Prop
  | nil : RpF K S [] []
  | cons {n : Str} {v : V} {fs : List (Str × V)} {d : DV} {gs : List (Str × DV)} : Rp K S v d → RpF K S fs gs → RpF K S ((n, v) :: fs) ((n, d) :: gs)
/-- entries against keys and values -/
inductive RpD (K : PySem.W.Frag) (S : Hp) : World → List DictEntry → List DV → List DV → Prop
  | nil {W : World} : RpD K S W [] [] []
  | cons {W : World} {e : DictEntry} {es : List DictEntry} {kv vv : V} {kd vd : DV} {ks vs : List DV} : RelV kv e.key → e.hash = kd.nk.hash W → kd.isKeyD = true → Rp K S kv kd → RelV vv e.val → Rp K S vv vd → RpD K S W es ks vs → RpD K S W (e :: es) (kd :: ks) (vd :: vs)
end

section
variable {K : PySem.W.Frag} {S S' H H' : Hp}
mutual
theorem Rp.up (e : Ex S S') : ∀ {v : V} {d : DV}, Rp K S v d → Rp K S' v d
  | _, _, .non => .non
  | _, _, .bl b => .bl b
  | _, _, .int i => .int i
  | _, _, .str x => .str x
  | _, _, .tup h r => .tup (ex_t e h) (RpA.up e r)
  | _, _, .lst h r => .lst (ex_rd e h) (RpA.up e r)
  | _, _, .obj h r => .obj (e _ _ h) (RpF.up e r)
  | _, _, .frz h r => .frz (ex_l e h) (RpA.up e r)
  | _, _, .dct h r b => .dct (e _ _ h) (RpD.up e r) b
  | _, _, .tks h y => .tks (e _ _ h) y
  | _, _, .adr a => .adr a
theorem RpA.up (e : Ex S S') : ∀ {vs : List V} {ds : List DV}, RpA K S vs ds → RpA K S' vs ds
  | _, _, .nil => .nil
  | _, _, .cons h r => .cons (Rp.up e h) (RpA.up e r)
theorem RpF.up (e : Ex S S') : ∀ {fs : List (Str × V)} {gs : List (Str × DV)}, RpF K S fs gs → RpF K S' fs gs
  | _, _, .nil => .nil
  | _, _, .cons h r => .cons (Rp.up e h) (RpF.up e r)
theorem RpD.up (e : Ex S S') : ∀ {W : World} {es : List DictEntry} {ks vs : List DV}, RpD K S W es ks vs → RpD K S' W es ks vs
  | _, _, _, _, .nil => .nil
  | _, _, _, _, .cons a b c d f g r => .cons a b c (Rp.up e d) f (Rp.up e g) (RpD.up e r)
end
theorem RpA.len : ∀ {vs : List V} {ds : List DV}, RpA K S vs ds → vs.length = ds.length
  | _, _, .nil => rfl
  | _, _, .cons _ r => congrArg (· + 1) (RpA.len r)
theorem RpA.get : ∀ {vs : List V} {ds : List DV} {i : Nat} {d : DV}, RpA K S vs ds → ds[i]? = some d → ∃ v, vs[i]? = some v ∧ Rp K S v d
  | _, _, _, _, .nil, e => by simp at e
  | _, _, 0, _, .cons h _, e => by
    simp at e
    subst e
    exact ⟨_, rfl, h⟩
  | _, _, i + 1, d, .cons _ r, e => by
    obtain ⟨v, a, b⟩ := RpA.get (i := i) (d := d) r (by simpa using e)
    exact ⟨v, by simpa using a, b⟩
theorem RpA.getV : ∀ {vs : List V} {ds : List DV} {i : Nat} {v : V} {d : DV}, RpA K S vs ds → vs[i]? = some v → ds[i]? = some d → Rp K S v d := fun r a b => by
  obtain ⟨u, e, q⟩ := r.get b
  rw [e] at a
  cases a
  exact q
theorem RpA.append : ∀ {vs us : List V} {ds es : List DV}, RpA K S vs ds → RpA K S us es → RpA K S (vs ++ us) (ds ++ es)
  | _, _, _, _, .nil, r => r
  | _, _, _, _, .cons h q, r => .cons h (RpA.append q r)
theorem RpA.snoc {vs : List V} {ds : List DV} {v : V} {d : DV} (r : RpA K S vs ds) (h : Rp K S v d) : RpA K S (vs ++ [v]) (ds ++ [d]) := r.append (.cons h .nil)
theorem RpA.take : ∀ {vs : List V} {ds : List DV} (n : Nat), RpA K S vs ds → RpA K S (vs.take n) (ds.take n)
  | _, _, 0, _ => .nil
  | _, _, _ + 1, .nil => .nil
  | _, _, n + 1, .cons h r => .cons h (RpA.take n r)
theorem RpA.drop : ∀ {vs : List V} {ds : List DV} (n : Nat), RpA K S vs ds → RpA K S (vs.drop n) (ds.drop n)
  | _, _, 0, r => r
  | _, _, _ + 1, .nil => .nil
  | _, _, n + 1, .cons _ r => RpA.drop n r
theorem RpF.look : ∀ {fs : List (Str × V)} {gs : List (Str × DV)} {n : Str} {d : DV}, RpF K S fs gs → gs.lookup n = some d → ∃ v, fs.lookup n = some v ∧ Rp K S v d
  | _, _, _, _, .nil, e => by simp at e
  | _, _, n, d, .cons (n := m) h r, e => by
    by_cases q : n = m
    · subst q
      rw [List.lookup_cons_self] at e
      cases e
      exact ⟨_, List.lookup_cons_self, h⟩
    · have z : (n == m) = false := by simpa using q
      rw [List.lookup_cons, z] at e
      obtain ⟨v, a, b⟩ := RpF.look r e
      refine ⟨v, ?_, b⟩
      rw [List.lookup_cons, z]
      exact a
theorem RpF.no : ∀ {fs : List (Str × V)} {gs : List (Str × DV)} {n : Str}, RpF K S fs gs → gs.lookup n = none → fs.lookup n = none
  | _, _, _, .nil, _ => rfl
  | _, _, n, .cons (n := m) h r, e => by
    by_cases q : n = m
    · subst q
      rw [List.lookup_cons_self] at e
      cases e
    · have z : (n == m) = false := by simpa using q
      rw [List.lookup_cons, z] at e ⊢
      exact RpF.no r e
end

/-! ### the slots of a frame -/
/-- nothing known; a value that stands for d; a thing of one's own (at an address that nothing else names) -/
inductive EV where
  | un | val (d : DV) | ownD (d : DV) | exo (a dd : Addr) (gs : List (Str × DV))
abbrev EV.own (ds : List DV) : EV := .ownD (.lst ds)
abbrev Rho := List EV
/-- what stands at p, of one's own -/
inductive OwR (K : PySem.W.Frag) (S : Hp) (p : Addr) : HO → DV → Prop
  | lst {vs : List V} {ds : List DV} : RpA K S vs ds → OwR K S p (.lst vs) (.lst ds)
theorem OwR.up {K : PySem.W.Frag} {S S' : Hp} {p : Addr} {o : HO} {d : DV} (e : Ex S S') (h : OwR K S p o d) : OwR K S' p o d := by
  cases h with
  | lst r => exact .lst (r.up e)
theorem OwR.rp {K : PySem.W.Frag} {S S' : Hp} {p : Addr} {o : HO} {d : DV} (e : Ex S S') (h : OwR K S p o d) (hp : S' p = some o) : Rp K S' (.ref p) d := by
  cases h with
  | lst r => exact .lst (.inl hp) (r.up e)
def EnE (K : PySem.W.Frag) (H0 S H : Hp) : Option V → EV → Prop
  | _, .un => True
  | v, .val d => ∃ u, v = some u ∧ Rp K S u d
  | v, .exo a dd gs => v = some (.ref a) ∧ ∃ fs, S dd = some (.xd fs) ∧ RpF K S fs gs
  | v, .ownD d => ∃ p o, v = some (.ref p) ∧ H0 p = none ∧ S p = none ∧ H p = some o ∧ OwR K S p o d
structure En (K : PySem.W.Frag) (H0 S H : Hp) (σ : L2.St) (ρ : Rho) : Prop where
  len : σ.length = ρ.length
  at_ : ∀ (i : Nat) (v : Option V) (e : EV), σ[i]? = some v → ρ[i]? = some e → EnE K H0 S H v e
  sep : ∀ (i j : Nat) (p q : Addr) (ds es : DV), i ≠ j → ρ[i]? = some (.ownD ds) → ρ[j]? = some (.ownD es) → σ[i]? = some (some (.ref p)) → σ[j]? = some (some (.ref q)) → p ≠ q
section
variable {K : PySem.W.Frag} {H0 S S' H H' : Hp} {σ : L2.St} {ρ : Rho}
theorem EnE.go (g : Go S H S' H') : ∀ {v : Option V} {e : EV}, EnE K H0 S H v e → EnE K H0 S' H' v e
  | _, .un, _ => trivial
  | _, .exo _ _ _, ⟨a, fs, b, c⟩ => ⟨a, fs, g.s _ _ b, c.up g.s⟩
  | _, .val _, ⟨u, a, r⟩ => ⟨u, a, r.up g.s⟩
  | _, .ownD _, ⟨p, o, a, n, m, h, r⟩ => by
    have z : S' p = none := by
      cases q : S' p with
      | none => rfl
      | some u =>
        have z := g.new p u q m
        rw [h] at z
        cases z
    exact ⟨p, o, a, n, z, g.h p _ h, r.up g.s⟩
theorem En.go (g : Go S H S' H') (n : En K H0 S H σ ρ) : En K H0 S' H' σ ρ := ⟨n.len, fun i v e a b => (n.at_ i v e a b).go g, n.sep⟩
theorem En.val {i : Nat} {d : DV} (n : En K H0 S H σ ρ) (h : ρ[i]? = some (.val d)) : ∃ v, σ[i]? = some (some v) ∧ Rp K S v d := by
  have hi : i < σ.length := by
    rw [n.len]
    exact (List.getElem?_eq_some_iff.mp h).1
  obtain ⟨u, a, r⟩ := n.at_ i σ[i] _ (List.getElem?_eq_getElem hi) h
  exact ⟨u, by rw [List.getElem?_eq_getElem hi, a], r⟩
theorem En.ownD {i : Nat} {d : DV} (n : En K H0 S H σ ρ) (h : ρ[i]? = some (.ownD d)) : ∃ p o, σ[i]? = some (some (.ref p)) ∧ H0 p = none ∧ S p = none ∧ H p = some o ∧ OwR K S p o d := by
  have hi : i < σ.length := by
    rw [n.len]
    exact (List.getElem?_eq_some_iff.mp h).1
  obtain ⟨p, o, a, r⟩ := n.at_ i σ[i] _ (List.getElem?_eq_getElem hi) h
  exact ⟨p, o, by rw [List.getElem?_eq_getElem hi, a], r⟩
theorem En.own {i : Nat} {ds : List DV} (n : En K H0 S H σ ρ) (h : ρ[i]? = some (.own ds)) : ∃ p vs, σ[i]? = some (some (.ref p)) ∧ H0 p = none ∧ S p = none ∧ H p = some (.lst vs) ∧ RpA K S vs ds := by
  obtain ⟨p, o, a, b, c, e, r⟩ := n.ownD h
  cases r with
  | lst r => exact ⟨p, _, a, b, c, e, r⟩
theorem set_get {α : Type} {l : List α} {i j : Nat} {x y : α} (h : (l.set i x)[j]? = some y) : (i = j ∧ y = x) ∨ (i ≠ j ∧ l[j]? = some y) := by
  by_cases e : i = j
  · subst e
    have hl : i < l.length := by
      have := (List.getElem?_eq_some_iff.mp h).1
      rwa [List.length_set] at this
    rw [List.getElem?_set_self hl] at h
    exact .inl ⟨rfl, (Option.some.inj h).symm⟩
  · rw [List.getElem?_set_ne e] at h
    exact .inr ⟨e, h⟩
theorem En.set {i : Nat} {v : V} {d : DV} (n : En K H0 S H σ ρ) (r : Rp K S v d) : En K H0 S H (σ.set i (some v)) (ρ.set i (.val d)) where
  len := by rw [List.length_set, List.length_set]; exact n.len
  at_ := fun j u e a b => by
    rcases set_get a with ⟨rfl, rfl⟩ | ⟨hj, a⟩
    · rcases set_get b with ⟨_, rfl⟩ | ⟨hj, _⟩
      · exact ⟨v, rfl, r⟩
      · exact absurd rfl hj
    · rcases set_get b with ⟨h, _⟩ | ⟨_, b⟩
      · exact absurd h hj
      · exact n.at_ j u e a b
  sep := fun j k p q ds es hjk a b c e => by
    rcases set_get a with ⟨_, z⟩ | ⟨hj, a⟩
    · cases z
    · rcases set_get b with ⟨_, z⟩ | ⟨hk, b⟩
      · cases z
      · rw [List.getElem?_set_ne hj] at c
        rw [List.getElem?_set_ne hk] at e
        exact n.sep j k p q ds es hjk a b c e
/-- a slot is emptied, or forgotten -/
theorem En.wipe1 {i : Nat} {x : Option V} (n : En K H0 S H σ ρ) : En K H0 S H (σ.set i x) (ρ.set i .un) where
  len := by rw [List.length_set, List.length_set]; exact n.len
  at_ := fun j u e a b => by
    rcases set_get b with ⟨_, rfl⟩ | ⟨hj, b⟩
    · trivial
    · rw [List.getElem?_set_ne hj] at a
      exact n.at_ j u e a b
  sep := fun j k p q ds es hjk a b c e => by
    rcases set_get a with ⟨_, z⟩ | ⟨hj, a⟩
    · cases z
    · rcases set_get b with ⟨_, z⟩ | ⟨hk, b⟩
      · cases z
      · rw [List.getElem?_set_ne hj] at c
        rw [List.getElem?_set_ne hk] at e
        exact n.sep j k p q ds es hjk a b c e
def wipeR (ρ : Rho) : List Nat → Rho
  | [] => ρ
  | v :: vs => (wipeR ρ vs).set v .un
theorem En.wipe (n : En K H0 S H σ ρ) : ∀ vs : List Nat, En K H0 S H (wipe σ vs) (wipeR ρ vs)
  | [] => n
  | _ :: vs => (En.wipe n vs).wipe1
/-- a new thing of one's own -/
theorem En.setOwnD {i : Nat} {p : Addr} {o : HO} {d : DV} (n : En K H0 S H σ ρ) (h0 : H0 p = none) (hs : S p = none) (hh : H p = some o) (r : OwR K S p o d)
    (hp : ∀ j : Nat, j ≠ i → ∀ e, ρ[j]? = some (.ownD e) → σ[j]? ≠ some (some (.ref p))) : En K H0 S H (σ.set i (some (.ref p))) (ρ.set i (.ownD d)) where
  len := by rw [List.length_set, List.length_set]; exact n.len
  at_ := fun j u e a b => by
    rcases set_get a with ⟨rfl, rfl⟩ | ⟨hj, a⟩
    · rcases set_get b with ⟨_, rfl⟩ | ⟨hj, _⟩
      · exact ⟨p, o, rfl, h0, hs, hh, r⟩
      · exact absurd rfl hj
    · rcases set_get b with ⟨h, _⟩ | ⟨_, b⟩
      · exact absurd h hj
      · exact n.at_ j u e a b
  sep := fun j k x y ds' es hjk a b c e => by
    rcases set_get c with ⟨h1, z1⟩ | ⟨hj, c⟩
    · rcases set_get e with ⟨h2, z2⟩ | ⟨hk, e⟩
      · exact absurd (h1.symm.trans h2) hjk
      · rw [List.getElem?_set_ne hk] at b
        cases z1
        exact fun z => hp k (fun w => hk w.symm) es b (by rw [e, z])
    · rw [List.getElem?_set_ne hj] at a
      rcases set_get e with ⟨h2, z2⟩ | ⟨hk, e⟩
      · cases z2
        exact fun z => hp j (fun w => hj w.symm) ds' a (by rw [c, z])
      · rw [List.getElem?_set_ne hk] at b
        exact n.sep j k x y ds' es hjk a b c e
theorem En.setOwn {i : Nat} {p : Addr} {vs : List V} {ds : List DV} (n : En K H0 S H σ ρ) (h0 : H0 p = none) (hs : S p = none) (hh : H p = some (.lst vs)) (r : RpA K S vs ds)
    (hp : ∀ j : Nat, j ≠ i → ∀ e, ρ[j]? = some (.ownD e) → σ[j]? ≠ some (some (.ref p))) : En K H0 S H (σ.set i (some (.ref p))) (ρ.set i (.own ds)) := n.setOwnD h0 hs hh (.lst r) hp
/-- what stands at p (slot i) is changed -/
theorem En.chgD {i : Nat} {p : Addr} {o : HO} {d d' : DV} (n : En K H0 S H σ ρ) (hi : ρ[i]? = some (.ownD d)) (hp : σ[i]? = some (some (.ref p))) (hs : S p = none) (r : OwR K S p o d') : En K H0 S (upd H p o) σ (ρ.set i (.ownD d')) where
  len := by rw [List.length_set]; exact n.len
  at_ := fun j u e a b => by
    rcases set_get b with ⟨rfl, rfl⟩ | ⟨hj, b⟩
    · rw [hp] at a
      cases a
      obtain ⟨p', o', e1, h0, h1, _⟩ := n.at_ i _ _ hp hi
      cases e1
      exact ⟨p, o, rfl, h0, hs, upd_same, r⟩
    · have q := n.at_ j u e a b
      cases e with
      | un => trivial
      | exo _ _ _ => exact q
      | val d => exact q
      | ownD ds' =>
        obtain ⟨p', o', e1, h0, h1, h2, r2⟩ := q
        subst e1
        have ne : p' ≠ p := fun z => n.sep i j p p' d ds' hj hi b hp a z.symm
        exact ⟨p', o', rfl, h0, h1, by rw [upd_ne ne]; exact h2, r2⟩
  sep := fun j k x y ds' es' hjk a b c e => by
    have f : ∀ {m : Nat} {l : DV}, (ρ.set i (.ownD d'))[m]? = some (.ownD l) → ∃ l', ρ[m]? = some (.ownD l') := fun {m l} h => by
      rcases set_get h with ⟨rfl, _⟩ | ⟨_, h⟩
      · exact ⟨_, hi⟩
      · exact ⟨_, h⟩
    obtain ⟨l1, a⟩ := f a
    obtain ⟨l2, b⟩ := f b
    exact n.sep j k x y l1 l2 hjk a b c e
theorem En.chg {i : Nat} {p : Addr} {vs : List V} {ds es : List DV} (n : En K H0 S H σ ρ) (hi : ρ[i]? = some (.own ds)) (hp : σ[i]? = some (some (.ref p))) (hs : S p = none) (r : RpA K S vs es) : En K H0 S (upd H p (.lst vs)) σ (ρ.set i (.own es)) := n.chgD hi hp hs (.lst r)
/-- what is one's own is lent: as a still thing -/
theorem En.lend {i : Nat} {p : Addr} {o : HO} {d : DV} (n : En K H0 S H σ ρ) (hi : ρ[i]? = some (.ownD d)) (hp : σ[i]? = some (some (.ref p))) (hs : S p = none) (r : OwR K S p o d) : En K H0 (upd S p o) H σ (ρ.set i (.val d)) where
  len := by rw [List.length_set]; exact n.len
  at_ := fun j u e a b => by
    rcases set_get b with ⟨rfl, rfl⟩ | ⟨hj, b⟩
    · rw [hp] at a
      cases a
      exact ⟨.ref p, rfl, r.rp (Ex.new hs) upd_same⟩
    · have q := n.at_ j u e a b
      cases e with
      | un => trivial
      | exo _ _ _ => obtain ⟨a1, fs, b1, c1⟩ := q; exact ⟨a1, fs, Ex.new hs _ _ b1, c1.up (Ex.new hs)⟩
      | val d =>
        obtain ⟨u', e1, r1⟩ := q
        exact ⟨u', e1, r1.up (Ex.new hs)⟩
      | ownD ds' =>
        obtain ⟨p', o', e1, h0', h1, h2, r2⟩ := q
        subst e1
        have ne : p' ≠ p := fun z => n.sep i j p p' d ds' hj hi b hp a z.symm
        exact ⟨p', o', rfl, h0', by rw [upd_ne ne]; exact h1, h2, r2.up (Ex.new hs)⟩
  sep := fun j k x y ds' es' hjk a b c e => by
    rcases set_get a with ⟨_, z⟩ | ⟨hj, a⟩
    · cases z
    · rcases set_get b with ⟨_, z⟩ | ⟨hk, b⟩
      · cases z
      · exact n.sep j k x y ds' es' hjk a b c e
/-- what is one's own becomes still -/
theorem En.freeze {i : Nat} {d : DV} {S0 : Hp} (n : En K H0 S H σ ρ) (e0 : Go S0 H0 S H) (hi : ρ[i]? = some (.ownD d)) : ∃ S', Go S0 H0 S' H ∧ En K H0 S' H σ (ρ.set i (.val d)) ∧ Ex S S' := by
  obtain ⟨p, o, hp, h0, hs, hh, r⟩ := n.ownD hi
  refine ⟨upd S p o, ⟨e0.s.tr (Ex.new hs), e0.h, fun a u q => ?_, fun a u q m => ?_⟩, n.lend hi hp hs r, Ex.new hs⟩
  · by_cases h : a = p
    · subst h
      rw [upd_same] at q
      rw [hh]
      exact q
    · rw [upd_ne h] at q
      exact e0.sub a u q
  · by_cases h : a = p
    · subst h
      exact h0
    · rw [upd_ne h] at q
      exact e0.new a u q m
end

/-! ### what a reading gives -/
def Rs (K : PySem.W.Frag) (S H : Hp) (d : DV) (Q : VK) : Prop := ∀ v S' H', Go S H S' H' → Rp K S' v d → Q v H'
def EvD (K : PySem.W.Frag) (te : TE) (ρ : Rho) (d : DV) : Prop := ∀ H0 σ S H, Ex S H → En K H0 S H σ ρ → ∀ Q : VK, Rs K S H d Q → te σ H Q
def EvB (K : PySem.W.Frag) (tt : TT) (ρ : Rho) (b : Bool) : Prop := ∀ H0 σ S H, Ex S H → En K H0 S H σ ρ → ∀ Q : Bool → Hp → Prop, (∀ S' H', Go S H S' H' → Q b H') → tt σ H Q
def EvA (K : PySem.W.Frag) (ta : TA) (ρ : Rho) (ds : List DV) : Prop := ∀ H0 σ S H, Ex S H → En K H0 S H σ ρ → ∀ Q : List V → Hp → Prop, (∀ vs S' H', Go S H S' H' → RpA K S' vs ds → Q vs H') → ta σ H Q
def EvO (K : PySem.W.Frag) (to : TO) (ρ : Rho) (o : Option Int) : Prop := ∀ H0 σ S H, Ex S H → En K H0 S H σ ρ → ∀ Q : Option Int → Hp → Prop, (∀ S' H', Go S H S' H' → Q o H') → to σ H Q
/-- an operation on two values, one, some -/
def OpD (K : PySem.W.Frag) (r : R2) (a b d : DV) : Prop := ∀ S H x y, Ex S H → Rp K S x a → Rp K S y b → ∀ Q : VK, Rs K S H d Q → r x y H Q
def UnD (K : PySem.W.Frag) (r : V → Hp → VK → Prop) (a d : DV) : Prop := ∀ S H x, Ex S H → Rp K S x a → ∀ Q : VK, Rs K S H d Q → r x H Q
def CaD (K : PySem.W.Frag) (r : List V → Hp → VK → Prop) (ds : List DV) (d : DV) : Prop := ∀ S H xs, Ex S H → RpA K S xs ds → ∀ Q : VK, Rs K S H d Q → r xs H Q

section
variable {K : PySem.W.Frag} {ρ : Rho} {ta tb te : TE} {t u : TT} {a b d : DV} {r : R2}
theorem ev_var {i : Nat} (h : ρ[i]? = some (.val d)) : EvD K (tVar i) ρ d := fun _ σ S H e n Q q => by
  obtain ⟨v, hv, r⟩ := n.val h
  exact ⟨v, hv, q v S H (Go.rf e) r⟩
theorem ev_c {v : V} (h : ∀ S, Rp K S v d) : EvD K (tC v) ρ d := fun _ σ S H e n Q q => q v S H (Go.rf e) (h S)
theorem ev_op (ha : EvD K ta ρ a) (hb : EvD K tb ρ b) (hr : OpD K r a b d) : EvD K (tOp r ta tb) ρ d := fun H0 σ S H e n Q q =>
  ha H0 σ S H e n _ fun x S1 H1 g1 r1 => hb H0 σ S1 H1 g1.sub (n.go g1) _ fun y S2 H2 g2 r2 => hr S2 H2 x y g2.sub (r1.up g2.s) r2 Q fun v S3 H3 g3 r3 => q v S3 H3 ((g1.tr g2).tr g3) r3
theorem ev_un {r : V → Hp → VK → Prop} (ha : EvD K ta ρ a) (hr : UnD K r a d) : EvD K (tUn r ta) ρ d := fun H0 σ S H e n Q q =>
  ha H0 σ S H e n _ fun x S1 H1 g1 r1 => hr S1 H1 x g1.sub r1 Q fun v S3 H3 g3 r3 => q v S3 H3 (g1.tr g3) r3
theorem ea_nil : EvA K tNil ρ [] := fun _ σ S H e n Q q => q [] S H (Go.rf e) .nil
theorem ea_cons {tr : TA} {ds : List DV} (h : EvD K te ρ d) (hr : EvA K tr ρ ds) : EvA K (tCons te tr) ρ (d :: ds) := fun H0 σ S H e n Q q =>
  h H0 σ S H e n _ fun x S1 H1 g1 r1 => hr H0 σ S1 H1 g1.sub (n.go g1) _ fun vs S2 H2 g2 r2 => q (x :: vs) S2 H2 (g1.tr g2) (.cons (r1.up g2.s) r2)
theorem ev_tup {tx : TA} {ds : List DV} (h : EvA K tx ρ ds) (hl : ds.length ≤ 100000) : EvD K (tTup tx) ρ (.tup ds) := fun H0 σ S H e n Q q =>
  h H0 σ S H e n _ fun vs S1 H1 g1 r1 => ⟨Nat.le_trans (by rw [r1.len]; exact hl) (by decide), fun p hp => q _ _ _ (g1.tr (Go.up g1.sub hp)) (.tup (Or.inl (Or.inl upd_same)) (r1.up (Ex.new (g1.sub.free hp))))⟩
theorem ev_cb {f : List V → Hp → VK → Prop} {tx : TA} {ds : List DV} (h : EvA K tx ρ ds) (hf : CaD K f ds d) : EvD K (tCB f tx) ρ d := fun H0 σ S H e n Q q =>
  h H0 σ S H e n _ fun vs S1 H1 g1 r1 => hf S1 H1 vs g1.sub r1 Q fun v S2 H2 g2 r2 => q v S2 H2 (g1.tr g2) r2
theorem ev_and {x y : Bool} (h1 : EvD K ta ρ (.bl x)) (h2 : x = true → EvD K tb ρ (.bl y)) : EvD K (tAndV ta tb) ρ (.bl (x && y)) := fun H0 σ S H e n Q q =>
  h1 H0 σ S H e n _ fun v S1 H1 g1 r1 => by
    cases r1
    refine ⟨x, rfl, ?_⟩
    cases x with
    | true =>
      rw [if_pos rfl]
      exact h2 rfl H0 σ S1 H1 g1.sub (n.go g1) Q fun v S2 H2 g2 r2 => q v S2 H2 (g1.tr g2) r2
    | false =>
      rw [if_neg (by decide)]
      exact q _ S1 H1 g1 (.bl _)
theorem ev_not {x : Bool} (h1 : EvD K ta ρ (.bl x)) : EvD K (tNotV ta) ρ (.bl (!x)) := fun H0 σ S H e n Q q =>
  h1 H0 σ S H e n _ fun v S1 H1 g1 r1 => by
    cases r1
    exact ⟨x, rfl, q _ S1 H1 g1 (.bl _)⟩
theorem ev_if {x : Bool} (h : EvB K t ρ x) (h1 : x = true → EvD K ta ρ d) (h2 : x = false → EvD K tb ρ d) : EvD K (tIf t ta tb) ρ d := fun H0 σ S H e n Q q =>
  h H0 σ S H e n _ fun S1 H1 g1 => by
    cases x with
    | true =>
      rw [if_pos rfl]
      exact h1 rfl H0 σ S1 H1 g1.sub (n.go g1) Q fun v S2 H2 g2 r2 => q v S2 H2 (g1.tr g2) r2
    | false =>
      rw [if_neg (by decide)]
      exact h2 rfl H0 σ S1 H1 g1.sub (n.go g1) Q fun v S2 H2 g2 r2 => q v S2 H2 (g1.tr g2) r2
theorem eb_val {x : Bool} (h : EvD K te ρ (.bl x)) : EvB K (tB te) ρ x := fun H0 σ S H e n Q q => h H0 σ S H e n _ fun v S1 H1 g1 r1 => by
  cases r1
  exact ⟨x, rfl, q S1 H1 g1⟩
theorem eb_test {x : Bool} (h : EvD K te ρ (.bl x)) : EvB K (tTest te) ρ x := fun H0 σ S H e n Q q => h H0 σ S H e n _ fun v S1 H1 g1 r1 => by
  cases r1
  exact ⟨x, rfl, q S1 H1 g1⟩
theorem eb_or {x y : Bool} (h1 : EvB K t ρ x) (h2 : x = false → EvB K u ρ y) : EvB K (tOr t u) ρ (x || y) := fun H0 σ S H e n Q q => h1 H0 σ S H e n _ fun S1 H1 g1 => by
  cases x with
  | false =>
    rw [if_neg (by decide)]
    exact h2 rfl H0 σ S1 H1 g1.sub (n.go g1) Q fun S2 H2 g2 => q S2 H2 (g1.tr g2)
  | true =>
    rw [if_pos rfl]
    exact q S1 H1 g1
theorem eb_not {x : Bool} (h1 : EvB K t ρ x) : EvB K (tNot t) ρ (!x) := fun H0 σ S H e n Q q => h1 H0 σ S H e n _ fun S1 H1 g1 => q S1 H1 g1
theorem eo_none : EvO K tNoPart ρ none := fun _ σ S H e n Q q => q S H (Go.rf e)
theorem eo_some {i : Int} (h : EvD K te ρ (.int i)) : EvO K (tPart te) ρ (some i) := fun H0 σ S H e n Q q => h H0 σ S H e n _ fun v S1 H1 g1 r1 => by
  cases r1
  exact ⟨i, rfl, q S1 H1 g1⟩
/-- a slice's rule by values -/
def SlD (K : PySem.W.Frag) (r : V → Option Int → Option Int → Hp → VK → Prop) (a : DV) (lo hi : Option Int) (d : DV) : Prop := ∀ S H x, Ex S H → Rp K S x a → ∀ Q : VK, Rs K S H d Q → r x lo hi H Q
theorem ev_sl {rs : V → Option Int → Option Int → Hp → VK → Prop} {tl th : TO} {lo hi : Option Int} (h : EvD K te ρ a) (h1 : EvO K tl ρ lo) (h2 : EvO K th ρ hi) (hs : SlD K rs a lo hi d) : EvD K (tSl rs te tl th) ρ d := fun H0 σ S H e n Q q =>
  h H0 σ S H e n _ fun x S1 H1 g1 r1 => h1 H0 σ S1 H1 g1.sub (n.go g1) _ fun S2 H2 g2 => h2 H0 σ S2 H2 g2.sub ((n.go g1).go g2) _ fun S3 H3 g3 =>
    hs S3 H3 x g3.sub ((r1.up g2.s).up g3.s) Q fun v S4 H4 g4 r4 => q v S4 H4 (((g1.tr g2).tr g3).tr g4) r4
/-- a promise over data: on ds it hands back d (R ds d) -/
def spR (K : PySem.W.Frag) (R : List DV → DV → Prop) : Sp := fun vs H Q _ => ∃ S ds d, Ex S H ∧ RpA K S vs ds ∧ R ds d ∧ Rs K S H d Q
theorem ev_call {R : List DV → DV → Prop} {E : XK} {tx : TA} {ds : List DV} (h : EvA K tx ρ ds) (hR : R ds d) : EvD K (tCall (spR K R) [] E tx) ρ d := fun H0 σ S H e n Q q =>
  h H0 σ S H e n _ fun vs S1 H1 g1 r1 => ⟨S1, ds, d, g1.sub, by rw [List.append_nil]; exact r1, hR, fun v S2 H2 g2 r2 => q v S2 H2 (g1.tr g2) r2⟩
end

/-! ### statements -/
structure Po where
  nx : Rho → Prop
  rt : DV → Prop := fun _ => False
  bk : Rho → Prop := fun _ => False
  ct : Rho → Prop := fun _ => False
structure Ok (K : PySem.W.Frag) (S0 H0 B : Hp) (D : Ends) (E : Po) : Prop where
  nx : ∀ ρ σ S H, E.nx ρ → Go S0 H0 S H → Ex B S → En K H0 S H σ ρ → D.nx σ H
  rt : ∀ d v S H, E.rt d → Go S0 H0 S H → Rp K S v d → D.rt v H
  bk : ∀ ρ σ S H, E.bk ρ → Go S0 H0 S H → Ex B S → En K H0 S H σ ρ → D.bk σ H
  ct : ∀ ρ σ S H, E.ct ρ → Go S0 H0 S H → Ex B S → En K H0 S H σ ρ → D.ct σ H
def StD (K : PySem.W.Frag) (ts : TS) (ρ : Rho) (E : Po) : Prop := ∀ S0 H0 B σ S H D, Go S0 H0 S H → Ex B S → En K H0 S H σ ρ → Ok K S0 H0 B D E → ts D σ H
section
variable {K : PySem.W.Frag} {ρ ρ' : Rho} {ta tb te : TE} {t : TT} {ts tu tw : TS} {a b d : DV} {E : Po}
theorem st_next (h : E.nx ρ) : StD K tNext ρ E := fun S0 H0 B σ S H D g b n o => o.nx ρ σ S H h g b n
theorem st_seq (h : StD K ts ρ { E with nx := fun ρ' => StD K tu ρ' E }) : StD K (tSeq ts tu) ρ E := fun S0 H0 B σ S H D g b n o =>
  h S0 H0 B σ S H { D with nx := tu D } g b n ⟨fun ρ' σ' S' H' q g' b' n' => q S0 H0 B σ' S' H' D g' b' n' o, o.rt, o.bk, o.ct⟩
theorem st_asg {i : Nat} (h : EvD K te ρ d) (q : E.nx (ρ.set i (.val d))) : StD K (tAsg te (gName i)) ρ E := fun S0 H0 B σ S H D g b n o =>
  h H0 σ S H g.sub n _ fun v S1 H1 g1 r1 => o.nx _ _ S1 H1 q (g.tr g1) (b.tr g1.s) ((n.go g1).set r1)
theorem st_ret (h : EvD K te ρ d) (q : E.rt d) : StD K (tRet te) ρ E := fun S0 H0 B σ S H D g b n o =>
  h H0 σ S H g.sub n _ fun v S1 H1 g1 r1 => o.rt d v S1 H1 q (g.tr g1) r1
theorem st_if {x : Bool} (h : EvB K t ρ x) (h1 : x = true → StD K tu ρ E) (h2 : x = false → StD K tw ρ E) : StD K (tIfS t tu tw) ρ E := fun S0 H0 B σ S H D g b n o =>
  h H0 σ S H g.sub n _ fun S1 H1 g1 => by
    cases x with
    | true =>
      rw [if_pos rfl]
      exact h1 rfl S0 H0 B σ S1 H1 D (g.tr g1) (b.tr g1.s) (n.go g1) o
    | false =>
      rw [if_neg (by decide)]
      exact h2 rfl S0 H0 B σ S1 H1 D (g.tr g1) (b.tr g1.s) (n.go g1) o
theorem st_drop (h : EvD K te ρ d) (q : E.nx ρ) : StD K (tDrop te) ρ E := fun S0 H0 B σ S H D g b n o =>
  h H0 σ S H g.sub n _ fun v S1 H1 g1 r1 => o.nx _ _ S1 H1 q (g.tr g1) (b.tr g1.s) (n.go g1)
/-- a list of one's own is given away -/
theorem st_freeze {i : Nat} {d : DV} (hi : ρ[i]? = some (.ownD d)) (h : StD K ts (ρ.set i (.val d)) E) : StD K ts ρ E := fun S0 H0 B σ S H D g b n o => by
  obtain ⟨S', g', n', e'⟩ := n.freeze g hi
  exact h S0 H0 B σ S' H D g' (b.tr e') n' o
end
end PD

/-! Data: operators, built-ins, what is walked. -/
namespace PD
open PySem PySem.Spec PyProof.Rows L2
section
variable {K : PySem.W.Frag} {ρ : Rho} {ta tb te : TE} {a b d : DV}
theorem sz5 {n : Nat} (h : n ≤ 100000) : n ≤ sizeLine := Nat.le_trans h (by decide)
/-! ints -/
theorem od_I0 {g : Int → Int → V} {i j : Int} {d : DV} (h : ∀ S, Rp K S (g i j) d) : OpD K (rI0 g) (.int i) (.int j) d := fun S H x y e r1 r2 Q q => by
  cases r1
  cases r2
  exact ⟨i, j, rfl, rfl, q _ S H (Go.rf e) (h S)⟩
theorem od_I {C : Int → Int → Prop} {g : Int → Int → V} {i j : Int} {d : DV} (hc : C i j) (h : ∀ S, Rp K S (g i j) d) : OpD K (rI C g) (.int i) (.int j) d := fun S H x y e r1 r2 Q q => by
  cases r1
  cases r2
  exact ⟨i, j, rfl, rfl, hc, q _ S H (Go.rf e) (h S)⟩
/-! texts -/
theorem od_addS {x y : Str} (h : x.length + y.length ≤ 100000) : OpD K (fun x y H Q => ∃ i j, x = .str i ∧ y = .str j ∧ i.length + j.length ≤ sizeLine ∧ Q (.str (i ++ j)) H) (.str x) (.str y) (.str (x ++ y)) := fun S H _ _ e r1 r2 Q q => by
  cases r1
  cases r2
  exact ⟨x, y, rfl, rfl, sz5 h, q _ S H (Go.rf e) (.str _)⟩
theorem od_inSign {c : Nat} {z : Str} : OpD K (fun x y H Q => ∃ (c : Nat) (z : Str), x = .str ⟨#[c]⟩ ∧ y = .str z ∧ Q (.bl (decide (c ∈ z.cps.toList))) H) (.str ⟨#[c]⟩) (.str z) (.bl (decide (c ∈ z.cps.toList))) := fun S H _ _ e r1 r2 Q q => by
  cases r1
  cases r2
  exact ⟨c, z, rfl, rfl, q _ S H (Go.rf e) (.bl _)⟩
/-! flat things -/
def DV.flat : DV → Bool
  | .non => true | .bl _ => true | .int _ => true | .str _ => true | _ => false
def DV.v : DV → V
  | .non => .non | .bl b => .bl b | .int i => .int i | .str x => .str x | _ => .non
theorem flat_rp {S : Hp} {v : V} {d : DV} (h : d.flat = true) (r : Rp K S v d) : v = d.v ∧ flatV v = true := by
  cases r <;> first | exact ⟨rfl, rfl⟩ | cases h
theorem flat_all {S : Hp} : ∀ {vs : List V} {ds : List DV}, ds.all DV.flat = true → RpA K S vs ds → vs = ds.map DV.v ∧ vs.all flatV = true
  | _, _, _, .nil => ⟨rfl, rfl⟩
  | _, _, h, .cons r q => by
    rw [List.all_cons, Bool.and_eq_true] at h
    obtain ⟨h1, h2⟩ := h
    obtain ⟨e1, f1⟩ := flat_rp h1 r
    obtain ⟨e2, f2⟩ := flat_all h2 q
    exact ⟨by rw [e1, e2]; rfl, by rw [List.all_cons, f1, f2]; rfl⟩
/-- two flat things of one kind (or one of them None): equal as Python has it -/
def DV.eqF (a b : DV) : Bool := decide (a.v = b.v)
theorem od_eqF (h : a.flat = true) (h' : b.flat = true) (hs : scal a.v b.v = true) : OpD K rEq a b (.bl (a.eqF b)) := fun S H x y e r1 r2 Q q => by
  obtain ⟨rfl, _⟩ := flat_rp h r1
  obtain ⟨rfl, _⟩ := flat_rp h' r2
  exact ⟨hs, q _ S H (Go.rf e) (.bl _)⟩
theorem od_neF (h : a.flat = true) (h' : b.flat = true) (hs : scal a.v b.v = true) : OpD K rNe a b (.bl (!a.eqF b)) := fun S H x y e r1 r2 Q q => by
  obtain ⟨rfl, _⟩ := flat_rp h r1
  obtain ⟨rfl, _⟩ := flat_rp h' r2
  exact ⟨hs, q _ S H (Go.rf e) (.bl _)⟩
theorem od_eqS {x y : Str} : OpD K rEq (.str x) (.str y) (.bl (decide (x = y))) := by
  have h := od_eqF (K := K) (a := .str x) (b := .str y) rfl rfl rfl
  have e : DV.eqF (.str x) (.str y) = decide (x = y) := by
    show decide (V.str x = V.str y) = _
    by_cases h : x = y
    · subst h; simp
    · rw [decide_eq_false h, decide_eq_false (fun z => h (V.str.inj z))]
  rw [e] at h
  exact h
theorem od_neS {x y : Str} : OpD K rNe (.str x) (.str y) (.bl (!decide (x = y))) := by
  have h := od_neF (K := K) (a := .str x) (b := .str y) rfl rfl rfl
  have e : DV.eqF (.str x) (.str y) = decide (x = y) := by
    show decide (V.str x = V.str y) = _
    by_cases h : x = y
    · subst h; simp
    · rw [decide_eq_false h, decide_eq_false (fun z => h (V.str.inj z))]
  rw [e] at h
  exact h
theorem od_eqI {x y : Int} : OpD K rEq (.int x) (.int y) (.bl (decide (x = y))) := by
  have h := od_eqF (K := K) (a := .int x) (b := .int y) rfl rfl rfl
  have e : DV.eqF (.int x) (.int y) = decide (x = y) := by
    show decide (V.int x = V.int y) = _
    by_cases h : x = y
    · subst h; simp
    · rw [decide_eq_false h, decide_eq_false (fun z => h (V.int.inj z))]
  rw [e] at h
  exact h
theorem od_neI {x y : Int} : OpD K rNe (.int x) (.int y) (.bl (!decide (x = y))) := by
  have h := od_neF (K := K) (a := .int x) (b := .int y) rfl rfl rfl
  have e : DV.eqF (.int x) (.int y) = decide (x = y) := by
    show decide (V.int x = V.int y) = _
    by_cases h : x = y
    · subst h; simp
    · rw [decide_eq_false h, decide_eq_false (fun z => h (V.int.inj z))]
  rw [e] at h
  exact h
/-- a in (b, c, ..), a list or tuple of flat things -/
def inD (a : DV) (ds : List DV) : Bool := inV a.v (ds.map DV.v)
def DV.items : DV → Option (List DV)
  | .tup xs => some xs | .lst xs => some xs | .frz xs => some xs | _ => none
theorem items_rp {S : Hp} {v : V} {d : DV} {ds : List DV} (h : d.items = some ds) (r : Rp K S v d) : ∃ p xs, v = .ref p ∧ (SqL K S p xs ∨ SqT K S p xs) ∧ RpA K S xs ds := by
  cases r with
  | tup a b => cases h; exact ⟨_, _, rfl, .inr a, b⟩
  | lst a b => cases h; exact ⟨_, _, rfl, .inl (.inl a), b⟩
  | frz a b => cases h; exact ⟨_, _, rfl, .inl a, b⟩
  | _ => cases h
theorem sq_up {S H : Hp} (e : Ex S H) {p : Addr} {xs : List V} (h : SqL K S p xs ∨ SqT K S p xs) : SqL K H p xs ∨ SqT K H p xs := h.imp (ex_l e) (ex_t e)
theorem od_in {neg : Bool} {ds : List DV} (h : a.flat = true) (hi : b.items = some ds) (hf : ds.all DV.flat = true) : OpD K (rIn K neg) a b (.bl (if neg then !inD a ds else inD a ds)) := fun S H x y e r1 r2 Q q => by
  obtain ⟨rfl, f⟩ := flat_rp h r1
  obtain ⟨p, xs, rfl, hs, ra⟩ := items_rp hi r2
  obtain ⟨rfl, fa⟩ := flat_all hf ra
  refine ⟨p, _, rfl, sq_up e hs, f, fa, q _ S H (Go.rf e) (.bl _)⟩
theorem od_is {ds : List DV} (h : a.flat = true) (hi : b.items = some ds) (hf : ds.all DV.flat = true) : OpD K (rIn K false) a b (.bl (inD a ds)) := od_in h hi hf
theorem od_notin {ds : List DV} (h : a.flat = true) (hi : b.items = some ds) (hf : ds.all DV.flat = true) : OpD K (rIn K true) a b (.bl (!inD a ds)) := od_in h hi hf
/-! deep == -/
mutual
def DV.pd : DV → PyData
  | .non => .none | .bl b => .bool b | .int i => .int i | .str x => .str x
  | .tup xs => .tuple (pdAll xs) | .lst xs => .list (pdAll xs) | .frz xs => .list (pdAll xs) | .obj _ _ => .none | .dct _ _ _ => .none | .tks _ _ => .none | .adr _ => .none
def pdAll : List DV → List PyData
  | [] => []
  | d :: ds => d.pd :: pdAll ds
end
mutual
def DV.plain : DV → Bool
  | .non => true | .bl _ => true | .int _ => true | .str x => PyData.strOk x
  | .tup xs => plainAll xs | .lst xs => plainAll xs | .frz xs => plainAll xs | .obj _ _ => false | .dct _ _ _ => false | .tks _ _ => false | .adr _ => false
def plainAll : List DV → Bool
  | [] => true
  | d :: ds => d.plain && plainAll ds
end
mutual
def DV.dep : DV → Nat
  | .non => 0 | .bl _ => 0 | .int _ => 0 | .str _ => 0
  | .tup xs => depAll xs + 1 | .lst xs => depAll xs + 1 | .frz xs => depAll xs + 1 | .obj _ _ => 0 | .dct _ _ _ => 0 | .tks _ _ => 0 | .adr _ => 0
def depAll : List DV → Nat
  | [] => 0
  | d :: ds => max d.dep (depAll ds)
end
mutual
theorem rp_dp {S : Hp} : ∀ {v : V} {d : DV}, d.plain = true → Rp K S v d → Dp K S v d.pd
  | _, _, _, .non => .non
  | _, _, _, .bl b => .bl b
  | _, _, _, .int i => .int i
  | _, _, _, .str x => .str x
  | _, _, h, .tup a r => .tup a (rp_dps (by simpa [DV.plain] using h) r)
  | _, _, h, .lst a r => .lst (.inl a) (rp_dps (by simpa [DV.plain] using h) r)
  | _, _, h, .frz a r => .lst a (rp_dps (by simpa [DV.plain] using h) r)
  | _, _, h, .obj _ _ => by simp [DV.plain] at h
  | _, _, h, .dct _ _ _ => by simp [DV.plain] at h
  | _, _, h, .tks _ _ => by simp [DV.plain] at h
  | _, _, h, .adr _ => by simp [DV.plain] at h
theorem rp_dps {S : Hp} : ∀ {vs : List V} {ds : List DV}, plainAll ds = true → RpA K S vs ds → DpAll K S vs (pdAll ds)
  | _, _, _, .nil => .nil
  | _, _, h, .cons r q => by
    rw [plainAll, Bool.and_eq_true] at h
    exact .cons (rp_dp h.1 r) (rp_dps h.2 q)
end
mutual
theorem pd_lay : ∀ {d : DV}, d.plain = true → d.pd.canLay0 = true
  | .non, _ => by simp [DV.pd, PyData.canLay0]
  | .bl _, _ => by simp [DV.pd, PyData.canLay0]
  | .int _, _ => by simp [DV.pd, PyData.canLay0]
  | .str x, h => by simpa [DV.pd, PyData.canLay0, DV.plain] using h
  | .tup xs, h => by
    rw [DV.pd, PyData.canLay0]
    exact pd_lays (by simpa [DV.plain] using h)
  | .lst xs, h => by
    rw [DV.pd, PyData.canLay0]
    exact pd_lays (by simpa [DV.plain] using h)
  | .frz xs, h => by
    rw [DV.pd, PyData.canLay0]
    exact pd_lays (by simpa [DV.plain] using h)
  | .obj _ _, h => by simp [DV.plain] at h
  | .dct _ _ _, h => by simp [DV.plain] at h
  | .tks _ _, h => by simp [DV.plain] at h
  | .adr _, h => by simp [DV.plain] at h
theorem pd_lays : ∀ {ds : List DV}, plainAll ds = true → PyData.canLayAll0 (pdAll ds) = true
  | [], _ => by rw [pdAll, PyData.canLayAll0]
  | d :: ds, h => by
    rw [plainAll, Bool.and_eq_true] at h
    rw [pdAll, PyData.canLayAll0, pd_lay h.1, pd_lays h.2]
    rfl
end
mutual
theorem pd_dep : ∀ d : DV, d.pd.depth = d.dep
  | .non => by simp [DV.pd, PyData.depth, DV.dep]
  | .bl _ => by simp [DV.pd, PyData.depth, DV.dep]
  | .int _ => by simp [DV.pd, PyData.depth, DV.dep]
  | .str x => by simp [DV.pd, PyData.depth, DV.dep]
  | .tup xs => by
    rw [DV.pd, PyData.depth, DV.dep, pd_deps xs]
  | .lst xs => by
    rw [DV.pd, PyData.depth, DV.dep, pd_deps xs]
  | .frz xs => by
    rw [DV.pd, PyData.depth, DV.dep, pd_deps xs]
  | .obj _ _ => by simp [DV.pd, PyData.depth, DV.dep]
  | .dct _ _ _ => by simp [DV.pd, PyData.depth, DV.dep]
  | .tks _ _ => by simp [DV.pd, PyData.depth, DV.dep]
  | .adr _ => by simp [DV.pd, PyData.depth, DV.dep]
theorem pd_deps : ∀ ds : List DV, PyData.depthAll (pdAll ds) = depAll ds
  | [] => by rw [pdAll, PyData.depthAll, depAll]
  | d :: ds => by
    rw [pdAll, PyData.depthAll, depAll, pd_dep d, pd_deps ds]
end
/-- data that == takes -/
def DV.ok (d : DV) : Bool := d.plain && decide (d.dep ≤ 64)
theorem ok_shaped {d : DV} (h : d.ok = true) : SeqAt.shaped d.pd = true := by
  unfold DV.ok at h
  rw [Bool.and_eq_true] at h
  unfold SeqAt.shaped
  rw [pd_lay h.1, pd_dep, h.2]
  rfl
theorem ok_plain {d : DV} (h : d.ok = true) : d.plain = true := by
  unfold DV.ok at h
  rw [Bool.and_eq_true] at h
  exact h.1
def DV.eqv (a b : DV) : Bool := PyData.eqv a.pd b.pd
mutual
theorem Dp_up {S H : Hp} (e : Ex S H) : ∀ {v : V} {d : PyData}, Dp K S v d → Dp K H v d
  | _, _, .non => .non
  | _, _, .bl b => .bl b
  | _, _, .int i => .int i
  | _, _, .str x => .str x
  | _, _, .lst a r => .lst (ex_l e a) (Dps_up e r)
  | _, _, .tup a r => .tup (ex_t e a) (Dps_up e r)
theorem Dps_up {S H : Hp} (e : Ex S H) : ∀ {vs : List V} {ds : List PyData}, DpAll K S vs ds → DpAll K H vs ds
  | _, _, .nil => .nil
  | _, _, .cons a r => .cons (Dp_up e a) (Dps_up e r)
end
theorem od_eqD (h : a.ok = true) (h' : b.ok = true) : OpD K (rEqD K) a b (.bl (a.eqv b)) := fun S H x y e r1 r2 Q q =>
  ⟨_, _, Dp_up e (rp_dp (ok_plain h) r1), Dp_up e (rp_dp (ok_plain h') r2), ok_shaped h, ok_shaped h', q _ S H (Go.rf e) (.bl _)⟩
theorem od_neD (h : a.ok = true) (h' : b.ok = true) : OpD K (rNeD K) a b (.bl (!a.eqv b)) := fun S H x y e r1 r2 Q q =>
  ⟨_, _, Dp_up e (rp_dp (ok_plain h) r1), Dp_up e (rp_dp (ok_plain h') r2), ok_shaped h, ok_shaped h', q _ S H (Go.rf e) (.bl _)⟩
/-! tuples, lists -/
theorem od_catT {xs ys : List DV} (h : xs.length + ys.length ≤ 100000) : OpD K (rCatA K) (.tup xs) (.tup ys) (.tup (xs ++ ys)) := fun S H x y e r1 r2 Q q => by
  cases r1 with
  | tup s1 a1 =>
    cases r2 with
    | tup s2 a2 =>
      refine ⟨_, _, _, _, rfl, rfl, ex_t e s1, ex_t e s2, by rw [a1.len, a2.len]; exact sz5 h, fun e1 => ?_, fun n1 e2 => ?_, fun n1 n2 p hp => ?_⟩
      · subst e1
        cases a1
        exact q _ S H (Go.rf e) (.tup s2 a2)
      · subst e2
        cases a2
        rw [List.append_nil] at q
        exact q _ S H (Go.rf e) (.tup s1 a1)
      · exact q _ _ _ (Go.up e hp) (.tup (.inl (.inl upd_same)) ((a1.append a2).up (Ex.new (e.free hp))))
def rCatR : R2 := fun x y H Q => ∃ l b xs zs, x = .ref l ∧ y = .ref b ∧ Rd H l (.lst xs) ∧ Rd H b (.lst zs) ∧ xs.length + zs.length ≤ sizeLine ∧ ∀ p, H p = none → Q (.ref p) (upd H p (.lst (xs ++ zs)))
theorem op_catR {X : Cx} : OpR X (binaryOp .Add) rCatR := by
  intro pins s σ H x y v u Q I rx ry h
  obtain ⟨l, b, xs, zs, rfl, rfl, hH, hB, hz, q⟩ := h
  cases rx
  cases ry
  obtain ⟨z, its, n, r, e⟩ := hH.ok I.hok
  obtain ⟨z2, its2, n2, r2, e2⟩ := hB.ok I.hok
  have hl := r.length
  have hl2 := r2.length
  refine PySem.P.add_list e e2 ?_ (by rw [List.size_toArray, List.size_toArray]; omega)
  have ea : its.toArray ++ its2.toArray = (its ++ its2).toArray := by simp
  rw [ea]
  exact ⟨.ref _, _, I.lnew (t' := s.toks) (r.append r2) (by rw [List.length_append]; omega), rfl, q _ I.fresh⟩
theorem od_catL {xs ys : List DV} (h : xs.length + ys.length ≤ 100000) : OpD K rCatR (.lst xs) (.lst ys) (.lst (xs ++ ys)) := fun S H x y e r1 r2 Q q => by
  cases r1 with
  | lst s1 a1 =>
    cases r2 with
    | lst s2 a2 =>
      refine ⟨_, _, _, _, rfl, rfl, ex_rd e s1, ex_rd e s2, by rw [a1.len, a2.len]; exact sz5 h, fun p hp => ?_⟩
      exact q _ _ _ (Go.up e hp) (.lst (.inl upd_same) ((a1.append a2).up (Ex.new (e.free hp))))
theorem at_len {α β : Type} {xs : List α} {ys : List β} (h : xs.length = ys.length) {i : Int} {y : β} (e : atI ys i = some y) : ∃ j, ixN xs.length i = some j ∧ ys[j]? = some y := by
  unfold atI at e
  rw [h]
  cases q : ixN ys.length i with
  | none => rw [q] at e; cases e
  | some j => rw [q] at e; exact ⟨j, rfl, e⟩
theorem rpa_at {S : Hp} {vs : List V} {ds : List DV} {i : Int} {d : DV} (r : RpA K S vs ds) (h : atI ds i = some d) : ∃ v, atI vs i = some v ∧ Rp K S v d := by
  obtain ⟨j, h1, h2⟩ := at_len r.len h
  obtain ⟨v, e, q⟩ := r.get h2
  refine ⟨v, ?_, q⟩
  unfold atI
  rw [h1]
  exact e
theorem od_ixT {xs : List DV} {i : Int} (h : atI xs i = some d) : OpD K (rIxT K) (.tup xs) (.int i) d := fun S H x y e r1 r2 Q q => by
  cases r1 with
  | tup s1 a1 =>
    cases r2
    obtain ⟨v, hv, rv⟩ := rpa_at a1 h
    exact ⟨_, _, _, _, rfl, rfl, ex_t e s1, hv, q _ S H (Go.rf e) rv⟩
theorem od_ixL {xs : List DV} {i : Int} (h : atI xs i = some d) : OpD K (rIxL K) (.lst xs) (.int i) d := fun S H x y e r1 r2 Q q => by
  cases r1 with
  | lst s1 a1 =>
    cases r2
    obtain ⟨v, hv, rv⟩ := rpa_at a1 h
    exact ⟨_, _, _, _, rfl, rfl, .inl (ex_rd e s1), hv, q _ S H (Go.rf e) rv⟩
def cutG {α : Type} (xs : List α) (lo hi : Option Int) : List α := (xs.drop (HT.sIx xs.length 0 lo)).take (HT.sIx xs.length xs.length hi - HT.sIx xs.length 0 lo)
theorem rpa_cut {S : Hp} {vs : List V} {ds : List DV} (r : RpA K S vs ds) (lo hi : Option Int) : RpA K S (cutV vs lo hi) (cutG ds lo hi) := by
  unfold cutV cutG
  rw [r.len]
  exact (r.drop _).take _
theorem sd_tup {xs : List DV} {lo hi : Option Int} : SlD K (rSlA K) (.tup xs) lo hi (.tup (cutG xs lo hi)) := fun S H x e r1 Q q => by
  cases r1 with
  | tup s1 a1 =>
    refine ⟨_, _, rfl, ex_t e s1, fun ⟨e1, e2⟩ => q _ S H (Go.rf e) (.tup s1 ?_), fun _ p hp => q _ _ _ (Go.up e hp) (.tup (.inl (.inl upd_same)) ((rpa_cut a1 lo hi).up (Ex.new (e.free hp))))⟩
    have z := rpa_cut a1 lo hi
    unfold cutV at z
    rw [e1, e2, List.drop_zero, Nat.sub_zero, List.take_length] at z
    exact z
theorem sd_lst {xs : List DV} {lo hi : Option Int} : SlD K (rSlL K) (.lst xs) lo hi (.lst (cutG xs lo hi)) := fun S H x e r1 Q q => by
  cases r1 with
  | lst s1 a1 =>
    exact ⟨_, _, rfl, .inl (ex_rd e s1), fun p hp => q _ _ _ (Go.up e hp) (.lst (.inl upd_same) ((rpa_cut a1 lo hi).up (Ex.new (e.free hp))))⟩
theorem sd_frz {xs : List DV} {lo hi : Option Int} : SlD K (rSlL K) (.frz xs) lo hi (.lst (cutG xs lo hi)) := fun S H x e r1 Q q => by
  cases r1 with
  | frz s1 a1 =>
    exact ⟨_, _, rfl, ex_l e s1, fun p hp => q _ _ _ (Go.up e hp) (.lst (.inl upd_same) ((rpa_cut a1 lo hi).up (Ex.new (e.free hp))))⟩
theorem sd_str {z : Str} {lo hi : Option Int} (hz : z.length ≤ 100000) : SlD K rSlS (.str z) lo hi (.str (cutS z lo hi)) := fun S H x e r1 Q q => by
  cases r1
  exact ⟨_, rfl, sz5 hz, q _ S H (Go.rf e) (.str _)⟩
/-! built-ins -/
theorem one {S : Hp} {vs : List V} {d : DV} (r : RpA K S vs [d]) : ∃ v, vs = [v] ∧ Rp K S v d := by
  cases r with
  | cons h q =>
    cases q
    exact ⟨_, rfl, h⟩
def rLenX (K : PySem.W.Frag) : List V → Hp → VK → Prop := fun xs H Q => ∃ p ys, xs = [.ref p] ∧ (SqL K H p ys ∨ SqT K H p ys) ∧ Q (.int ys.length) H
theorem cd_len {ds : List DV} (h : a.items = some ds) : CaD K (rLenX K) [a] (.int ds.length) := fun S H xs e r0 Q q => by
  obtain ⟨v, rfl, r⟩ := one r0
  obtain ⟨p, ys, rfl, hs, ra⟩ := items_rp h r
  exact ⟨p, ys, rfl, sq_up e hs, by rw [ra.len]; exact q _ S H (Go.rf e) (.int _)⟩
def rLenT : List V → Hp → VK → Prop := fun xs H Q => ∃ z : Str, xs = [.str z] ∧ z.length ≤ sizeLine ∧ Q (.int z.length) H
theorem cd_lenS {z : Str} (hz : z.length ≤ 100000) : CaD K rLenT [.str z] (.int z.length) := fun S H xs e r0 Q q => by
  obtain ⟨v, rfl, r⟩ := one r0
  cases r
  exact ⟨z, rfl, sz5 hz, q _ S H (Go.rf e) (.int _)⟩
theorem boolsD {S : Hp} : ∀ {vs : List V} {bs : List Bool}, RpA K S vs (bs.map DV.bl) → vs = bs.map V.bl
  | _, [], r => by cases r; rfl
  | _, b :: bs, r => by
    cases r with
    | cons h q =>
      cases h
      rw [boolsD q]
      rfl
theorem intsD {S : Hp} : ∀ {vs : List V} {bs : List Int}, RpA K S vs (bs.map DV.int) → vs = bs.map V.int
  | _, [], r => by cases r; rfl
  | _, b :: bs, r => by
    cases r with
    | cons h q =>
      cases h
      rw [intsD q]
      rfl
theorem strsD {S : Hp} : ∀ {vs : List V} {bs : List Str}, RpA K S vs (bs.map DV.str) → vs = bs.map V.str
  | _, [], r => by cases r; rfl
  | _, b :: bs, r => by
    cases r with
    | cons h q =>
      cases h
      rw [strsD q]
      rfl
theorem cd_all {bs : List Bool} : CaD K (rAll K) [.lst (bs.map DV.bl)] (.bl (bs.all id)) := fun S H xs e r0 Q q => by
  obtain ⟨v, rfl, r⟩ := one r0
  cases r with
  | lst s a1 =>
    have z := boolsD a1
    subst z
    exact ⟨_, bs, rfl, .inl (ex_rd e s), q _ S H (Go.rf e) (.bl _)⟩
theorem cd_sum {ns : List Int} : CaD K (rSum K) [.lst (ns.map DV.int)] (.int ns.sum) := fun S H xs e r0 Q q => by
  obtain ⟨v, rfl, r⟩ := one r0
  cases r with
  | lst s a1 =>
    have z := intsD a1
    subst z
    exact ⟨_, ns, rfl, .inl (ex_rd e s), q _ S H (Go.rf e) (.int _)⟩
def rTupX (K : PySem.W.Frag) : List V → Hp → VK → Prop := fun xs H Q => ∃ p ys, xs = [.ref p] ∧ ((SqL K H p ys ∧ ∀ l, H l = none → Q (.ref l) (upd H l (.tup ys))) ∨ (SqT K H p ys ∧ Q (.ref p) H))
theorem cd_tuple {ds : List DV} (h : a.items = some ds) : CaD K (rTupX K) [a] (.tup ds) := fun S H xs e r0 Q q => by
  obtain ⟨v, rfl, r⟩ := one r0
  obtain ⟨p, ys, rfl, hs, ra⟩ := items_rp h r
  refine ⟨p, ys, rfl, ?_⟩
  rcases hs with hs | hs
  · exact .inl ⟨ex_l e hs, fun l hl => q _ _ _ (Go.up e hl) (.tup (.inl (.inl upd_same)) (ra.up (Ex.new (e.free hl))))⟩
  · exact .inr ⟨ex_t e hs, q _ S H (Go.rf e) (.tup hs ra)⟩
def rInt1 : List V → Hp → VK → Prop := fun xs H Q => (∃ i, xs = [.int i] ∧ Q (.int i) H) ∨ ∃ k, xs = [.bl k] ∧ Q (.int (if k then 1 else 0)) H
theorem cd_int {i : Int} : CaD K rInt1 [.int i] (.int i) := fun S H xs e r0 Q q => by
  obtain ⟨v, rfl, r⟩ := one r0
  cases r
  exact .inl ⟨i, rfl, q _ S H (Go.rf e) (.int _)⟩
/-! the kind of a thing -/
def DV.kind : DV → Option String
  | .non => some "NoneType" | .bl _ => some "bool" | .int _ => some "int" | .str _ => some "str" | .tup _ => some "tuple" | .lst _ => some "list" | .obj _ _ => none | .frz _ => none | .dct _ _ _ => none | .tks _ _ => none | .adr _ => none
theorem ty_of {S H : Hp} (e : Ex S H) {v : V} {t : String} (h : d.kind = some t) (r : Rp K S v d) : TyX K H v (.type t) := by
  cases r with
  | non => cases h; exact .base .non
  | bl b => cases h; exact .base (.bl b)
  | int i => cases h; exact .base (.int i)
  | str x => cases h; exact .base (.str x)
  | tup s _ =>
    cases h
    rcases ex_t e s with (s | ⟨o, s⟩) | ⟨o, its, n, s, c, _⟩
    · exact .base (.tup s)
    · exact .fTuple s
    · exact .kTuple s c
  | lst s _ =>
    cases h
    rcases ex_rd e s with s | ⟨o, s⟩
    · exact .base (.lst s)
    · exact .base (.frz s)
  | obj _ _ => cases h
  | frz _ _ => cases h
  | dct _ _ _ => cases h
  | tks _ _ => cases h
  | adr _ => cases h
/-- isinstance(x, T): the second argument's reading gives the class itself -/
def tIsi (K : PySem.W.Frag) (te : TE) (n : String) : TE := tCB (rIsi K) (tCons te (tCons (tC (.ty n)) tNil))
theorem ev_isi {n t : String} {b : Bool} (h : EvD K te ρ d) (hk : d.kind = some t) (hb : kitB t n = some b) : EvD K (tIsi K te n) ρ (.bl b) := fun H0 σ S H e m Q q =>
  h H0 σ S H e m _ fun x S1 H1 g1 r1 => ⟨x, .ty n, _, _, b, rfl, .ty n, ty_of g1.sub hk r1, kit_ty hb, q _ S1 H1 g1 (.bl _)⟩
end

/-! ### what is walked -/
structure WkD (K : PySem.W.Frag) (J : It) (S : Hp) (ds : List DV) : Prop where
  stop : ∀ H, Ex S H → J.stop ds.length H
  go : ∀ i H, Ex S H → i < ds.length → J.go i H
  yld : ∀ i H x H', J.yld i H x H' → ∀ d, ds[i]? = some d → ∀ S1, Ex S S1 → Ex S1 H → ∃ S', Go S1 H S' H' ∧ Rp K S' x d
def IvD (K : PySem.W.Frag) (wi : TI) (ρ : Rho) (ds : List DV) : Prop := ∀ H0 σ S H, Ex S H → En K H0 S H σ ρ → ∀ R : It → Hp → Prop, (∀ J S' H', Go S H S' H' → WkD K J S' ds → R J H') → wi σ H R
section
variable {K : PySem.W.Frag} {ρ : Rho} {te : TE} {d : DV}
theorem wk_l {S : Hp} {a : Addr} {xs : List V} {ds : List DV} (h : SqL K S a xs) (r : RpA K S xs ds) : WkD K (Itl K a) S ds where
  stop := fun H e => ⟨xs, ex_l e h, by rw [r.len]; exact Nat.le_refl _⟩
  go := fun i H e hi => ⟨xs, xs[i]'(by rw [r.len]; exact hi), ex_l e h, List.getElem?_eq_getElem _⟩
  yld := fun i H x H' y d hd S1 e e1 => by
    obtain ⟨rfl, f⟩ := y
    exact ⟨S1, Go.rf e1, (r.getV (f xs (ex_l (e.tr e1) h)) hd).up e⟩
theorem wk_t {S : Hp} {a : Addr} {xs : List V} {ds : List DV} (h : SqT K S a xs) (r : RpA K S xs ds) : WkD K (Itt K a) S ds where
  stop := fun H e => ⟨xs, ex_t e h, by rw [r.len]; exact Nat.le_refl _⟩
  go := fun i H e hi => ⟨xs, xs[i]'(by rw [r.len]; exact hi), ex_t e h, List.getElem?_eq_getElem _⟩
  yld := fun i H x H' y d hd S1 e e1 => by
    obtain ⟨rfl, f⟩ := y
    exact ⟨S1, Go.rf e1, (r.getV (f xs (ex_t (e.tr e1) h)) hd).up e⟩
theorem iv_list {ds : List DV} (h : EvD K te ρ (.lst ds)) : IvD K (iList K te) ρ ds := fun H0 σ S H e n R q =>
  h H0 σ S H e n _ fun v S1 H1 g1 r1 => by
    cases r1 with
    | lst s a => exact ⟨_, rfl, ⟨_, .inl (ex_rd g1.sub s)⟩, q _ S1 H1 g1 (wk_l (.inl s) a)⟩
theorem iv_tup {ds : List DV} (h : EvD K te ρ (.tup ds)) : IvD K (iTup K te) ρ ds := fun H0 σ S H e n R q =>
  h H0 σ S H e n _ fun v S1 H1 g1 r1 => by
    cases r1 with
    | tup s a => exact ⟨_, rfl, ⟨_, ex_t g1.sub s⟩, q _ S1 H1 g1 (wk_t s a)⟩
def rangeD (lo : Int) (n : Nat) : List DV := (List.range n).map fun (i : Nat) => DV.int (lo + (i : Int))
theorem rangeD_len {lo : Int} {n : Nat} : (rangeD lo n).length = n := by unfold rangeD; simp
theorem wk_r {S : Hp} (lo : Int) (n : Nat) : WkD K (Itr lo n) S (rangeD lo n) where
  stop := fun H e => by rw [rangeD_len]; exact Nat.le_refl n
  go := fun i H e hi => by rw [rangeD_len] at hi; exact hi
  yld := fun i H x H' y d hd S1 e e1 => by
    obtain ⟨rfl, rfl⟩ := y
    unfold rangeD at hd
    rw [List.getElem?_map] at hd
    cases q : (List.range n)[i]? with
    | none => rw [q] at hd; cases hd
    | some j =>
      rw [q] at hd
      have hj : i = j := by
        have z := List.getElem?_eq_some_iff.mp q
        obtain ⟨z1, z2⟩ := z
        rw [List.getElem_range] at z2
        exact z2
      subst hj
      cases hd
      exact ⟨S1, Go.rf e1, .int _⟩
theorem iv_range {n : Nat} (h : EvD K te ρ (.int n)) (hn : n ≤ 100000) : IvD K (iRng1 (tCons te tNil)) ρ (rangeD 0 n) := fun H0 σ S H e m R q =>
  h H0 σ S H e m _ fun v S1 H1 g1 r1 => by
    cases r1
    refine ⟨(n : Int), rfl, by omega, by omega, q _ S1 H1 g1 ?_⟩
    rw [Int.toNat_natCast]
    exact wk_r 0 n
def signD (x : Str) : List DV := x.cps.toList.map fun c => DV.str ⟨#[c]⟩
theorem wk_s {S : Hp} (x : Str) : WkD K (Its x) S (signD x) where
  stop := fun H e => by unfold signD; rw [List.length_map]; show x.cps.size ≤ x.cps.toList.length; rw [Array.length_toList]; exact Nat.le_refl _
  go := fun i H e hi => by unfold signD at hi; rw [List.length_map, Array.length_toList] at hi; exact hi
  yld := fun i H v H' y d hd S1 e e1 => by
    obtain ⟨rfl, c, hc, rfl⟩ := y
    unfold signD at hd
    rw [List.getElem?_map, Array.getElem?_toList, hc] at hd
    cases hd
    exact ⟨S1, Go.rf e1, .str _⟩
theorem iv_str {x : Str} (h : EvD K te ρ (.str x)) : IvD K (iStr te) ρ (signD x) := fun H0 σ S H e n R q =>
  h H0 σ S H e n _ fun v S1 H1 g1 r1 => by
    cases r1
    exact ⟨x, rfl, q _ S1 H1 g1 (wk_s x)⟩
def enumD (ds : List DV) : List DV := (ds.zipIdx).map fun p => DV.tup [.int (p.2 : Int), p.1]
theorem enumD_len {ds : List DV} : (enumD ds).length = ds.length := by unfold enumD; simp
theorem enumD_get {ds : List DV} {i : Nat} {d e : DV} (h : ds[i]? = some e) (hd : (enumD ds)[i]? = some d) : d = .tup [.int (i : Int), e] := by
  unfold enumD at hd
  rw [List.getElem?_map, List.getElem?_zipIdx, h] at hd
  simp at hd
  exact hd.symm
theorem wk_e {S : Hp} {a : Addr} {xs : List V} {ds : List DV} (h : SqL K S a xs) (r : RpA K S xs ds) : WkD K (Ite K a) S (enumD ds) where
  stop := fun H e => ⟨xs, ex_l e h, by rw [enumD_len, r.len]; exact Nat.le_refl _⟩
  go := fun i H e hi => ⟨xs, xs[i]'(by rw [enumD_len] at hi; rw [r.len]; exact hi), ex_l e h, List.getElem?_eq_getElem _⟩
  yld := fun i H x H' y d hd S1 e e1 => by
    obtain ⟨T, x, rfl, nT, rfl, f⟩ := y
    have hi : i < ds.length := by
      have z := (List.getElem?_eq_some_iff.mp hd).1
      rwa [enumD_len] at z
    have hx := f xs (ex_l (e.tr e1) h)
    have rx := (r.getV hx (List.getElem?_eq_getElem hi)).up e
    rw [enumD_get (List.getElem?_eq_getElem hi) hd]
    exact ⟨_, Go.up e1 nT, .tup (.inl (.inl upd_same)) (.cons (.int _) (.cons (rx.up (Ex.new (e1.free nT))) .nil))⟩
theorem iv_enum {ds : List DV} (h : EvD K te ρ (.lst ds)) : IvD K (iEnum K (tCons te tNil)) ρ (enumD ds) := fun H0 σ S H e n R q =>
  h H0 σ S H e n _ fun v S1 H1 g1 r1 => by
    cases r1 with
    | lst s a => exact ⟨_, _, rfl, .inl (ex_rd g1.sub s), q _ S1 H1 g1 (wk_e (.inl s) a)⟩
end

/-! ### targets -/
def TgD (K : PySem.W.Frag) (g : TG) (is : List Nat) (d : DV) (ρ ρ' : Rho) : Prop := ∀ H0 σ S H v, Ex S H → En K H0 S H σ ρ → Rp K S v d → ∀ Q : L2.St → Hp → Prop,
  (∀ σ', En K H0 S H σ' ρ' → σ'.length = σ.length → (∀ j, j ∉ is → σ'[j]? = σ[j]?) → Q σ' H) → g v σ H Q
section
variable {K : PySem.W.Frag} {ρ ρ' ρ'' : Rho} {d : DV} {is js : List Nat}
theorem tg_name {i : Nat} : TgD K (gName i) [i] d ρ (ρ.set i (.val d)) := fun H0 σ S H v e n r Q q =>
  q _ (n.set r) (List.length_set ..) fun j hj => List.getElem?_set_ne (fun z => hj (by rw [z]; exact List.mem_singleton.mpr rfl))
def TgsD (K : PySem.W.Frag) (g : TGs) (is : List Nat) (ds : List DV) (ρ ρ' : Rho) : Prop := ∀ H0 σ S H vs, Ex S H → En K H0 S H σ ρ → RpA K S vs ds → ∀ Q : L2.St → Hp → Prop,
  (∀ σ', En K H0 S H σ' ρ' → σ'.length = σ.length → (∀ j, j ∉ is → σ'[j]? = σ[j]?) → Q σ' H) → g vs σ H Q
theorem tgs_nil : TgsD K gNil [] [] ρ ρ := fun H0 σ S H vs e n r Q q => by
  cases r
  exact ⟨rfl, q σ n rfl fun _ _ => rfl⟩
theorem tgs_cons {g : TG} {gs : TGs} {ds : List DV} (h : TgD K g is d ρ ρ') (hs : TgsD K gs js ds ρ' ρ'') : TgsD K (gCons g gs) (is ++ js) (d :: ds) ρ ρ'' := fun H0 σ S H vs e n r Q q => by
  cases r with
  | cons r1 r2 =>
    refine ⟨_, _, rfl, h H0 σ S H _ e n r1 _ fun σ1 n1 l1 f1 => hs H0 σ1 S H _ e n1 r2 _ fun σ2 n2 l2 f2 => q σ2 n2 (l2.trans l1) fun j hj => ?_⟩
    rw [f2 j (fun z => hj (List.mem_append_right _ z)), f1 j (fun z => hj (List.mem_append_left _ z))]
theorem tg_tup {gs : TGs} {ds : List DV} {n : Nat} (h : TgsD K gs is ds ρ ρ') (hl : ds.length = n) : TgD K (gTup K n gs) is (.tup ds) ρ ρ' := fun H0 σ S H v e m r Q q => by
  cases r with
  | tup s a => exact ⟨_, _, rfl, ex_t e s, by rw [a.len]; exact hl, h H0 σ S H _ e m a Q q⟩
end
theorem st_asgG {K : PySem.W.Frag} {ρ ρ' : Rho} {te : TE} {g : TG} {is : List Nat} {d : DV} {E : Po} (h : EvD K te ρ d) (hg : TgD K g is d ρ ρ') (q : E.nx ρ') : StD K (tAsg te g) ρ E := fun S0 H0 B σ S H D g0 b n o =>
  h H0 σ S H g0.sub n _ fun v S1 H1 g1 r1 => hg H0 σ S1 H1 v g1.sub (n.go g1) r1 _ fun σ' n' _ _ => o.nx _ _ S1 H1 q (g0.tr g1) (b.tr g1.s) n'
end PD

/-! Data: comprehensions, loops, lists of one's own. -/
namespace PD
open PySem PySem.Spec PyProof.Rows L2

theorem Go.chg {S H S' H' : Hp} {D : Addr} {o : HO} (g : Go S H S' H') (n : S' D = none) (m : H D = none) : Go S H S' (upd H' D o) :=
  ⟨g.s, g.h.off m, g.sub.off n, g.new⟩
theorem Go.frz {S H S' H' : Hp} {D : Addr} {o : HO} (g : Go S H S' H') (n : S' D = none) (m : H D = none) (h : H' D = some o) : Go S H (upd S' D o) H' :=
  ⟨g.s.tr (Ex.new n), g.h, fun a u q => by
    by_cases z : a = D
    · subst z
      rw [upd_same] at q
      rw [h]
      exact q
    · rw [upd_ne z] at q
      exact g.sub a u q, fun a u q k => by
    by_cases z : a = D
    · subst z
      exact m
    · rw [upd_ne z] at q
      exact g.new a u q k⟩
theorem Go.off {S H S' H' : Hp} {D : Addr} {o : HO} (g : Go S H S' H') (n : S D = none) (h : H D = some o) : S' D = none := by
  cases q : S' D with
  | none => rfl
  | some u =>
    have z := g.new D u q n
    rw [h] at z
    cases z
theorem wipe_get (σ : L2.St) (j : Nat) : ∀ vs : List Nat, (wipe σ vs)[j]? = if j ∈ vs then (if j < σ.length then some none else none) else σ[j]?
  | [] => by simp [wipe]
  | v :: vs => by
    have ih := wipe_get σ j vs
    show ((wipe σ vs).set v none)[j]? = _
    by_cases h : v = j
    · subst h
      rw [if_pos (List.mem_cons_self ..)]
      by_cases hl : v < σ.length
      · rw [if_pos hl, List.getElem?_set_self (by rw [wipe_length]; exact hl)]
      · rw [if_neg hl, List.getElem?_eq_none (by rw [List.length_set, wipe_length]; omega)]
    · rw [List.getElem?_set_ne h, ih]
      have e : (j ∈ v :: vs) = (j ∈ vs) := by
        rw [List.mem_cons]
        exact propext ⟨fun z => z.resolve_left (fun w => h w.symm), .inr⟩
      simp only [e]
theorem wipe_eq {σ σ2 : L2.St} {vs is : List Nat} (l : σ2.length = (wipe σ vs).length) (f : ∀ j, j ∉ is → σ2[j]? = (wipe σ vs)[j]?) (hs : ∀ j ∈ is, j ∈ vs) : wipe σ2 vs = wipe σ vs := by
  rw [wipe_length] at l
  refine List.ext_getElem? fun j => ?_
  rw [wipe_get, wipe_get, l]
  by_cases h : j ∈ vs
  · rw [if_pos h, if_pos h]
  · rw [if_neg h, if_neg h, f j (fun z => h (hs j z)), wipe_get, if_neg h]
/-- a reading that gives a list that nothing else names -/
def EvL (K : PySem.W.Frag) (te : TE) (ρ : Rho) (ds : List DV) : Prop := ∀ H0 σ S H, Ex S H → En K H0 S H σ ρ → ∀ Q : VK, (∀ p vs S' H', H p = none → Go S H S' H' → S' p = none → H' p = some (.lst vs) → RpA K S' vs ds → Q (.ref p) H') → te σ H Q
section
variable {K : PySem.W.Frag} {ρ : Rho} {te : TE} {ds : List DV} {d : DV}
theorem EvL.ev (h : EvL K te ρ ds) : EvD K te ρ (.lst ds) := fun H0 σ S H e n Q q =>
  h H0 σ S H e n Q fun p vs S' H' hp g nS hh r => q _ _ _ (g.frz nS hp hh) (.lst (.inl upd_same) (r.up (Ex.new nS)))
theorem el_lst {tx : TA} (h : EvA K tx ρ ds) (hl : ds.length ≤ 100000) : EvL K (tLst tx) ρ ds := fun H0 σ S H e n Q q =>
  h H0 σ S H e n _ fun vs S1 H1 g1 r1 => ⟨Nat.le_trans (by rw [r1.len]; exact hl) (by decide), fun p hp =>
    q p vs S1 _ (g1.h.free hp) (g1.chg (g1.sub.free hp) (g1.h.free hp)) (g1.sub.free hp) upd_same r1⟩
theorem take_more {α : Type} : ∀ {l : List α} {i : Nat} {x : α}, l[i]? = some x → l.take (i + 1) = l.take i ++ [x]
  | [], i, x, h => by simp at h
  | a :: l, 0, x, h => by
    have e : a = x := Option.some.inj h
    subst e
    rfl
  | a :: l, i + 1, x, h => by
    have ih := take_more (l := l) (i := i) (x := x) h
    show a :: l.take (i + 1) = a :: l.take i ++ [x]
    rw [ih]
    rfl
/-- [f d for d in ds if p d] -/
theorem el_lc {wi : TI} {g : TG} {tt : TT} {is vs : List Nat} (hi : IvD K wi ρ ds) (hlen : ds.length ≤ 100000) (his : ∀ j ∈ is, j ∈ vs) (ρ1 : DV → Rho) (p : DV → Bool) (f : DV → DV)
    (hg : ∀ d ∈ ds, TgD K g is d (wipeR ρ vs) (ρ1 d)) (ht : ∀ d ∈ ds, EvB K tt (ρ1 d) (p d)) (he : ∀ d ∈ ds, p d = true → EvD K te (ρ1 d) (f d)) : EvL K (tLc wi g tt te vs) ρ ((ds.filter p).map f) := fun H0 σ S H e n Q q =>
  hi H0 σ S H e n _ fun J S1 H1 g1 w1 => fun D hD => by
    have hDH : H D = none := g1.h.free hD
    refine ⟨fun i m H2 => m = ds.length - i ∧ i ≤ ds.length ∧ ∃ S2 acc, Go S1 H1 S2 H2 ∧ S2 D = none ∧ H2 D = some (.lst acc) ∧ RpA K S2 acc (((ds.take i).filter p).map f) ∧ acc.length ≤ i,
      ⟨_, rfl, Nat.zero_le _, S1, [], Go.side g1.sub (Ex.new hD) , g1.sub.free hD, upd_same, .nil, Nat.le_refl _⟩, ?_⟩
    rintro i m H2 ⟨rfl, hile, S2, acc, g2, nD, hD2, ra, hacc⟩
    by_cases hlt : i < ds.length
    · have hdi : ds[i]? = some ds[i] := List.getElem?_eq_getElem hlt
      have hmem : ds[i] ∈ ds := List.getElem_mem hlt
      have tk := take_more hdi
      refine .inr ⟨w1.go i H2 (g2.s.tr g2.sub) hlt, fun H' => ∃ S3 acc', Go S1 H1 S3 H' ∧ S3 D = none ∧ H' D = some (.lst acc') ∧ RpA K S3 acc' (((ds.take (i + 1)).filter p).map f) ∧ acc'.length ≤ i + 1,
        fun H' ⟨S3, acc', a, b, c, d, l⟩ => ⟨ds.length - (i + 1), by omega, rfl, hlt, S3, acc', a, b, c, d, l⟩, fun x H' y => ?_⟩
      obtain ⟨S3, g3, rx⟩ := w1.yld i H2 x H' y _ hdi S2 g2.s g2.sub
      have n3 := (((n.go g1).go g2).go g3).wipe vs
      refine hg _ hmem H0 (wipe σ vs) S3 H' x g3.sub n3 rx _ fun σ2 n2 l2 f2 => ⟨wipe_eq l2 f2 his, ?_⟩
      refine ht _ hmem H0 σ2 S3 H' g3.sub n2 _ fun S4 H4 g4 => ?_
      have hD4 : H4 D = some (.lst acc) := g4.h _ _ (g3.h _ _ hD2)
      have nD4 : S4 D = none := (g3.tr g4).off nD hD2
      cases hp : p ds[i] with
      | true =>
        rw [if_pos rfl]
        refine he _ hmem hp H0 σ2 S4 H4 g4.sub (n2.go g4) _ fun y S5 H5 g5 r5 => ⟨acc, g5.h _ _ hD4, Nat.lt_of_le_of_lt (Nat.le_trans hacc (Nat.le_of_lt hlt)) (Nat.lt_of_le_of_lt hlen (by decide)), S5, acc ++ [y], ?_, ?_, upd_same, ?_, ?_⟩
        · exact (g2.tr ((g3.tr g4).tr g5)).chg (g5.off nD4 hD4) hD
        · exact g5.off nD4 hD4
        · rw [tk, List.filter_append, List.map_append]
          have e1 : ([ds[i]].filter p).map f = [f ds[i]] := by simp [hp]
          rw [e1]
          exact (((ra.up g3.s).up g4.s).up g5.s).snoc r5
        · rw [List.length_append, List.length_singleton]
          omega
      | false =>
        rw [if_neg (by decide)]
        refine ⟨S4, acc, g2.tr (g3.tr g4), nD4, hD4, ?_, by omega⟩
        rw [tk, List.filter_append, List.map_append]
        have e1 : ([ds[i]].filter p).map f = [] := by simp [hp]
        rw [e1, List.append_nil]
        exact (ra.up g3.s).up g4.s
    · have e : i = ds.length := by omega
      subst e
      rw [List.take_length] at ra
      exact .inl ⟨w1.stop H2 (g2.s.tr g2.sub), q D acc S2 H2 hDH (g1.tr g2) nD hD2 ra⟩
def EV.hid : EV → EV
  | .ownD _ => .un | e => e
def EV.isOwn : EV → Bool
  | .ownD _ => true | _ => false
def noOwn (ρ : Rho) : Bool := ρ.all fun e => !e.isOwn
theorem noOwn_get {ρ : Rho} (h : noOwn ρ = true) {i : Nat} {e : EV} (hi : ρ[i]? = some e) : e.isOwn = false := by
  unfold noOwn at h
  rw [List.all_eq_true] at h
  have z := h e (List.mem_of_getElem? hi)
  simpa using z
theorem En.still {H0 S S' H H' : Hp} {σ : L2.St} {ρ : Rho} (n : En K H0 S H σ ρ) (h : noOwn ρ = true) (e : Ex S S') : En K H0 S' H' σ ρ where
  len := n.len
  at_ := fun i v u a b => by
    have q := n.at_ i v u a b
    have z := noOwn_get h b
    cases u with
    | un => trivial
    | exo _ _ _ => obtain ⟨a1, fs, b1, c1⟩ := q; exact ⟨a1, fs, e _ _ b1, c1.up e⟩
    | val d =>
      obtain ⟨w, x, r⟩ := q
      exact ⟨w, x, r.up e⟩
    | ownD _ => cases z
  sep := n.sep
theorem eb_yes : EvB K tYes ρ true := fun H0 σ S H e n Q q => q S H (Go.rf e)
/-- [f d e for d in ds if p d for e in es d if p1 d e] -/
theorem el_lc2 {wi wi1 : TI} {g g1 : TG} {tt tt1 : TT} {is is1 vs vs1 : List Nat} (hi : IvD K wi ρ ds) (his : ∀ j ∈ is, j ∈ vs) (his1 : ∀ j ∈ is1, j ∈ vs1) (ρ1 : DV → Rho) (p : DV → Bool) (es : DV → List DV) (ρ2 : DV → DV → Rho) (p1 : DV → DV → Bool) (f : DV → DV → DV)
    (hno : ∀ d ∈ ds, noOwn (ρ1 d) = true) (hlen : ((ds.filter p).flatMap fun d => ((es d).filter (p1 d)).map (f d)).length ≤ 100000)
    (hg : ∀ d ∈ ds, TgD K g is d (wipeR ρ vs) (ρ1 d)) (ht : ∀ d ∈ ds, EvB K tt (ρ1 d) (p d)) (hi1 : ∀ d ∈ ds, p d = true → IvD K wi1 (ρ1 d) (es d))
    (hg1 : ∀ d ∈ ds, p d = true → ∀ c ∈ es d, TgD K g1 is1 c (wipeR (ρ1 d) vs1) (ρ2 d c)) (ht1 : ∀ d ∈ ds, p d = true → ∀ c ∈ es d, EvB K tt1 (ρ2 d c) (p1 d c))
    (he : ∀ d ∈ ds, p d = true → ∀ c ∈ es d, p1 d c = true → EvD K te (ρ2 d c) (f d c)) : EvL K (tLc2 wi g tt wi1 g1 tt1 te vs vs1) ρ ((ds.filter p).flatMap fun d => ((es d).filter (p1 d)).map (f d)) := fun H0 σ S H e n Q q =>
  hi H0 σ S H e n _ fun J S1 H1 ga w1 => fun D hD => by
    have hDH : H D = none := ga.h.free hD
    refine ⟨fun i m H2 => m = ds.length - i ∧ i ≤ ds.length ∧ ∃ S2 acc, Go S1 H1 S2 H2 ∧ S2 D = none ∧ H2 D = some (.lst acc) ∧ RpA K S2 acc (((ds.take i).filter p).flatMap fun d => ((es d).filter (p1 d)).map (f d)),
      ⟨_, rfl, Nat.zero_le _, S1, [], Go.side ga.sub (Ex.new hD) , ga.sub.free hD, upd_same, .nil⟩, ?_⟩
    rintro i m H2 ⟨rfl, hile, S2, acc, g2, nD, hD2, ra⟩
    by_cases hlt : i < ds.length
    · have hdi : ds[i]? = some ds[i] := List.getElem?_eq_getElem hlt
      have hmem : ds[i] ∈ ds := List.getElem_mem hlt
      have tk := take_more hdi
      refine .inr ⟨w1.go i H2 (g2.s.tr g2.sub) hlt, fun H' => ∃ S3 acc', Go S1 H1 S3 H' ∧ S3 D = none ∧ H' D = some (.lst acc') ∧ RpA K S3 acc' (((ds.take (i + 1)).filter p).flatMap fun d => ((es d).filter (p1 d)).map (f d)),
        fun H' ⟨S3, acc', a, b, c, d⟩ => ⟨ds.length - (i + 1), by omega, rfl, hlt, S3, acc', a, b, c, d⟩, fun x H' y => ?_⟩
      obtain ⟨S3, g3, rx⟩ := w1.yld i H2 x H' y _ hdi S2 g2.s g2.sub
      have n3 := (((n.go ga).go g2).go g3).wipe vs
      refine hg _ hmem H0 (wipe σ vs) S3 H' x g3.sub n3 rx _ fun σ2 n2 l2 f2 => ⟨wipe_eq l2 f2 his, ?_⟩
      refine ht _ hmem H0 σ2 S3 H' g3.sub n2 _ fun S4 H4 g4 => ?_
      have hD4 : H4 D = some (.lst acc) := g4.h _ _ (g3.h _ _ hD2)
      have nD4 : S4 D = none := (g3.tr g4).off nD hD2
      cases hp : p ds[i] with
      | false =>
        rw [if_neg (by decide)]
        refine ⟨S4, acc, g2.tr (g3.tr g4), nD4, hD4, ?_⟩
        rw [tk, List.filter_append, List.flatMap_append]
        have e1 : (([ds[i]].filter p).flatMap fun d => ((es d).filter (p1 d)).map (f d)) = [] := by simp [hp]
        rw [e1, List.append_nil]
        exact (ra.up g3.s).up g4.s
      | true =>
        rw [if_pos rfl]
        have g14 : Go S1 H1 S4 H4 := g2.tr (g3.tr g4)
        have ra4 := (ra.up g3.s).up g4.s
        have all : ∀ j, (((ds.take i).filter p).flatMap fun d => ((es d).filter (p1 d)).map (f d)).length + ((((es ds[i]).take j).filter (p1 ds[i])).map (f ds[i])).length ≤ 100000 := fun j => by
          refine Nat.le_trans ?_ hlen
          have h1 : ds = ds.take i ++ ds[i] :: ds.drop (i + 1) := by
            rw [List.getElem_cons_drop, List.take_append_drop]
          have h2 : es ds[i] = (es ds[i]).take j ++ (es ds[i]).drop j := (List.take_append_drop ..).symm
          have h3 : ((ds.filter p).flatMap fun d => ((es d).filter (p1 d)).map (f d)).length = (((ds.take i ++ ds[i] :: ds.drop (i + 1)).filter p).flatMap fun d => ((es d).filter (p1 d)).map (f d)).length := by rw [← h1]
          rw [h3, List.filter_append, List.filter_cons_of_pos hp, List.flatMap_append, List.flatMap_cons, List.length_append, List.length_append]
          have h4 : (((es ds[i]).filter (p1 ds[i])).map (f ds[i])).length = ((((es ds[i]).take j ++ (es ds[i]).drop j).filter (p1 ds[i])).map (f ds[i])).length := by rw [← h2]
          rw [h4, List.filter_append, List.map_append, List.length_append]
          omega
        refine hi1 _ hmem hp H0 σ2 S4 H4 g4.sub (n2.go g4) _ fun J1 S5 H5 g5 w5 => ?_
        refine ⟨fun j k H6 => k = (es ds[i]).length - j ∧ j ≤ (es ds[i]).length ∧ ∃ S6 acc6, Go S1 H1 S6 H6 ∧ Ex S5 S6 ∧ S6 D = none ∧ H6 D = some (.lst acc6) ∧ RpA K S6 acc6 ((((ds.take i).filter p).flatMap fun d => ((es d).filter (p1 d)).map (f d)) ++ (((es ds[i]).take j).filter (p1 ds[i])).map (f ds[i])), ?_, ?_⟩
        · exact ⟨_, rfl, Nat.zero_le _, S5, acc, g14.tr g5, Ex.rf _, g5.off nD4 hD4, g5.h _ _ hD4, by
            rw [List.take_zero]
            show RpA K S5 acc (_ ++ [])
            rw [List.append_nil]
            exact ra4.up g5.s⟩
        · rintro j k H6 ⟨rfl, hjle, S6, acc6, g6, e6, nD6, hD6, ra6⟩
          by_cases hjl : j < (es ds[i]).length
          · have hej : (es ds[i])[j]? = some (es ds[i])[j] := List.getElem?_eq_getElem hjl
            have hemem : (es ds[i])[j] ∈ es ds[i] := List.getElem_mem hjl
            have tk1 := take_more hej
            refine .inr ⟨w5.go j H6 (e6.tr g6.sub) hjl, fun H' => ∃ S7 acc7, Go S1 H1 S7 H' ∧ Ex S5 S7 ∧ S7 D = none ∧ H' D = some (.lst acc7) ∧ RpA K S7 acc7 ((((ds.take i).filter p).flatMap fun d => ((es d).filter (p1 d)).map (f d)) ++ (((es ds[i]).take (j + 1)).filter (p1 ds[i])).map (f ds[i])),
              fun H' ⟨S7, acc7, a, z, b, c, d⟩ => ⟨(es ds[i]).length - (j + 1), by omega, rfl, hjl, S7, acc7, a, z, b, c, d⟩, fun x1 H7 y1 => ?_⟩
            obtain ⟨S7, g7, rx1⟩ := w5.yld j H6 x1 H7 y1 _ hej S6 e6 g6.sub
            have n7 : En K H0 S7 H7 (wipe σ2 vs1) (wipeR (ρ1 ds[i]) vs1) := (n2.still (hno _ hmem) (g4.s.tr (g5.s.tr (e6.tr g7.s)))).wipe vs1
            refine hg1 _ hmem hp _ hemem H0 (wipe σ2 vs1) S7 H7 x1 g7.sub n7 rx1 _ fun σ3 n8 l3 f3 => ⟨wipe_eq l3 f3 his1, ?_⟩
            refine ht1 _ hmem hp _ hemem H0 σ3 S7 H7 g7.sub n8 _ fun S8 H8 g8 => ?_
            have hD8 : H8 D = some (.lst acc6) := g8.h _ _ (g7.h _ _ hD6)
            have nD8 : S8 D = none := (g7.tr g8).off nD6 hD6
            cases hp1 : p1 ds[i] (es ds[i])[j] with
            | false =>
              rw [if_neg (by decide)]
              refine ⟨S8, acc6, g6.tr (g7.tr g8), e6.tr (g7.s.tr g8.s), nD8, hD8, ?_⟩
              rw [tk1, List.filter_append, List.map_append]
              have e1 : ([(es ds[i])[j]].filter (p1 ds[i])).map (f ds[i]) = [] := by simp [hp1]
              rw [e1, List.append_nil]
              exact (ra6.up g7.s).up g8.s
            | true =>
              rw [if_pos rfl]
              have hal := all j
              refine he _ hmem hp _ hemem hp1 H0 σ3 S8 H8 g8.sub (n8.go g8) _ fun y S9 H9 g9 r9 => ⟨acc6, g9.h _ _ hD8, ?_, S9, acc6 ++ [y], ?_, e6.tr (g7.s.tr (g8.s.tr g9.s)), g9.off nD8 hD8, upd_same, ?_⟩
              · rw [ra6.len, List.length_append]
                exact Nat.lt_of_le_of_lt hal (by decide)
              · exact (g6.tr ((g7.tr g8).tr g9)).chg (g9.off nD8 hD8) hD
              · rw [tk1, List.filter_append, List.map_append]
                have e1 : ([(es ds[i])[j]].filter (p1 ds[i])).map (f ds[i]) = [f ds[i] (es ds[i])[j]] := by simp [hp1]
                rw [e1, ← List.append_assoc]
                exact (((ra6.up g7.s).up g8.s).up g9.s).snoc r9
          · have e : j = (es ds[i]).length := by omega
            subst e
            rw [List.take_length] at ra6
            refine .inl ⟨w5.stop H6 (e6.tr g6.sub), S6, acc6, g6, nD6, hD6, ?_⟩
            rw [tk, List.filter_append, List.flatMap_append]
            have e1 : (([ds[i]].filter p).flatMap fun d => ((es d).filter (p1 d)).map (f d)) = ((es ds[i]).filter (p1 ds[i])).map (f ds[i]) := by simp [hp]
            rw [e1]
            exact ra6
    · have e : i = ds.length := by omega
      subst e
      rw [List.take_length] at ra
      exact .inl ⟨w1.stop H2 (g2.s.tr g2.sub), q D acc S2 H2 hDH (ga.tr g2) nD hD2 ra⟩
end
end PD

/-! Data: for loops; what is done with lists of one's own. -/
namespace PD
open PySem PySem.Spec PyProof.Rows L2
section
variable {K : PySem.W.Frag} {ρ : Rho} {te tb : TE} {ts : TS} {ds es : List DV} {d : DV} {E : Po}
theorem st_for {wi : TI} {g : TG} {is : List Nat} (hi : IvD K wi ρ ds) (I : Nat → Rho → Prop) (h0 : I 0 ρ)
    (hs : ∀ i d ρ', ds[i]? = some d → I i ρ' → ∃ ρ'', TgD K g is d ρ' ρ'' ∧ StD K ts ρ'' { nx := I (i + 1), ct := I (i + 1), bk := E.nx, rt := E.rt }) (hd : ∀ ρ', I ds.length ρ' → E.nx ρ') : StD K (tFor wi g ts) ρ E := fun S0 H0 B σ S H D g0 b n o =>
  hi H0 σ S H g0.sub n _ fun J S1 H1 g1 w1 => by
    refine ⟨fun i m σ2 H2 => m = ds.length - i ∧ i ≤ ds.length ∧ ∃ ρ' S2, I i ρ' ∧ Go S0 H0 S2 H2 ∧ Ex S1 S2 ∧ En K H0 S2 H2 σ2 ρ', ⟨_, rfl, Nat.zero_le _, ρ, S1, h0, g0.tr g1, Ex.rf _, n.go g1⟩, ?_⟩
    rintro i m σ2 H2 ⟨rfl, hile, ρ', S2, hI, g2, e2, n2⟩
    by_cases hlt : i < ds.length
    · have hdi : ds[i]? = some ds[i] := List.getElem?_eq_getElem hlt
      refine .inr ⟨w1.go i H2 (e2.tr g2.sub) hlt, fun σ' H' => ∃ ρ' S2, I (i + 1) ρ' ∧ Go S0 H0 S2 H' ∧ Ex S1 S2 ∧ En K H0 S2 H' σ' ρ', fun σ' H' ⟨ρ', S2, a, b, c, d⟩ => ⟨ds.length - (i + 1), by omega, rfl, hlt, ρ', S2, a, b, c, d⟩, fun x H' y => ?_⟩
      obtain ⟨S3, g3, rx⟩ := w1.yld i H2 x H' y _ hdi S2 e2 g2.sub
      obtain ⟨ρ'', tg, bd⟩ := hs i _ ρ' hdi hI
      refine tg H0 σ2 S3 H' x g3.sub (n2.go g3) rx _ fun σ3 n3 _ _ => ?_
      refine bd S0 H0 S1 σ3 S3 H' _ (g2.tr g3) (e2.tr g3.s) n3 ⟨fun ρ5 σ5 S5 H5 q g5 b5 n5 => ⟨ρ5, S5, q, g5, b5, n5⟩, fun d v S5 H5 q g5 r5 => o.rt d v S5 H5 q g5 r5, fun ρ5 σ5 S5 H5 q g5 b5 n5 => o.nx ρ5 σ5 S5 H5 q g5 ((b.tr g1.s).tr b5) n5, fun ρ5 σ5 S5 H5 q g5 b5 n5 => ⟨ρ5, S5, q, g5, b5, n5⟩⟩
    · have e : i = ds.length := by omega
      subst e
      exact .inl ⟨w1.stop H2 (e2.tr g2.sub), o.nx ρ' σ2 S2 H2 (hd ρ' hI) g2 ((b.tr g1.s).tr e2) n2⟩
/-- x = a new list, kept as one's own -/
theorem st_asgL {i : Nat} (h : EvL K te ρ ds) (q : E.nx (ρ.set i (.own ds))) : StD K (tAsg te (gName i)) ρ E := fun S0 H0 B σ S H D g b n o =>
  h H0 σ S H g.sub n _ fun p vs S1 H1 hp g1 n1 h1 r1 => o.nx _ _ S1 H1 q (g.tr g1) (b.tr g1.s) ((n.go g1).setOwn (g.h.free hp) n1 h1 r1 fun j hj es' hes z => by
    obtain ⟨p', vs', e1, _, _, h2, _⟩ := n.ownD hes
    rw [e1] at z
    cases z
    rw [hp] at h2
    cases h2)
/-- x.append(e) -/
theorem st_append {i : Nat} (hi : ρ[i]? = some (.own ds)) (h : EvD K te ρ d) (hl : ds.length < 100000) (q : E.nx (ρ.set i (.own (ds ++ [d])))) : StD K (tDrop (tBM K "list" rAppend (tVar i) (tCons te tNil))) ρ E := fun S0 H0 B σ S H D g b n o => by
  obtain ⟨p, vs, hp, h0, hs, hh, r⟩ := n.own hi
  refine ⟨.ref p, hp, .inl ⟨rfl, vs, .inl (.inl hh)⟩, h H0 σ S H g.sub n _ fun v S1 H1 g1 r1 => ⟨p, vs, v, rfl, rfl, g1.h _ _ hh, Nat.lt_of_lt_of_le (by rw [r.len]; exact hl) (by decide), ?_⟩⟩
  have nS : S1 p = none := g1.off hs hh
  exact o.nx _ _ S1 _ q ((g.tr g1).chg nS h0) (b.tr g1.s) ((n.go g1).chg hi hp nS ((r.up g1.s).snoc r1))
def rExtR : V → List V → Hp → VK → Prop := fun x vs H Q => ∃ l b xs zs, x = .ref l ∧ vs = [.ref b] ∧ H l = some (.lst xs) ∧ Rd H b (.lst zs) ∧ xs.length + zs.length ≤ sizeLine ∧ Q .non (upd H l (.lst (xs ++ zs)))
theorem mt_extR {X : Cx} : MtM X "list.extend" rExtR := by
  intro pins s σ H x vs v us Q I rx rv h
  obtain ⟨l, b, xs, zs, rfl, rfl, hH, hB, hz, q⟩ := h
  cases rx
  obtain ⟨u, rfl, ru⟩ := rv.one
  cases ru
  obtain ⟨z, its, n, r, hl, e⟩ := I.lstM hH
  obtain ⟨z2, its2, n2, r2, e2⟩ := hB.ok I.hok
  have hl2 := r2.length
  have hsz : its.toArray.size + its2.toArray.size ≤ sizeLine := by rw [List.size_toArray, List.size_toArray]; omega
  have hlong : ¬ (!its.toArray.isEmpty && Builtin.List.listTooLong (its.toArray.size + its2.toArray.size)) = true := by
    rw [notLongL hsz, Bool.and_false]
    exact Bool.false_ne_true
  refine call_meets F.slot_list_extend ⟨_, e, rfl⟩ F.entry_list_extend (F.args_list_extend_2 _ _)
    (AutoSeq1.list_extend_list_list_0 l its.toArray n b its2.toArray n2 hlong (by rw [List.size_toArray]; omega) (by omega)) ⟨e, e2, ?_⟩
  refine ⟨.non, _, I.lset (its' := its ++ its2) hH e (by simp) (r.append r2) ?_, rfl, q⟩
  rw [List.length_append]
  omega
/-- x.extend(e) -/
theorem st_extend {i : Nat} (hi : ρ[i]? = some (.own ds)) (h : EvD K te ρ (.lst es)) (hl : ds.length + es.length ≤ 100000) (q : E.nx (ρ.set i (.own (ds ++ es)))) : StD K (tDrop (tBM K "list" rExtR (tVar i) (tCons te tNil))) ρ E := fun S0 H0 B σ S H D g b n o => by
  obtain ⟨p, vs, hp, h0, hs, hh, r⟩ := n.own hi
  refine ⟨.ref p, hp, .inl ⟨rfl, vs, .inl (.inl hh)⟩, h H0 σ S H g.sub n _ fun v S1 H1 g1 r1 => ?_⟩
  cases r1 with
  | lst s1 a1 =>
    refine ⟨p, _, vs, _, rfl, rfl, g1.h _ _ hh, ex_rd g1.sub s1, by rw [r.len, a1.len]; exact sz5 hl, ?_⟩
    have nS : S1 p = none := g1.off hs hh
    exact o.nx _ _ S1 _ q ((g.tr g1).chg nS h0) (b.tr g1.s) ((n.go g1).chg hi hp nS ((r.up g1.s).append a1))
/-- x[i], x one's own list -/
theorem ev_ixOwn {i : Nat} {j : Int} (hi : ρ[i]? = some (.own ds)) (h : EvD K te ρ (.int j)) (ha : atI ds j = some d) : EvD K (tOp (rIxL K) (tVar i) te) ρ d := fun H0 σ S H e n Q q => by
  obtain ⟨p, vs, hp, h0, hs, hh, r⟩ := n.own hi
  refine ⟨.ref p, hp, h H0 σ S H e n _ fun v S1 H1 g1 r1 => ?_⟩
  cases r1
  obtain ⟨u, hu, ru⟩ := rpa_at (r.up g1.s) ha
  exact ⟨p, vs, j, u, rfl, rfl, .inl (.inl (g1.h _ _ hh)), hu, q u S1 H1 g1 ru⟩
theorem flat_up {S S' : Hp} {v : V} (h : d.flat = true) (r : Rp K S v d) : Rp K S' v d := by
  cases r <;> first | exact .non | exact .bl _ | exact .int _ | exact .str _ | cases h
/-- an expression that reads one's own list and gives a flat thing -/
theorem ev_tmp {i : Nat} (hi : ρ[i]? = some (.own ds)) (h : EvD K te (ρ.set i (.val (.lst ds))) d) (hf : d.flat = true) : EvD K te ρ d := fun H0 σ S H e n Q q => by
  obtain ⟨p, vs, hp, h0, hs, hh, r⟩ := n.own hi
  have e1 : Ex (upd S p (.lst vs)) H := fun a u z => by
    by_cases w : a = p
    · subst w
      rw [upd_same] at z
      rw [hh]
      exact z
    · rw [upd_ne w] at z
      exact e a u z
  have n1 : En K H0 (upd S p (.lst vs)) H σ (ρ.set i (.val (.lst ds))) := n.lend hi hp hs (.lst r)
  exact h H0 σ _ H e1 n1 Q fun v S1 H1 g1 r1 => q v S H1 (Go.side e g1.h) (flat_up hf r1)
end
section
variable {K : PySem.W.Frag} {ρ : Rho} {te : TE} {ds : List DV} {d : DV}
/-- only some slots are looked at -/
def only (is : List Nat) (ρ : Rho) : Rho := ρ.mapIdx fun i e => if i ∈ is then e.hid else .un
theorem En.only {H0 S H : Hp} {σ : L2.St} (is : List Nat) (n : En K H0 S H σ ρ) : En K H0 S H σ (PD.only is ρ) where
  len := by unfold PD.only; rw [List.length_mapIdx]; exact n.len
  at_ := fun i v u a b => by
    unfold PD.only at b
    rw [List.getElem?_mapIdx] at b
    cases q : ρ[i]? with
    | none => rw [q] at b; cases b
    | some w =>
      rw [q] at b
      have z := n.at_ i v w a q
      have e : (if i ∈ is then w.hid else EV.un) = u := Option.some.inj b
      subst e
      split
      · cases w with
        | un => trivial
        | exo _ _ _ => exact z
        | val d => exact z
        | ownD _ => trivial
      · trivial
  sep := fun i j p q ds es hij a b c e => by
    unfold PD.only at a
    rw [List.getElem?_mapIdx] at a
    cases z : ρ[i]? with
    | none => rw [z] at a; cases a
    | some w =>
      rw [z] at a
      have e : (if i ∈ is then w.hid else EV.un) = .ownD ds := Option.some.inj a
      split at e
      · cases w <;> cases e
      · cases e
theorem el_only (is : List Nat) (h : EvL K te (only is ρ) ds) : EvL K te ρ ds := fun H0 σ S H e n Q q => h H0 σ S H e (n.only is) Q q
end
end PD

/-! Data: the rules by syntax. A piece of syntax is read by whatever reading is right for it (U..). -/
namespace PD
open PySem PySem.Spec PyProof.Rows L2

/-- the program, the module's part of the heap -/
structure Gb where
  P : Program
  w : World
  K : PySem.W.Frag
  mg : Str → Option Value
  base : Heap
/-- where one stands: room, names by slot, scope -/
structure Lc where
  k : Nat
  N : List Str
  sc : Scope
  fn : Str → Bool
  cb : Bool
  ex : Option (Addr × Value × Option Addr)
structure Of (g : Gb) (l : Lc) (X : Cx) : Prop where
  prog : X.prog = g.P
  w : X.w = g.w
  K : X.K = g.K
  mg : X.mg = g.mg
  base : X.base = g.base
  N : X.N = l.N
  sc : X.env.scope = l.sc
  fn : ∀ x, l.fn x = true → X.fn x = true
  calm : l.cb = true → X.calm = true
  room : l.cb = true → Room l.k X.A
  un : X.A.units + 16 * l.k + 200 < cLine
  po : l.cb = true → PassesOwn (model X.prog X.w) X.A X.env X.xe
  ex : ∀ a cls d, l.ex = some (a, cls, d) → ∃ (Y : Cx) (oe : Obj) (pn : List (Addr × Obj)), X = Y.suite a ((a, oe) :: pn) ∧ Zc cls d oe ∧ ∃ vs, oe.data = .fields vs
theorem Of.vis {g : Gb} {l : Lc} {X : Cx} (o : Of g l X) {x : Str} (h : Vis l.sc x) : Vis X.env.scope x := by rw [o.sc]; exact h
abbrev GlN (l : Lc) (n : Str) : Prop := l.sc.names.lookup n = some .globalImplicit
theorem Of.gl {g : Gb} {l : Lc} {X : Cx} (o : Of g l X) {x : Str} (h : GlN l x) : Gl X x := by
  show X.env.scope.names.lookup x = _
  rw [o.sc]
  exact h
theorem Of.u64 {g : Gb} {l : Lc} {X : Cx} (o : Of g l X) : X.A.units + 64 < cLine := by
  have := o.un
  omega

section
variable (g : Gb) (l : Lc)
def UE (e : Expr) : TE := fun σ H Q => ∃ t, (∀ X, Of g l X → PE X e t) ∧ t σ H Q
def UT (e : Expr) : TT := fun σ H Q => ∃ t, (∀ X, Of g l X → PT X e t) ∧ t σ H Q
def UW (e : Expr) : TT := fun σ H Q => ∃ t, (∀ X, Of g l X → PW X e t) ∧ t σ H Q
def UA (es : List Expr) : TA := fun σ H Q => ∃ t, (∀ X, Of g l X → PA X es t) ∧ t σ H Q
def UP (e : Option Expr) : TO := fun σ H Q => ∃ t, (∀ X, Of g l X → PO X e t) ∧ t σ H Q
def US (st : Stmt) : TS := fun D σ H => ∃ t, (∀ X, Of g l X → PS X st t) ∧ t D σ H
def USs (st : List Stmt) : TS := fun D σ H => ∃ t, (∀ X, Of g l X → PSs X st t) ∧ t D σ H
def UI (tg iter : Expr) : TI := fun σ H R => ∃ t, (∀ X, Of g l X → PI X tg iter t) ∧ t σ H R
def UTs (ifs : List Expr) : TT := fun σ H Q => ∃ t, (∀ X, Of g l X → PTs X ifs t) ∧ t σ H Q
def DE (e : Expr) (ρ : Rho) (d : DV) : Prop := EvD g.K (UE g l e) ρ d
def DT (e : Expr) (ρ : Rho) (b : Bool) : Prop := EvB g.K (UT g l e) ρ b
def DW (e : Expr) (ρ : Rho) (b : Bool) : Prop := EvB g.K (UW g l e) ρ b
def DA (es : List Expr) (ρ : Rho) (ds : List DV) : Prop := EvA g.K (UA g l es) ρ ds
def DP (e : Option Expr) (ρ : Rho) (o : Option Int) : Prop := EvO g.K (UP g l e) ρ o
def DI (tg iter : Expr) (ρ : Rho) (ds : List DV) : Prop := IvD g.K (UI g l tg iter) ρ ds
def DL (e : Expr) (ρ : Rho) (ds : List DV) : Prop := EvL g.K (UE g l e) ρ ds
def DTs (es : List Expr) (ρ : Rho) (b : Bool) : Prop := EvB g.K (UTs g l es) ρ b
def DS (st : Stmt) (ρ : Rho) (E : Po) : Prop := StD g.K (US g l st) ρ E
def DSs (st : List Stmt) (ρ : Rho) (E : Po) : Prop := StD g.K (USs g l st) ρ E
end
section
variable {g : Gb} {l : Lc} {X : Cx}
theorem UE.pe (o : Of g l X) (e : Expr) : PE X e (UE g l e) := ⟨fun pins s σ H Q I ⟨t, h, q⟩ => (h X o).run pins s σ H Q I q⟩
theorem UT.pt (o : Of g l X) (e : Expr) : PT X e (UT g l e) := ⟨fun pins s σ H Q I ⟨t, h, q⟩ => (h X o).run pins s σ H Q I q⟩
theorem UW.pw (o : Of g l X) (e : Expr) : PW X e (UW g l e) := ⟨fun wh pins s σ H Q I ⟨t, h, q⟩ => (h X o).run wh pins s σ H Q I q⟩
theorem UA.pa (o : Of g l X) (es : List Expr) : PA X es (UA g l es) := ⟨fun pos pins s σ H Q I ⟨t, h, q⟩ => (h X o).run pos pins s σ H Q I q⟩
theorem UP.po (o : Of g l X) (e : Option Expr) : PO X e (UP g l e) := ⟨fun pins s σ H Q I ⟨t, h, q⟩ => (h X o).run pins s σ H Q I q⟩
theorem US.ps (o : Of g l X) (st : Stmt) : PS X st (US g l st) := ⟨fun pins s σ H D I ⟨t, h, q⟩ => (h X o).run pins s σ H D I q⟩
theorem USs.pss (o : Of g l X) (st : List Stmt) : PSs X st (USs g l st) := ⟨fun pins s σ H D I ⟨t, h, q⟩ => (h X o).run pins s σ H D I q⟩
theorem UI.pi (o : Of g l X) (tg iter : Expr) : PI X tg iter (UI g l tg iter) := ⟨fun pins s σ H R I ⟨t, h, q⟩ => (h X o).run pins s σ H R I q⟩
theorem UTs.pts (o : Of g l X) (ifs : List Expr) : PTs X ifs (UTs g l ifs) := ⟨fun pins s σ H Q I ⟨t, h, q⟩ => (h X o).run pins s σ H Q I q⟩
end
section
variable {g : Gb} {l : Lc} {ρ ρ' : Rho} {a b c e : Expr} {es rest : List Expr} {da db d : DV} {pos : Pos} {ds : List DV} {x y : Bool}
theorem DE.by (t : TE) (h : ∀ X, Of g l X → PE X e t) (v : EvD g.K t ρ d) : DE g l e ρ d := fun H0 σ S H ex n Q q => ⟨t, h, v H0 σ S H ex n Q q⟩
theorem DL.by (t : TE) (h : ∀ X, Of g l X → PE X e t) (v : EvL g.K t ρ ds) : DL g l e ρ ds := fun H0 σ S H ex n Q q => ⟨t, h, v H0 σ S H ex n Q q⟩
theorem DT.by (t : TT) (h : ∀ X, Of g l X → PT X e t) (v : EvB g.K t ρ x) : DT g l e ρ x := fun H0 σ S H ex n Q q => ⟨t, h, v H0 σ S H ex n Q q⟩
theorem DW.by (t : TT) (h : ∀ X, Of g l X → PW X e t) (v : EvB g.K t ρ x) : DW g l e ρ x := fun H0 σ S H ex n Q q => ⟨t, h, v H0 σ S H ex n Q q⟩
theorem DA.by (t : TA) (h : ∀ X, Of g l X → PA X es t) (v : EvA g.K t ρ ds) : DA g l es ρ ds := fun H0 σ S H ex n Q q => ⟨t, h, v H0 σ S H ex n Q q⟩
theorem DI.by {tg : Expr} (t : TI) (h : ∀ X, Of g l X → PI X tg e t) (v : IvD g.K t ρ ds) : DI g l tg e ρ ds := fun H0 σ S H ex n Q q => ⟨t, h, v H0 σ S H ex n Q q⟩
theorem DTs.by (t : TT) (h : ∀ X, Of g l X → PTs X es t) (v : EvB g.K t ρ x) : DTs g l es ρ x := fun H0 σ S H ex n Q q => ⟨t, h, v H0 σ S H ex n Q q⟩
theorem DS.by {st : Stmt} {E : Po} (t : TS) (h : ∀ X, Of g l X → PS X st t) (v : StD g.K t ρ E) : DS g l st ρ E := fun S0 H0 B σ S H D g0 b n o => ⟨t, h, v S0 H0 B σ S H D g0 b n o⟩
theorem DSs.by {st : List Stmt} {E : Po} (t : TS) (h : ∀ X, Of g l X → PSs X st t) (v : StD g.K t ρ E) : DSs g l st ρ E := fun S0 H0 B σ S H D g0 b n o => ⟨t, h, v S0 H0 B σ S H D g0 b n o⟩
theorem DE.is {d' : DV} (h : DE g l e ρ d) (q : d = d') : DE g l e ρ d' := by rw [← q]; exact h
theorem DT.is {x' : Bool} (h : DT g l e ρ x) (q : x = x') : DT g l e ρ x' := by rw [← q]; exact h
theorem DL.is {ds' : List DV} (h : DL g l e ρ ds) (q : ds = ds') : DL g l e ρ ds' := by rw [← q]; exact h
theorem DI.is {tg : Expr} {ds' : List DV} (h : DI g l tg e ρ ds) (q : ds = ds') : DI g l tg e ρ ds' := by rw [← q]; exact h
theorem DL.de (h : DL g l e ρ ds) : DE g l e ρ (.lst ds) := EvL.ev h

/-! names, constants -/
theorem de_v (i : Nat) {n : Str} (h : ρ[i]? = some (.val d) := by rfl) (hN : l.N[i]? = some n := by rfl) (hv : Vis l.sc n := by first | exact Or.inl rfl | exact Or.inr (Or.inl rfl) | exact Or.inr (Or.inr rfl))
    (hd : (n == ("__debug__" : Str)) = false := by decide) (hcd : (n == ("__classdict__" : Str)) = false := by decide) : DE g l (.Name n pos) ρ d :=
  DE.by (tVar i) (fun X o => pe_var (by rw [o.N]; exact hN) (o.vis hv) hd hcd) (ev_var h)
theorem de_int {i : Int} {j} : DE g l (.Constant (.int i) j pos) ρ (.int i) := DE.by _ (fun X o => pe_int) (ev_c fun S => .int i)
theorem de_bl {i : Bool} {j} : DE g l (.Constant (.bool i) j pos) ρ (.bl i) := DE.by _ (fun X o => pe_bl) (ev_c fun S => .bl i)
theorem de_non {j} : DE g l (.Constant .none j pos) ρ .non := DE.by _ (fun X o => pe_non) (ev_c fun S => .non)
theorem de_str {i : Str} {j} : DE g l (.Constant (.str i) j pos) ρ (.str i) := DE.by _ (fun X o => pe_str) (ev_c fun S => .str i)
/-- a constant of the module -/
theorem de_gl {n : Str} {v : V} {u : Value} (hm : g.mg n = some u) (r : RelV v u) (hr : ∀ S, Rp g.K S v d) (hg : GlN l n := by rfl) (hd : (n == ("__debug__" : Str)) = false := by decide) : DE g l (.Name n pos) ρ d :=
  DE.by _ (fun X o => pe_glob (o.gl hg) (by rw [o.mg]; exact hm) r hd) (ev_c hr)

/-! operators -/
theorem de_op {op : Operator} {r : R2} (ho : ∀ X, Of g l X → OpR X (binaryOp op) r) (ha : DE g l a ρ da) (hb : DE g l b ρ db) (hr : OpD g.K r da db d) : DE g l (.BinOp a op b pos) ρ d :=
  DE.by _ (fun X o => pe_op (ho X o) (UE.pe o a) (UE.pe o b)) (ev_op ha hb hr)
theorem de_add {i j : Int} (ha : DE g l a ρ (.int i)) (hb : DE g l b ρ (.int j)) : DE g l (.BinOp a .Add b pos) ρ (.int (i + j)) := de_op (fun X o => op_add) ha hb (od_I0 fun S => .int _)
theorem de_sub {i j : Int} (ha : DE g l a ρ (.int i)) (hb : DE g l b ρ (.int j)) : DE g l (.BinOp a .Sub b pos) ρ (.int (i - j)) := de_op (fun X o => op_sub) ha hb (od_I0 fun S => .int _)
theorem de_mul {i j : Int} (h : CMul i j) (ha : DE g l a ρ (.int i)) (hb : DE g l b ρ (.int j)) : DE g l (.BinOp a .Mult b pos) ρ (.int (i * j)) := de_op (fun X o => op_mul) ha hb (od_I h fun S => .int _)
theorem de_fdiv {i j : Int} (h : CDiv i j) (ha : DE g l a ρ (.int i)) (hb : DE g l b ρ (.int j)) : DE g l (.BinOp a .FloorDiv b pos) ρ (.int (i / j)) := de_op (fun X o => op_fdiv) ha hb (od_I h fun S => .int _)
theorem de_mod {i j : Int} (h : 0 < j) (ha : DE g l a ρ (.int i)) (hb : DE g l b ρ (.int j)) : DE g l (.BinOp a .Mod b pos) ρ (.int (i % j)) := de_op (fun X o => op_mod) ha hb (od_I h fun S => .int _)
theorem de_addS {i j : Str} (h : i.length + j.length ≤ 100000) (ha : DE g l a ρ (.str i)) (hb : DE g l b ρ (.str j)) : DE g l (.BinOp a .Add b pos) ρ (.str (i ++ j)) := de_op (fun X o => op_add_str) ha hb (od_addS h)
theorem de_catT {i j : List DV} (h : i.length + j.length ≤ 100000) (ha : DE g l a ρ (.tup i)) (hb : DE g l b ρ (.tup j)) : DE g l (.BinOp a .Add b pos) ρ (.tup (i ++ j)) := de_op (fun X o => by have := op_catA (X := X); rw [o.K] at this; exact this) ha hb (od_catT h)
theorem de_catL {i j : List DV} (h : i.length + j.length ≤ 100000) (ha : DE g l a ρ (.lst i)) (hb : DE g l b ρ (.lst j)) : DE g l (.BinOp a .Add b pos) ρ (.lst (i ++ j)) := de_op (fun X o => op_catR) ha hb (od_catL h)
theorem de_neg {i : Int} (ha : DE g l a ρ (.int i)) : DE g l (.UnaryOp .USub a pos) ρ (.int (-i)) :=
  DE.by _ (fun X o => pe_un un_neg (UE.pe o a)) (ev_un ha fun S H x e r Q q => by cases r; exact ⟨i, rfl, q _ S H (Go.rf e) (.int _)⟩)

/-! comparisons: as a value, as a test -/
theorem de_cmp {op : CmpOp} {r : R2} (ho : ∀ X, Of g l X → OpR X (compareOp op) r) (hr : OpD g.K r da db d) (ha : DE g l a ρ da) (hb : DE g l b ρ db) (hm : behindInMarks op b = false := by first | exact nomark _ | rfl) : DE g l (.Compare a [op] [b] pos) ρ d :=
  DE.by _ (fun X o => pe_cmpR (ho X o) (UE.pe o a) (UE.pe o b) hm) (ev_op ha hb hr)
theorem dt_cmp {op : CmpOp} {r : R2} (ho : ∀ X, Of g l X → OpR X (compareOp op) r) (hr : OpD g.K r da db (.bl x)) (ha : DE g l a ρ da) (hb : DE g l b ρ db) (hm : behindInMarks op b = false := by first | exact nomark _ | rfl) : DT g l (.Compare a [op] [b] pos) ρ x :=
  DT.by _ (fun X o => pt_cmpR (ho X o) (UE.pe o a) (UE.pe o b) hm) (eb_test (ev_op ha hb hr))
theorem ev_chain {K : PySem.W.Frag} {r r' : R2} {ta tb tc : TE} {d1 d2 d3 : DV} {x y : Bool} (h1 : EvD K ta ρ d1) (h2 : EvD K tb ρ d2) (hr : OpD K r d1 d2 (.bl x)) (h3 : x = true → EvD K tc ρ d3) (hr' : x = true → OpD K r' d2 d3 (.bl y)) : EvD K (tChain r r' ta tb tc) ρ (.bl (x && y)) := fun H0 σ S H e n Q q =>
  h1 H0 σ S H e n _ fun v1 S1 H1 g1 r1 => h2 H0 σ S1 H1 g1.sub (n.go g1) _ fun v2 S2 H2 g2 r2 => hr S2 H2 _ _ g2.sub (r1.up g2.s) r2 _ fun v3 S3 H3 g3 r3 => by
    cases r3
    refine ⟨x, rfl, ?_⟩
    cases x with
    | true =>
      rw [if_pos rfl]
      exact h3 rfl H0 σ S3 H3 g3.sub (((n.go g1).go g2).go g3) _ fun v4 S4 H4 g4 r4 => hr' rfl S4 H4 _ _ g4.sub ((r2.up g3.s).up g4.s) r4 Q fun v5 S5 H5 g5 r5 => q v5 S5 H5 ((((g1.tr g2).tr g3).tr g4).tr g5) r5
    | false =>
      rw [if_neg (by decide)]
      exact q _ S3 H3 ((g1.tr g2).tr g3) (.bl _)
theorem de_chain {op op' : CmpOp} {r r' : R2} {dc : DV} (ho : ∀ X, Of g l X → OpR X (compareOp op) r) (ho' : ∀ X, Of g l X → OpR X (compareOp op') r') (hr : OpD g.K r da db (.bl x)) (hr' : x = true → OpD g.K r' db dc (.bl y)) (ha : DE g l a ρ da) (hb : DE g l b ρ db) (hc : x = true → DE g l c ρ dc)
    (hm : lastMarks [op, op'] [b, c] = false := by with_unfolding_all rfl) : DE g l (.Compare a [op, op'] [b, c] pos) ρ (.bl (x && y)) :=
  DE.by _ (fun X o => pe_chain (ho X o) (ho' X o) (UE.pe o a) (UE.pe o b) (UE.pe o c) hm) (ev_chain ha hb hr hc hr')
theorem dt_chain {op op' : CmpOp} {r r' : R2} {dc : DV} (ho : ∀ X, Of g l X → OpR X (compareOp op) r) (ho' : ∀ X, Of g l X → OpR X (compareOp op') r') (hr : OpD g.K r da db (.bl x)) (hr' : x = true → OpD g.K r' db dc (.bl y)) (ha : DE g l a ρ da) (hb : DE g l b ρ db) (hc : x = true → DE g l c ρ dc)
    (hm : lastMarks [op, op'] [b, c] = false := by with_unfolding_all rfl) : DT g l (.Compare a [op, op'] [b, c] pos) ρ (x && y) :=
  DT.by _ (fun X o => pt_chain (ho X o) (ho' X o) (UE.pe o a) (UE.pe o b) (UE.pe o c) hm) (eb_test (ev_chain ha hb hr hc hr'))

/-! truth -/
theorem de_one {op} (h : DE g l a ρ d) : DE g l (.BoolOp op [a] pos) ρ d := DE.by _ (fun X o => pe_one (UE.pe o a)) h
theorem de_and (h1 : DE g l a ρ (.bl x)) (h2 : x = true → DE g l (.BoolOp .And (b :: rest) pos) ρ (.bl y)) : DE g l (.BoolOp .And (a :: b :: rest) pos) ρ (.bl (x && y)) := DE.by _ (fun X o => pe_and (UE.pe o a) (UE.pe o _)) (ev_and h1 h2)
theorem de_not (h : DE g l a ρ (.bl x)) : DE g l (.UnaryOp .Not a pos) ρ (.bl (!x)) := DE.by _ (fun X o => pe_not (UE.pe o a)) (ev_not h)
theorem de_if (h : DT g l c ρ x) (h1 : x = true → DE g l a ρ d) (h2 : x = false → DE g l b ρ d) : DE g l (.IfExp c a b pos) ρ d := DE.by _ (fun X o => pe_ifExp (UT.pt o c) (UE.pe o a) (UE.pe o b)) (ev_if h h1 h2)
theorem dt_e (h : DE g l e ρ (.bl x)) (he : ∀ env whole, isTrue e env whole = (do let v ← whole; standAt e.pos; holding [v] (truthy v)) := by intro _ _; rfl) : DT g l e ρ x := DT.by _ (fun X o => pt_val (UE.pe o e) (he _)) (eb_val h)
theorem dt_not (h : DT g l a ρ x) : DT g l (.UnaryOp .Not a pos) ρ (!x) := DT.by _ (fun X o => pt_not (UT.pt o a)) (eb_not h)
theorem dt_w (h : DW g l e ρ x) : DT g l e ρ x := DT.by _ (fun X o => (UW.pw o e).pt) h
theorem dw_or1 (h : DT g l a ρ x) : DW g l (.BoolOp .Or [a] pos) ρ x := DW.by _ (fun X o => pw_or1 (UT.pt o a)) h
theorem dw_or (h1 : DT g l a ρ x) (h2 : x = false → DW g l (.BoolOp .Or (b :: rest) pos) ρ y) : DW g l (.BoolOp .Or (a :: b :: rest) pos) ρ (x || y) := DW.by _ (fun X o => pw_or (UT.pt o a) (UW.pw o _)) (eb_or h1 h2)

/-! displays, subscripts, arguments -/
theorem da_nil : DA g l [] ρ [] := DA.by _ (fun X o => pa_nil) ea_nil
theorem da_cons (h : DE g l e ρ d) (hr : DA g l es ρ ds) (hs : ∀ env, starEach (e :: es) env = (false, eval e env) :: starEach es env := by intro _; rfl) : DA g l (e :: es) ρ (d :: ds) :=
  DA.by _ (fun X o => pa_cons (UE.pe o e) (UA.pa o es) (hs _)) (ea_cons h hr)
theorem de_tup {x1} (h : DA g l es ρ ds) (hl : ds.length ≤ 100000 := by (first | decide | (simp; done) | omega)) : DE g l (.Tuple es x1 pos) ρ (.tup ds) := DE.by _ (fun X o => pe_tup (UA.pa o es)) (ev_tup h hl)
theorem dl_lst (h : DA g l es ρ ds) (hl : ds.length ≤ 100000 := by (first | decide | (simp; done) | omega)) : DL g l (.List es pos) ρ ds := DL.by _ (fun X o => pe_lst (UA.pa o es)) (el_lst h hl)
theorem de_ixT {xs : List DV} {i : Int} (h : atI xs i = some d) (ha : DE g l a ρ (.tup xs)) (hb : DE g l b ρ (.int i)) (hs : PlainIx b := by exact fun _ _ => rfl) : DE g l (.Subscript a b pos) ρ d :=
  DE.by _ (fun X o => pe_ix (by have := ix_tup (X := X); rw [o.K] at this; exact this) (UE.pe o a) (UE.pe o b) hs) (ev_op ha hb (od_ixT h))
theorem de_ixL {xs : List DV} {i : Int} (h : atI xs i = some d) (ha : DE g l a ρ (.lst xs)) (hb : DE g l b ρ (.int i)) (hs : PlainIx b := by exact fun _ _ => rfl) : DE g l (.Subscript a b pos) ρ d :=
  DE.by _ (fun X o => pe_ix (by have := ix_list (X := X); rw [o.K] at this; exact this) (UE.pe o a) (UE.pe o b) hs) (ev_op ha hb (od_ixL h))
theorem de_ixOwn (i : Nat) {n : Str} {p2 : Pos} {j : Int} (hi : ρ[i]? = some (.own ds)) (h : atI ds j = some d) (hb : DE g l b ρ (.int j)) (hN : l.N[i]? = some n := by rfl) (hv : Vis l.sc n := by first | exact Or.inl rfl | exact Or.inr (Or.inl rfl) | exact Or.inr (Or.inr rfl))
    (hd : (n == ("__debug__" : Str)) = false := by decide) (hcd : (n == ("__classdict__" : Str)) = false := by decide) (hs : PlainIx b := by exact fun _ _ => rfl) : DE g l (.Subscript (.Name n p2) b pos) ρ d :=
  DE.by _ (fun X o => pe_ix (by have := ix_list (X := X); rw [o.K] at this; exact this) (pe_var (i := i) (by rw [o.N]; exact hN) (o.vis hv) hd hcd) (UE.pe o b) hs) (ev_ixOwn hi hb h)
theorem dp_none : DP g l none ρ none := fun H0 σ S H ex n Q q => ⟨tNoPart, fun X o => po_none, eo_none H0 σ S H ex n Q q⟩
theorem dp_some {i : Int} (h : DE g l e ρ (.int i)) : DP g l (some e) ρ (some i) := fun H0 σ S H ex n Q q => ⟨_, fun X o => po_some (UE.pe o e), eo_some h H0 σ S H ex n Q q⟩
theorem de_slT {xs : List DV} {lo hi : Option Expr} {i j : Option Int} {p2 : Pos} (ha : DE g l e ρ (.tup xs)) (h1 : DP g l lo ρ i) (h2 : DP g l hi ρ j) : DE g l (.Subscript e (.Slice lo hi none p2) pos) ρ (.tup (cutG xs i j)) :=
  DE.by _ (fun X o => pe_slice (by have := sl_tupA (X := X); rw [o.K] at this; exact this) (UE.pe o e) (UP.po o lo) (UP.po o hi)) (ev_sl ha h1 h2 sd_tup)
theorem de_slL {xs : List DV} {lo hi : Option Expr} {i j : Option Int} {p2 : Pos} (ha : DE g l e ρ (.lst xs)) (h1 : DP g l lo ρ i) (h2 : DP g l hi ρ j) : DE g l (.Subscript e (.Slice lo hi none p2) pos) ρ (.lst (cutG xs i j)) :=
  DE.by _ (fun X o => pe_slice (by have := sl_list (X := X); rw [o.K] at this; exact this) (UE.pe o e) (UP.po o lo) (UP.po o hi)) (ev_sl ha h1 h2 sd_lst)
theorem de_slF {xs : List DV} {lo hi : Option Expr} {i j : Option Int} {p2 : Pos} (ha : DE g l e ρ (.frz xs)) (h1 : DP g l lo ρ i) (h2 : DP g l hi ρ j) : DE g l (.Subscript e (.Slice lo hi none p2) pos) ρ (.lst (cutG xs i j)) :=
  DE.by _ (fun X o => pe_slice (by have := sl_list (X := X); rw [o.K] at this; exact this) (UE.pe o e) (UP.po o lo) (UP.po o hi)) (ev_sl ha h1 h2 sd_frz)
theorem de_slS {z : Str} {lo hi : Option Expr} {i j : Option Int} {p2 : Pos} (hz : z.length ≤ 100000) (ha : DE g l e ρ (.str z)) (h1 : DP g l lo ρ i) (h2 : DP g l hi ρ j) : DE g l (.Subscript e (.Slice lo hi none p2) pos) ρ (.str (cutS z i j)) :=
  DE.by _ (fun X o => pe_slice sl_str (UE.pe o e) (UP.po o lo) (UP.po o hi)) (ev_sl ha h1 h2 (sd_str hz))

/-! calls -/
/-- a def of the module that is known: at level k it does R -/
structure Fn (g : Gb) (k : Nat) (n : Str) (R : List DV → DV → Prop) : Prop where
  ex : ∃ f fd ps, FnOk g.P g.w g.K g.mg g.base CX0 k f fd ps (spR g.K R) ∧ g.mg n = some (.ref f) ∧ PySem.W.keepIn g.K (.ref f) = true ∧ Binds g.K fd ps []
theorem de_call {k : Nat} {n : Str} {p : Pos} {R : List DV → DV → Prop} (F : Fn g k n R) (ha : DA g l (e :: es) ρ ds) (hR : R ds d) (hk : k ≤ l.k := by decide) (hg : GlN l n := by rfl) (hdb : (n == ("__debug__" : Str)) = false := by decide)
    (he : ∀ env, starEach (e :: es) env = (false, eval e env) :: starEach es env := by intro _; rfl) (hpl : ∀ env, (backTo pos (starEach es env)).any (·.1) = false := by intro _; rfl) (hcl : l.cb = true := by rfl) : DE g l (.Call (.Name n p) (e :: es) [] pos) ρ d := by
  obtain ⟨f, fd, ps, ok, hm, hkp, hb⟩ := F.ex
  refine DE.by (tCall (spR g.K R) [] E0 (UA g l (e :: es))) (fun X o => ?_) (ev_call ha hR)
  exact pe_call (CX := CX0) (k := k) (f := f) (fd := fd) (ps := ps) (ds := []) (by rw [o.prog, o.w, o.K, o.mg, o.base]; exact ok) ((o.room hcl).mono hk) (o.gl hg) (by rw [o.mg]; exact hm) (by rw [o.K]; exact hkp) (by rw [o.K]; exact hb) .nil pass0 (UA.pa o _) hdb (he _) (hpl _)
theorem de_cb {n : Str} {id : String} {p : Pos} {r : List V → Hp → VK → Prop} (hc : ∀ X, Of g l X → CallR X (.builtin id) r) (hm : g.mg n = none) (hv : bootBuiltins n = some (.builtin id)) (hr : CaD g.K r ds d) (ha : DA g l (e :: es) ρ ds)
    (hg : GlN l n := by rfl) (hn : n ≠ "__name__" := by decide) (hdb : (n == ("__debug__" : Str)) = false := by decide)
    (he : ∀ env, starEach (e :: es) env = (false, eval e env) :: starEach es env := by intro _; rfl) (hpl : ∀ env, (backTo pos (starEach es env)).any (·.1) = false := by intro _; rfl) : DE g l (.Call (.Name n p) (e :: es) [] pos) ρ d :=
  DE.by _ (fun X o => pe_callB (hc X o) (o.gl hg) (by rw [o.mg]; exact hm) hv (UA.pa o _) hn hdb (he _) (hpl _)) (ev_cb ha hr)
theorem de_ct {n : Str} {T : String} {p : Pos} {r : List V → Hp → VK → Prop} (hc : ∀ X, Of g l X → CallR X (.type T) r) (hm : g.mg n = none) (hv : bootBuiltins n = some (.type T)) (hr : CaD g.K r ds d) (ha : DA g l (e :: es) ρ ds)
    (hg : GlN l n := by rfl) (hn : n ≠ "__name__" := by decide) (hdb : (n == ("__debug__" : Str)) = false := by decide)
    (he : ∀ env, starEach (e :: es) env = (false, eval e env) :: starEach es env := by intro _; rfl) (hpl : ∀ env, (backTo pos (starEach es env)).any (·.1) = false := by intro _; rfl) : DE g l (.Call (.Name n p) (e :: es) [] pos) ρ d :=
  DE.by _ (fun X o => pe_callTy (hc X o) (o.gl hg) (by rw [o.mg]; exact hm) hv (UA.pa o _) hn hdb (he _) (hpl _)) (ev_cb ha hr)
theorem de_len {p : Pos} (hm : g.mg "len" = none) (hi : da.items = some ds) (h : DE g l e ρ da) (hg : GlN l "len" := by rfl) (hs : ∀ env, starEach [e] env = [(false, eval e env)] := by intro _; rfl) : DE g l (.Call (.Name "len" p) [e] [] pos) ρ (.int ds.length) :=
  de_cb (r := rLenX g.K) (fun X o => by have := call_len_seq (X := X); rw [o.K] at this; exact this) hm boot_len (cd_len hi) (da_cons h da_nil (by intro env; rw [hs env]; rfl)) hg (by decide) (by decide) (by intro env; rw [hs env]; rfl) (by intro env; rfl)
theorem de_lenS {p : Pos} {z : Str} (hm : g.mg "len" = none) (hz : z.length ≤ 100000) (h : DE g l e ρ (.str z)) (hg : GlN l "len" := by rfl) (hs : ∀ env, starEach [e] env = [(false, eval e env)] := by intro _; rfl) : DE g l (.Call (.Name "len" p) [e] [] pos) ρ (.int z.length) :=
  de_cb (r := rLenT) (fun X o => call_len_str) hm boot_len (cd_lenS hz) (da_cons h da_nil (by intro env; rw [hs env]; rfl)) hg (by decide) (by decide) (by intro env; rw [hs env]; rfl) (by intro env; rfl)
theorem de_all {p : Pos} {bs : List Bool} (hm : g.mg "all" = none) (h : DE g l e ρ (.lst (bs.map DV.bl))) (hg : GlN l "all" := by rfl) (hs : ∀ env, starEach [e] env = [(false, eval e env)] := by intro _; rfl) (hcl : l.cb = true := by rfl) : DE g l (.Call (.Name "all" p) [e] [] pos) ρ (.bl (bs.all id)) :=
  de_cb (fun X o => by have := cr_all (X := X) (o.calm hcl); rw [o.K] at this; exact this) hm (by decide +kernel) cd_all (da_cons h da_nil (by intro env; rw [hs env]; rfl)) hg (by decide) (by decide) (by intro env; rw [hs env]; rfl) (by intro env; rfl)
theorem de_sum {p : Pos} {ns : List Int} (hm : g.mg "sum" = none) (h : DE g l e ρ (.lst (ns.map DV.int))) (hg : GlN l "sum" := by rfl) (hs : ∀ env, starEach [e] env = [(false, eval e env)] := by intro _; rfl) (hcl : l.cb = true := by rfl) : DE g l (.Call (.Name "sum" p) [e] [] pos) ρ (.int ns.sum) :=
  de_cb (fun X o => by have := cr_sum (X := X) (o.calm hcl); rw [o.K] at this; exact this) hm (by decide +kernel) cd_sum (da_cons h da_nil (by intro env; rw [hs env]; rfl)) hg (by decide) (by decide) (by intro env; rw [hs env]; rfl) (by intro env; rfl)
theorem de_tupleOf {p : Pos} (hm : g.mg "tuple" = none) (hi : da.items = some ds) (h : DE g l e ρ da) (hg : GlN l "tuple" := by rfl) (hs : ∀ env, starEach [e] env = [(false, eval e env)] := by intro _; rfl) : DE g l (.Call (.Name "tuple" p) [e] [] pos) ρ (.tup ds) :=
  de_ct (r := rTupX g.K) (fun X o => by have := call_tuple_of (X := X); rw [o.K] at this; exact this) hm (by decide +kernel) (cd_tuple hi) (da_cons h da_nil (by intro env; rw [hs env]; rfl)) hg (by decide) (by decide) (by intro env; rw [hs env]; rfl) (by intro env; rfl)
theorem de_intOf {p : Pos} {i : Int} (hm : g.mg "int" = none) (h : DE g l e ρ (.int i)) (hg : GlN l "int" := by rfl) (hs : ∀ env, starEach [e] env = [(false, eval e env)] := by intro _; rfl) : DE g l (.Call (.Name "int" p) [e] [] pos) ρ (.int i) :=
  de_ct (r := rInt1) (fun X o => call_int1) hm (by decide +kernel) cd_int (da_cons h da_nil (by intro env; rw [hs env]; rfl)) hg (by decide) (by decide) (by intro env; rw [hs env]; rfl) (by intro env; rfl)
/-- isinstance(x, T), T a built-in type -/
theorem de_isi {p p2 : Pos} {n : Str} {T t : String} (hm : g.mg "isinstance" = none) (hmT : g.mg n = none) (hv : bootBuiltins n = some (.type T)) (hk : da.kind = some t) (hb : kitB t T = some x) (h : DE g l e ρ da) (hg : GlN l "isinstance" := by rfl) (hgT : GlN l n := by rfl)
    (hn : n ≠ "__name__" := by decide) (hdb : (n == ("__debug__" : Str)) = false := by decide)
    (hs : ∀ env, starEach (e :: [.Name n p2]) env = (false, eval e env) :: starEach [.Name n p2] env := by intro _; rfl) : DE g l (.Call (.Name "isinstance" p) (e :: [.Name n p2]) [] pos) ρ (.bl x) :=
  DE.by (tIsi g.K (UE g l e) T) (fun X o => by
    have := call_isi (X := X)
    rw [o.K] at this
    exact pe_callB this (o.gl hg) (by rw [o.mg]; exact hm) (by decide +kernel) (pa_cons (UE.pe o e) (pa_cons (pe_bltn (v := .ty T) (o.gl hgT) (by rw [o.mg]; exact hmT) hv rfl hn hdb) pa_nil) (hs _)) (by decide) (by decide) (hs _) (by rfl)) (ev_isi h hk hb)

/-! what is walked -/
theorem di_l {tg : Expr} (h : DE g l e ρ (.lst ds)) : DI g l tg e ρ ds := DI.by (iList g.K (UE g l e)) (fun X o => by have := pi_list (tg := tg) (UE.pe o e); rw [o.K] at this; exact this) (iv_list h)
theorem di_t {tg : Expr} (h : DE g l e ρ (.tup ds)) : DI g l tg e ρ ds := DI.by (iTup g.K (UE g l e)) (fun X o => by have := pi_tup (tg := tg) (UE.pe o e); rw [o.K] at this; exact this) (iv_tup h)
theorem di_s {tg : Expr} {z : Str} (h : DE g l e ρ (.str z)) : DI g l tg e ρ (signD z) := DI.by (iStr (UE g l e)) (fun X o => pi_str (UE.pe o e)) (iv_str h)
theorem di_r {tg : Expr} {n : Nat} {p : Pos} (hm : g.mg "range" = none) (hn : n ≤ 100000) (h : DE g l e ρ (.int n)) (hg : GlN l "range" := by rfl) (hs : ∀ env, starEach [e] env = [(false, eval e env)] := by intro _; rfl) : DI g l tg (.Call (.Name "range" p) [e] [] pos) ρ (rangeD 0 n) :=
  DI.by _ (fun X o => pi_range1 (o.gl hg) (by rw [o.mg]; exact hm) (pa_cons (UE.pe o e) pa_nil (by rw [hs]; rfl)) (hs _)) (iv_range h hn)
theorem di_enumL {elts : List Expr} {kk : Nat} {tpos p : Pos} (hm : g.mg "enumerate" = none) (h : DE g l e ρ (.lst ds)) (hg : GlN l "enumerate" := by rfl) (hs : ∀ env, starEach [e] env = [(false, eval e env)] := by intro _; rfl) : DI g l (.Tuple elts kk tpos) (.Call (.Name "enumerate" p) [e] [] pos) ρ (enumD ds) :=
  DI.by (iEnum g.K (tCons (UE g l e) tNil)) (fun X o => by have := pi_enum (X := X) (elts := elts) (kk := kk) (tpos := tpos) (p := p) (pos := pos) (o.gl hg) (by rw [o.mg]; exact hm) (pa_cons (UE.pe o e) pa_nil (by rw [hs]; rfl)) (hs _); rw [o.K] at this; exact this) (iv_enum h)

/-! targets: read in every context -/
structure DG (g : Gb) (l : Lc) (tg : Expr) (is : List Nat) (d : DV) (ρ ρ' : Rho) : Prop where
  ex : ∃ t, (∀ X, Of g l X → PG X tg t) ∧ TgD g.K t is d ρ ρ'
def UG (g : Gb) (l : Lc) (tg : Expr) : TG := fun v σ H Q => ∃ t, (∀ X, Of g l X → PG X tg t) ∧ t v σ H Q
theorem UG.pg {X : Cx} (o : Of g l X) (tg : Expr) : PG X tg (UG g l tg) := ⟨fun pins s σ H v u Q I r ⟨t, h, q⟩ => (h X o).run pins s σ H v u Q I r q⟩
theorem DG.tg {tg : Expr} {is : List Nat} (h : DG g l tg is d ρ ρ') : TgD g.K (UG g l tg) is d ρ ρ' := fun H0 σ S H v e n r Q q => by
  obtain ⟨t, ht, hv⟩ := h.ex
  exact ⟨t, ht, hv H0 σ S H v e n r Q q⟩
theorem dg_n (i : Nat) {n : Str} (nd : l.N.Nodup) (hN : l.N[i]? = some n := by rfl) (hx : Loc l.sc n := by first | exact Or.inl rfl | exact Or.inr rfl) (hf : l.fn n = true ∨ l.sc.names.lookup n = some .local := by first | exact .inl rfl | exact .inr rfl) : DG g l (.Name n pos) [i] d ρ (ρ.set i (.val d)) :=
  ⟨gName i, fun X o => pg_name (by rw [o.N]; exact nd) (by rw [o.N]; exact hN) (by rw [o.sc]; exact hx) (by rcases hf with h | h; exact .inl (o.fn _ h); exact .inr (by rw [o.sc]; exact h)), tg_name⟩
structure DGs (g : Gb) (l : Lc) (tg : List Expr) (is : List Nat) (d : List DV) (ρ ρ' : Rho) : Prop where
  ex : ∃ t, (∀ X, Of g l X → PGs X tg t) ∧ TgsD g.K t is d ρ ρ'
theorem dgs_nil : DGs g l [] [] [] ρ ρ := ⟨_, fun X o => pgs_nil, tgs_nil⟩
theorem dgs_cons {is js : List Nat} {ρ'' : Rho} (h : DG g l e is d ρ ρ') (hs : DGs g l es js ds ρ' ρ'') (hst : ∀ env, (assignEach (e :: es) env).map (·.2) = assign e env :: (assignEach es env).map (·.2) := by intro _; rfl) : DGs g l (e :: es) (is ++ js) (d :: ds) ρ ρ'' := by
  obtain ⟨t, ht, hv⟩ := h.ex
  obtain ⟨u, hu, hw⟩ := hs.ex
  exact ⟨_, fun X o => pgs_cons (ht X o) (hu X o) (hst _), tgs_cons hv hw⟩
theorem dg_tup {is : List Nat} {k n : Nat} (h : DGs g l es is ds ρ ρ') (hl : ds.length = n := by rfl) (hn : ∀ env, (assignEach es env).length = n := by intro _; rfl) (hst : ∀ env, (assignEach es env).findIdx? (·.1) = none := by intro _; rfl) (hcl : l.cb = true := by rfl) : DG g l (.Tuple es k pos) is (.tup ds) ρ ρ' := by
  obtain ⟨t, ht, hv⟩ := h.ex
  exact ⟨gTup g.K n t, fun X o => by have := pg_tup (pos := pos) (k := k) (o.calm hcl) (ht X o) (hn _) (hst _); rw [o.K] at this; exact this, tg_tup hv hl⟩
end
end PD

/-! Data: comprehensions, statements, defs. -/
namespace PD
open PySem PySem.Spec PyProof.Rows L2

/-! ### comprehensions -/
def relS (scope sc : Scope) : Scope := { scope with names := scope.names.map fun (n, k) => if (k == .free && sc.kind == .function && sc.names.lookup n == some .cell) then (n, .cell) else (n, k) }
def inn (l : Lc) (scope : Scope) : Lc := ⟨l.k, l.N, relS scope l.sc, fun x => scope.names.lookup x == some .cell, l.cb, none⟩
theorem Of.blk {g : Gb} {l : Lc} {X : Cx} (o : Of g l X) (scope : Scope) (s : Shared) (H : Hp) (C : Addr) (cl : List (Str × Addr)) (fp : List Addr) : Of g (inn l scope) (X.blk s H scope (compEnvC scope cl C X.env) fp) where
  prog := o.prog
  w := o.w
  K := o.K
  mg := o.mg
  base := o.base
  N := o.N
  sc := by
    show relabel scope X.env = relS scope l.sc
    rw [← o.sc]
    rfl
  fn := fun _ h => h
  calm := o.calm
  room := o.room
  po := fun _ => PassesOwn.never
  un := o.un
  ex := fun _ _ _ h => by cases h
section
variable {g : Gb} {l : Lc} {ρ ρ' : Rho} {a b c e elt tg iter tg1 iter1 : Expr} {es rest ifs ifs1 : List Expr} {da db d : DV} {pos : Pos} {ds : List DV} {x y : Bool} {scope : Scope} {own : List (Str × Nat)}
/-- a comprehension's reading, one clause -/
def rL (g : Gb) (l : Lc) (elt tg iter : Expr) (ifs : List Expr) (scope : Scope) (own : List (Str × Nat)) : TE := tLc (UI g l tg iter) (UG g (inn l scope) tg) (UTs g (inn l scope) ifs) (UE g (inn l scope) elt) (own.map (·.2))
theorem rL.pe {X : Cx} (o : Of g l X) (nd : l.N.Nodup) (ok : blkC l.N l.sc scope own = true) (hs : ∀ env x, foldedSetIterable iter env x = pure x) (hcl : l.cb = true := by rfl) : PE X (.ListComp elt [⟨tg, iter, ifs, 0⟩] scope pos) (rL g l elt tg iter ifs scope own) :=
  pe_lc (own := own) (o.calm hcl) (by rw [o.N]; exact nd) (UI.pi o tg iter) (blkOk_by (by rw [o.N, o.sc]; exact ok)) (fun s H C cl fp => UG.pg (o.blk scope s H C cl fp) tg) (fun s H C cl fp => UTs.pts (o.blk scope s H C cl fp) ifs) (fun s H C cl fp => UE.pe (o.blk scope s H C cl fp) elt) (hs _)
theorem rL.ev {is : List Nat} (hi : DI g l tg iter ρ ds) (hlen : ds.length ≤ 100000) (his : ∀ j ∈ is, j ∈ own.map (·.2)) (ρ1 : DV → Rho) (p : DV → Bool) (f : DV → DV)
    (hg : ∀ d ∈ ds, DG g (inn l scope) tg is d (wipeR ρ (own.map (·.2))) (ρ1 d)) (ht : ∀ d ∈ ds, DTs g (inn l scope) ifs (ρ1 d) (p d)) (he : ∀ d ∈ ds, p d = true → DE g (inn l scope) elt (ρ1 d) (f d)) : EvL g.K (rL g l elt tg iter ifs scope own) ρ ((ds.filter p).map f) :=
  el_lc hi hlen his ρ1 p f (fun d hd => (hg d hd).tg) ht he
theorem dl_rL (nd : l.N.Nodup) (ok : blkC l.N l.sc scope own = true) (h : EvL g.K (rL g l elt tg iter ifs scope own) ρ ds) (hs : ∀ env x, foldedSetIterable iter env x = pure x := by intro _ _; rfl) (hcl : l.cb = true := by rfl) : DL g l (.ListComp elt [⟨tg, iter, ifs, 0⟩] scope pos) ρ ds :=
  DL.by _ (fun X o => rL.pe (hcl := hcl) o nd ok hs) h
theorem dts_nil : DTs g l [] ρ true := DTs.by _ (fun X o => pts_nil) eb_yes
theorem dts_one (h : DT g l c ρ x) : DTs g l [c] ρ x := DTs.by _ (fun X o => pts_one (UT.pt o c)) h
/-- two clauses -/
def rL2 (g : Gb) (l : Lc) (elt tg iter : Expr) (ifs : List Expr) (tg1 iter1 : Expr) (ifs1 : List Expr) (scope : Scope) (own : List (Str × Nat)) (vs1 : List Nat) : TE :=
  tLc2 (UI g l tg iter) (UG g (inn l scope) tg) (UTs g (inn l scope) ifs) (UI g (inn l scope) tg1 iter1) (UG g (inn l scope) tg1) (UTs g (inn l scope) ifs1) (UE g (inn l scope) elt) (own.map (·.2)) vs1
theorem rL2.ev {is is1 vs1 : List Nat} (hi : DI g l tg iter ρ ds) (his : ∀ j ∈ is, j ∈ own.map (·.2)) (his1 : ∀ j ∈ is1, j ∈ vs1) (ρ1 : DV → Rho) (p : DV → Bool) (es : DV → List DV) (ρ2 : DV → DV → Rho) (p1 : DV → DV → Bool) (f : DV → DV → DV)
    (hno : ∀ d ∈ ds, noOwn (ρ1 d) = true) (hlen : ((ds.filter p).flatMap fun d => ((es d).filter (p1 d)).map (f d)).length ≤ 100000)
    (hg : ∀ d ∈ ds, DG g (inn l scope) tg is d (wipeR ρ (own.map (·.2))) (ρ1 d)) (ht : ∀ d ∈ ds, DTs g (inn l scope) ifs (ρ1 d) (p d)) (hi1 : ∀ d ∈ ds, p d = true → DI g (inn l scope) tg1 iter1 (ρ1 d) (es d))
    (hg1 : ∀ d ∈ ds, p d = true → ∀ c ∈ es d, DG g (inn l scope) tg1 is1 c (wipeR (ρ1 d) vs1) (ρ2 d c)) (ht1 : ∀ d ∈ ds, p d = true → ∀ c ∈ es d, DTs g (inn l scope) ifs1 (ρ2 d c) (p1 d c))
    (he : ∀ d ∈ ds, p d = true → ∀ c ∈ es d, p1 d c = true → DE g (inn l scope) elt (ρ2 d c) (f d c)) : EvL g.K (rL2 g l elt tg iter ifs tg1 iter1 ifs1 scope own vs1) ρ ((ds.filter p).flatMap fun d => ((es d).filter (p1 d)).map (f d)) :=
  el_lc2 hi his his1 ρ1 p es ρ2 p1 f hno hlen (fun d hd => (hg d hd).tg) ht hi1 (fun d hd hp c hc => (hg1 d hd hp c hc).tg) ht1 he
/-! y = [..] on one line, y a local -/
theorem sw_of {X : Cx} {gs : List Comprehension} {py : Pos} {n : Str} {k : Nat} (o : Of g l X) (hk : l.sc.kind = .function) (hy : l.sc.names.lookup n = some .local) (hl : (py.line == pos.line) = true)
    (ha : (scope.names.any fun (m, k) => m == n && (k == .local || k == .cell)) = false) : swapsWith (.ListComp elt gs scope pos) (some (.Name n py)) k X.env = pure true :=
  sw_true (by rw [o.sc]; exact hk) (by rw [o.sc]; exact hy) hl ha
theorem ps_rL {X : Cx} {i : Nat} {n : Str} {py spos : Pos} (o : Of g l X) (nd : l.N.Nodup) (ok : blkC l.N l.sc scope own = true) (hs : ∀ env x, foldedSetIterable iter env x = pure x) (hN : l.N[i]? = some n) (hk : l.sc.kind = .function) (hy : l.sc.names.lookup n = some .local) (hl : (py.line == pos.line) = true)
    (ha : (scope.names.any fun (m, k) => m == n && (k == .local || k == .cell)) = false) (hcl : l.cb = true := by rfl) : PS X (.Assign [.Name n py] (.ListComp elt [⟨tg, iter, ifs, 0⟩] scope pos) spos) (tAsg (rL g l elt tg iter ifs scope own) (gName i)) :=
  ps_setLc (own := own) (o.calm hcl) (by rw [o.N]; exact nd) (by rw [o.N]; exact hN) (by rw [o.sc]; exact hy) (sw_of o hk hy hl ha) (UI.pi o tg iter) (blkOk_by (by rw [o.N, o.sc]; exact ok)) (fun s H C cl fp => UG.pg (o.blk scope s H C cl fp) tg) (fun s H C cl fp => UTs.pts (o.blk scope s H C cl fp) ifs) (fun s H C cl fp => UE.pe (o.blk scope s H C cl fp) elt) (hs _)
theorem ps_rL2 {X : Cx} {i : Nat} {n : Str} {py spos : Pos} {vs1 : List Nat} (o : Of g l X) (nd : l.N.Nodup) (ok : blkC l.N l.sc scope own = true) (hv : ∀ i ∈ vs1, i ∈ own.map (·.2)) (hs : ∀ env x, foldedSetIterable iter env x = pure x) (hs1 : ∀ env x, foldedSetIterable iter1 env x = pure x) (hN : l.N[i]? = some n) (hk : l.sc.kind = .function) (hy : l.sc.names.lookup n = some .local) (hl : (py.line == pos.line) = true)
    (ha : (scope.names.any fun (m, k) => m == n && (k == .local || k == .cell)) = false) (hcl : l.cb = true := by rfl) : PS X (.Assign [.Name n py] (.ListComp elt [⟨tg, iter, ifs, 0⟩, ⟨tg1, iter1, ifs1, 0⟩] scope pos) spos) (tAsg (rL2 g l elt tg iter ifs tg1 iter1 ifs1 scope own vs1) (gName i)) :=
  ps_setLc2 (own := own) (o.calm hcl) (by rw [o.N]; exact nd) (by rw [o.N]; exact hN) (by rw [o.sc]; exact hy) (sw_of o hk hy hl ha) (UI.pi o tg iter) (blkOk_by (by rw [o.N, o.sc]; exact ok)) hv (fun s H C cl fp => UG.pg (o.blk scope s H C cl fp) tg) (fun s H C cl fp => UTs.pts (o.blk scope s H C cl fp) ifs)
    (fun s H C cl fp => UI.pi (o.blk scope s H C cl fp) tg1 iter1) (fun s H C cl fp => UG.pg (o.blk scope s H C cl fp) tg1) (fun s H C cl fp => UTs.pts (o.blk scope s H C cl fp) ifs1) (fun s H C cl fp => UE.pe (o.blk scope s H C cl fp) elt) (hs _) hs1
end

/-! ### statements -/
section
variable {g : Gb} {l : Lc} {ρ ρ' : Rho} {a b c e elt tg iter : Expr} {es : List Expr} {d : DV} {pos py spos : Pos} {ds : List DV} {x : Bool} {E : Po} {st : Stmt} {sts body orelse : List Stmt} {scope : Scope} {own : List (Str × Nat)} {n : Str}
theorem dss_nil (h : E.nx ρ) : DSs g l [] ρ E := DSs.by _ (fun X o => pss_nil) (st_next h)
theorem dss_cons (h : DS g l st ρ { E with nx := fun ρ' => DSs g l sts ρ' E }) : DSs g l (st :: sts) ρ E := DSs.by _ (fun X o => pss_cons (US.ps o st) (USs.pss o sts)) (st_seq h)
theorem dss_one (h : DS g l st ρ E) : DSs g l [st] ρ E := DSs.by _ (fun X o => pss_one (US.ps o st)) h
theorem ds_set (i : Nat) (nd : l.N.Nodup) (h : DE g l e ρ d) (q : E.nx (ρ.set i (.val d))) (hN : l.N[i]? = some n := by rfl) (hx : Loc l.sc n := by first | exact Or.inl rfl | exact Or.inr rfl) (hf : l.fn n = true ∨ l.sc.names.lookup n = some .local := by first | exact .inl rfl | exact .inr rfl)
    (hs : ∀ env, swapsWith e (some (.Name n py)) pos.line env = pure false := by intro _; rfl) : DS g l (.Assign [.Name n py] e pos) ρ E :=
  DS.by _ (fun X o => ps_set (i := i) (by rw [o.N]; exact nd) (by rw [o.N]; exact hN) (by rw [o.sc]; exact hx) (UE.pe o e) (hs _) (by rcases hf with h | h; exact .inl (o.fn _ h); exact .inr (by rw [o.sc]; exact h))) (st_asg h q)
theorem ds_setL (i : Nat) (nd : l.N.Nodup) (h : DL g l e ρ ds) (q : E.nx (ρ.set i (.own ds))) (hN : l.N[i]? = some n := by rfl) (hx : Loc l.sc n := by first | exact Or.inl rfl | exact Or.inr rfl) (hf : l.fn n = true ∨ l.sc.names.lookup n = some .local := by first | exact .inl rfl | exact .inr rfl)
    (hs : ∀ env, swapsWith e (some (.Name n py)) pos.line env = pure false := by intro _; rfl) : DS g l (.Assign [.Name n py] e pos) ρ E :=
  DS.by _ (fun X o => ps_set (i := i) (by rw [o.N]; exact nd) (by rw [o.N]; exact hN) (by rw [o.sc]; exact hx) (UE.pe o e) (hs _) (by rcases hf with h | h; exact .inl (o.fn _ h); exact .inr (by rw [o.sc]; exact h))) (st_asgL h q)
/-- a target of any form -/
theorem ds_asg {is : List Nat} (h : DE g l e ρ d) (hg : DG g l tg is d ρ ρ') (q : E.nx ρ') (hs : ∀ env, swapsWithSole [tg] e pos.line env = pure false := by intro _; rfl) (hw : ∀ env, swappedStores [tg] e env = pure none := by intro _; rfl)
    (h1 : ∀ env, (assignEach [tg] env).map (·.2) = [assign tg env] := by intro _; rfl) : DS g l (.Assign [tg] e pos) ρ E :=
  DS.by _ (fun X o => ps_asg (UE.pe o e) (UG.pg o tg) (hs _) (hw _) (h1 _)) (st_asgG h hg.tg q)
theorem ds_ret (h : DE g l e ρ d) (q : E.rt d) : DS g l (.Return (some e) pos) ρ E := DS.by _ (fun X o => ps_ret (UE.pe o e)) (st_ret h q)
theorem ds_if (h : DT g l c ρ x) (h1 : x = true → DSs g l body ρ E) (h2 : x = false → DSs g l orelse ρ E) : DS g l (.If c body orelse pos) ρ E := DS.by _ (fun X o => ps_if (UT.pt o c) (USs.pss o body) (USs.pss o orelse)) (st_if h h1 h2)
theorem ds_ex (h : DE g l e ρ d) (q : E.nx ρ) (hs : ∀ env, swapsWith e none pos.line env = pure false := by intro _; rfl) : DS g l (.Expr e pos) ρ E := DS.by _ (fun X o => ps_expr (UE.pe o e) (hs _)) (st_drop h q)
theorem dss_freeze (i : Nat) {d' : DV} (hi : ρ[i]? = some (.ownD d')) (h : DSs g l sts (ρ.set i (.val d')) E) : DSs g l sts ρ E := st_freeze hi h
theorem ds_for {is : List Nat} (hi : DI g l tg iter ρ ds) (I : Nat → Rho → Prop) (h0 : I 0 ρ)
    (hs : ∀ i d ρ', ds[i]? = some d → I i ρ' → ∃ ρ'', DG g l tg is d ρ' ρ'' ∧ DSs g l body ρ'' { nx := I (i + 1), ct := I (i + 1), bk := E.nx, rt := E.rt }) (hd : ∀ ρ', I ds.length ρ' → E.nx ρ')
    (hf : ∀ env x, foldedSetIterable iter env x = pure x := by intro _ _; rfl) (hcl : l.cb = true := by rfl) : DS g l (.For tg iter body [] pos) ρ E :=
  DS.by _ (fun X o => ps_for (o.po hcl) (o.calm hcl) (UI.pi o tg iter) (UG.pg o tg) (USs.pss o body) (hf _)) (st_for hi I h0 (fun i d ρ' hd hI => let ⟨ρ'', h1, h2⟩ := hs i d ρ' hd hI; ⟨ρ'', h1.tg, h2⟩) hd)
theorem ds_append (i : Nat) {p2 apos cpos : Pos} (hi : ρ[i]? = some (.own ds)) (h : DE g l e ρ d) (hl : ds.length < 100000) (q : E.nx (ρ.set i (.own (ds ++ [d])))) (hN : l.N[i]? = some n := by rfl) (hv : Vis l.sc n := by first | exact Or.inl rfl | exact Or.inr (Or.inl rfl) | exact Or.inr (Or.inr rfl))
    (hd : (n == ("__debug__" : Str)) = false := by decide) (hcd : (n == ("__classdict__" : Str)) = false := by decide) (hst : ∀ env, starEach [e] env = [(false, eval e env)] := by intro _; rfl)
    (hbase : ∀ env, attributeBase (.Name n p2) ("append" : Str) env (eval (.Name n p2) env) = eval (.Name n p2) env := by intro _; rfl)
    (hfew : ∀ env, ((backTo cpos (starEach [e] env)).all (fun x => !x.1) && (backToKw cpos (keywordEach [] env)).all (fun x => x.1.isSome) && decide (([e] : List Expr).length + ([] : List Keyword).length + (if ([] : List Keyword).isEmpty then 0 else 1) < 30)) = true := by intro _; rfl)
    (hline : (apos.endLine == cpos.line) = true := by rfl) (hsw : ∀ env, swapsWith (.Call (.Attribute (.Name n p2) "append" apos) [e] [] cpos) none pos.line env = pure false := by intro _; rfl) : DS g l (.Expr (.Call (.Attribute (.Name n p2) "append" apos) [e] [] cpos) pos) ρ E :=
  DS.by (tDrop (tBM g.K "list" rAppend (tVar i) (tCons (UE g l e) tNil))) (fun X o => by
    have he : PE X (.Call (.Attribute (.Name n p2) "append" apos) [e] [] cpos) (tBM X.K "list" rAppend (tVar i) (tCons (UE g l e) tNil)) :=
      pe_bm PySem.F.plainAttrs_list PySem.F.slot_list_append PySem.F.type_list_append mt_append (pe_var (i := i) (by rw [o.N]; exact hN) (o.vis hv) hd hcd) (pa_cons (UE.pe o e) pa_nil (by rw [hst]; rfl)) (hbase _) (hfew _) hline (by rw [hst]; rfl) (by rfl)
    rw [o.K] at he
    exact ps_expr he (hsw _)) (st_append hi h hl q)
theorem ds_extend (i : Nat) {p2 apos cpos : Pos} {es' : List DV} (hi : ρ[i]? = some (.own ds)) (h : DE g l e ρ (.lst es')) (hl : ds.length + es'.length ≤ 100000) (q : E.nx (ρ.set i (.own (ds ++ es')))) (hN : l.N[i]? = some n := by rfl) (hv : Vis l.sc n := by first | exact Or.inl rfl | exact Or.inr (Or.inl rfl) | exact Or.inr (Or.inr rfl))
    (hd : (n == ("__debug__" : Str)) = false := by decide) (hcd : (n == ("__classdict__" : Str)) = false := by decide) (hst : ∀ env, starEach [e] env = [(false, eval e env)] := by intro _; rfl)
    (hbase : ∀ env, attributeBase (.Name n p2) ("extend" : Str) env (eval (.Name n p2) env) = eval (.Name n p2) env := by intro _; rfl)
    (hfew : ∀ env, ((backTo cpos (starEach [e] env)).all (fun x => !x.1) && (backToKw cpos (keywordEach [] env)).all (fun x => x.1.isSome) && decide (([e] : List Expr).length + ([] : List Keyword).length + (if ([] : List Keyword).isEmpty then 0 else 1) < 30)) = true := by intro _; rfl)
    (hline : (apos.endLine == cpos.line) = true := by rfl) (hsw : ∀ env, swapsWith (.Call (.Attribute (.Name n p2) "extend" apos) [e] [] cpos) none pos.line env = pure false := by intro _; rfl) : DS g l (.Expr (.Call (.Attribute (.Name n p2) "extend" apos) [e] [] cpos) pos) ρ E :=
  DS.by (tDrop (tBM g.K "list" rExtR (tVar i) (tCons (UE g l e) tNil))) (fun X o => by
    have he : PE X (.Call (.Attribute (.Name n p2) "extend" apos) [e] [] cpos) (tBM X.K "list" rExtR (tVar i) (tCons (UE g l e) tNil)) :=
      pe_bm PySem.F.plainAttrs_list PySem.F.slot_list_extend PySem.F.type_list_extend mt_extR (pe_var (i := i) (by rw [o.N]; exact hN) (o.vis hv) hd hcd) (pa_cons (UE.pe o e) pa_nil (by rw [hst]; rfl)) (hbase _) (hfew _) hline (by rw [hst]; rfl) (by rfl)
    rw [o.K] at he
    exact ps_expr he (hsw _)) (st_extend hi h hl q)
theorem ds_lcV (i : Nat) {ifs : List Expr} (nd : l.N.Nodup) (ok : blkC l.N l.sc scope own = true) (h : EvL g.K (rL g l elt tg iter ifs scope own) ρ ds) (q : E.nx (ρ.set i (.val (.lst ds)))) (hN : l.N[i]? = some n := by rfl) (hk : l.sc.kind = .function := by rfl) (hy : l.sc.names.lookup n = some .local := by rfl) (hl : (py.line == pos.line) = true := by rfl)
    (ha : (scope.names.any fun (m, k) => m == n && (k == .local || k == .cell)) = false := by decide +kernel) (hs : ∀ env x, foldedSetIterable iter env x = pure x := by intro _ _; rfl) (hcl : l.cb = true := by rfl) : DS g l (.Assign [.Name n py] (.ListComp elt [⟨tg, iter, ifs, 0⟩] scope pos) spos) ρ E :=
  DS.by _ (fun X o => ps_rL (hcl := hcl) o nd ok hs hN hk hy hl ha) (st_asg h.ev q)
theorem ds_lc2O (i : Nat) {ifs ifs1 : List Expr} {tg1 iter1 : Expr} {vs1 : List Nat} (nd : l.N.Nodup) (ok : blkC l.N l.sc scope own = true) (hv : ∀ i ∈ vs1, i ∈ own.map (·.2)) (h : EvL g.K (rL2 g l elt tg iter ifs tg1 iter1 ifs1 scope own vs1) ρ ds) (q : E.nx (ρ.set i (.own ds))) (hN : l.N[i]? = some n := by rfl) (hk : l.sc.kind = .function := by rfl) (hy : l.sc.names.lookup n = some .local := by rfl) (hl : (py.line == pos.line) = true := by rfl)
    (ha : (scope.names.any fun (m, k) => m == n && (k == .local || k == .cell)) = false := by decide +kernel) (hs : ∀ env x, foldedSetIterable iter env x = pure x := by intro _ _; rfl) (hs1 : ∀ env x, foldedSetIterable iter1 env x = pure x := by intro _ _; rfl) (hcl : l.cb = true := by rfl) :
    DS g l (.Assign [.Name n py] (.ListComp elt [⟨tg, iter, ifs, 0⟩, ⟨tg1, iter1, ifs1, 0⟩] scope pos) spos) ρ E :=
  DS.by _ (fun X o => ps_rL2 (hcl := hcl) o nd ok hv hs hs1 hN hk hy hl ha) (st_asgL h q)
theorem ds_lc2V (i : Nat) {ifs ifs1 : List Expr} {tg1 iter1 : Expr} {vs1 : List Nat} (nd : l.N.Nodup) (ok : blkC l.N l.sc scope own = true) (hv : ∀ i ∈ vs1, i ∈ own.map (·.2)) (h : EvL g.K (rL2 g l elt tg iter ifs tg1 iter1 ifs1 scope own vs1) ρ ds) (q : E.nx (ρ.set i (.val (.lst ds)))) (hN : l.N[i]? = some n := by rfl) (hk : l.sc.kind = .function := by rfl) (hy : l.sc.names.lookup n = some .local := by rfl) (hl : (py.line == pos.line) = true := by rfl)
    (ha : (scope.names.any fun (m, k) => m == n && (k == .local || k == .cell)) = false := by decide +kernel) (hs : ∀ env x, foldedSetIterable iter env x = pure x := by intro _ _; rfl) (hs1 : ∀ env x, foldedSetIterable iter1 env x = pure x := by intro _ _; rfl) (hcl : l.cb = true := by rfl) :
    DS g l (.Assign [.Name n py] (.ListComp elt [⟨tg, iter, ifs, 0⟩, ⟨tg1, iter1, ifs1, 0⟩] scope pos) spos) ρ E :=
  DS.by _ (fun X o => ps_rL2 (hcl := hcl) o nd ok hv hs hs1 hN hk hy hl ha) (st_asg h.ev q)
end

/-! ### defs -/
def rho0 (N : List Str) (ds : List DV) : Rho := ds.map EV.val ++ List.replicate (N.length - ds.length) .un
theorem en_start {K : PySem.W.Frag} {H0 S H : Hp} {N : List Str} {vs : List V} {ds : List DV} (r : RpA K S vs ds) : En K H0 S H (L2.start N vs) (rho0 N ds) where
  len := by
    unfold L2.start rho0
    rw [List.length_append, List.length_append, List.length_map, List.length_map, List.length_replicate, List.length_replicate, r.len]
  at_ := fun i v e a b => by
    unfold L2.start at a
    unfold rho0 at b
    by_cases h : i < ds.length
    · rw [List.getElem?_append_left (by rw [List.length_map, r.len]; exact h), List.getElem?_map] at a
      rw [List.getElem?_append_left (by rw [List.length_map]; exact h), List.getElem?_map, List.getElem?_eq_getElem h] at b
      cases b
      obtain ⟨u, hu, ru⟩ := r.get (List.getElem?_eq_getElem h)
      rw [hu] at a
      cases a
      exact ⟨u, rfl, ru⟩
    · rw [List.getElem?_append_right (by rw [List.length_map]; omega)] at b
      rw [List.getElem?_replicate] at b
      split at b
      · cases b
        trivial
      · cases b
  sep := fun i j p q ds' es hij a b c e => by
    exfalso
    unfold rho0 at a
    by_cases h : i < ds.length
    · rw [List.getElem?_append_left (by rw [List.length_map]; exact h), List.getElem?_map, List.getElem?_eq_getElem h] at a
      cases a
    · rw [List.getElem?_append_right (by rw [List.length_map]; omega), List.getElem?_replicate] at a
      split at a <;> cases a
theorem fn_ok {g : Gb} {x qual : Str} {st : Stmt} {f : Addr} {fd : FuncData} {N ps : List Str} {k : Nat} {R : List DV → DV → Prop} (F : Fun g.K x qual st f fd) (S : FnScope N ps (defScope st)) (len : ∀ ds d, R ds d → ds.length = ps.length)
    (body : ∀ ds d, R ds d → DSs g ⟨k, N, defScope st, fun _ => true, true, none⟩ (defBody st) (rho0 N ds) { nx := fun _ => d = .non, rt := fun r => r = d }) : FnOk g.P g.w g.K g.mg g.base CX0 (k + 1) f fd ps (spR g.K R) := by
  refine F.ok S (fun vs H Q E ⟨S0, ds, d, e, ra, hR, _⟩ => by rw [ra.len]; exact len ds d hR) (fun cdv A outer s H vs Q E hr ⟨S0, ds, d, e, ra, hR, q⟩ => ?_)
  refine ⟨USs g ⟨k, N, defScope st, fun _ => true, true, none⟩ (defBody st), USs.pss ⟨rfl, rfl, rfl, rfl, rfl, rfl, rfl, fun _ _ => rfl, fun _ => rfl, fun _ => hr, hr.un, fun _ => PassesOwn.never, fun _ _ _ h => by cases h⟩ _, ?_⟩
  refine body ds d hR S0 H S0 _ S0 H _ (Go.rf e) (Ex.rf _) (en_start ra) ⟨fun ρ σ S1 H1 z g1 _ n1 => ?_, fun r v S1 H1 z g1 r1 => ?_, fun _ _ _ _ z => z.elim, fun _ _ _ _ z => z.elim⟩
  · have z' : d = .non := z
    subst z'
    exact q .non S1 H1 g1 .non
  · have z' : r = d := z
    subst z'
    exact q v S1 H1 g1 r1
theorem Fn.mk' {g : Gb} {x qual : Str} {st : Stmt} {f : Addr} {fd : FuncData} {ps : List Str} {k : Nat} {R : List DV → DV → Prop} (F : Fun g.K x qual st f fd) (ok : FnOk g.P g.w g.K g.mg g.base CX0 k f fd ps (spR g.K R)) (hm : g.mg x = some (.ref f)) (hb : Binds g.K fd ps []) : Fn g k x R := ⟨f, fd, ps, ok, hm, F.kp, hb⟩
end PD

/-! Data: built-ins by name; isinstance. -/
namespace PD
open PySem PySem.Spec PyProof.Rows L2
/-- the built-ins that no name of the module hides -/
structure Bt (g : Gb) : Prop where
  isi : g.mg "isinstance" = none
  int : g.mg "int" = none
  bool : g.mg "bool" = none
  str : g.mg "str" = none
  tuple : g.mg "tuple" = none
  list : g.mg "list" = none
  len : g.mg "len" = none
  all : g.mg "all" = none
  range : g.mg "range" = none
  enum : g.mg "enumerate" = none
  sum : g.mg "sum" = none
def DV.isInt : DV → Bool
  | .int _ => true | .bl _ => true | _ => false
def DV.isBool : DV → Bool
  | .bl _ => true | _ => false
def DV.isStr : DV → Bool
  | .str _ => true | _ => false
def DV.isTup : DV → Bool
  | .tup _ => true | _ => false
def DV.isLst : DV → Bool
  | .lst _ => true | _ => false
def DV.isObj : DV → Bool
  | .obj _ _ => true | .frz _ => true | .dct _ _ _ => true | .tks _ _ => true | .adr _ => true | _ => false
theorem kb (a b : String) (r : Bool) (h : kitB a b = some r := by decide +kernel) : kitB a b = some r := h
section
variable {g : Gb} {l : Lc} {ρ : Rho} {e : Expr} {d : DV} {pos p p2 : Pos}
theorem kind_some (h : d.isObj = false) : ∃ t, d.kind = some t := by
  cases d <;> first | exact ⟨_, rfl⟩ | cases h
theorem de_isInt (B : Bt g) (ho : d.isObj = false) (h : DE g l e ρ d) (hg : GlN l "isinstance" := by rfl) (hgT : GlN l "int" := by rfl) (hs : ∀ env, starEach (e :: [.Name "int" p2]) env = (false, eval e env) :: starEach [.Name "int" p2] env := by intro _; rfl) :
    DE g l (.Call (.Name "isinstance" p) (e :: [.Name "int" p2]) [] pos) ρ (.bl d.isInt) := by
  obtain ⟨t, hk⟩ := kind_some ho
  refine de_isi (T := "int") (t := t) B.isi B.int (by decide +kernel) hk ?_ h hg hgT (by decide) (by decide) hs
  cases d <;> cases hk <;> first | exact kb _ _ true | exact kb _ _ false
theorem de_isBool (B : Bt g) (ho : d.isObj = false) (h : DE g l e ρ d) (hg : GlN l "isinstance" := by rfl) (hgT : GlN l "bool" := by rfl) (hs : ∀ env, starEach (e :: [.Name "bool" p2]) env = (false, eval e env) :: starEach [.Name "bool" p2] env := by intro _; rfl) :
    DE g l (.Call (.Name "isinstance" p) (e :: [.Name "bool" p2]) [] pos) ρ (.bl d.isBool) := by
  obtain ⟨t, hk⟩ := kind_some ho
  refine de_isi (T := "bool") (t := t) B.isi B.bool (by decide +kernel) hk ?_ h hg hgT (by decide) (by decide) hs
  cases d <;> cases hk <;> first | exact kb _ _ true | exact kb _ _ false
theorem de_isStr (B : Bt g) (ho : d.isObj = false) (h : DE g l e ρ d) (hg : GlN l "isinstance" := by rfl) (hgT : GlN l "str" := by rfl) (hs : ∀ env, starEach (e :: [.Name "str" p2]) env = (false, eval e env) :: starEach [.Name "str" p2] env := by intro _; rfl) :
    DE g l (.Call (.Name "isinstance" p) (e :: [.Name "str" p2]) [] pos) ρ (.bl d.isStr) := by
  obtain ⟨t, hk⟩ := kind_some ho
  refine de_isi (T := "str") (t := t) B.isi B.str (by decide +kernel) hk ?_ h hg hgT (by decide) (by decide) hs
  cases d <;> cases hk <;> first | exact kb _ _ true | exact kb _ _ false
theorem de_isTup (B : Bt g) (ho : d.isObj = false) (h : DE g l e ρ d) (hg : GlN l "isinstance" := by rfl) (hgT : GlN l "tuple" := by rfl) (hs : ∀ env, starEach (e :: [.Name "tuple" p2]) env = (false, eval e env) :: starEach [.Name "tuple" p2] env := by intro _; rfl) :
    DE g l (.Call (.Name "isinstance" p) (e :: [.Name "tuple" p2]) [] pos) ρ (.bl d.isTup) := by
  obtain ⟨t, hk⟩ := kind_some ho
  refine de_isi (T := "tuple") (t := t) B.isi B.tuple (by decide +kernel) hk ?_ h hg hgT (by decide) (by decide) hs
  cases d <;> cases hk <;> first | exact kb _ _ true | exact kb _ _ false
end
/-! comparisons by name: value and test -/
section
variable {g : Gb} {l : Lc} {ρ : Rho} {a b c : Expr} {pos : Pos} {da db : DV} {ds : List DV}
theorem de_leI {i j : Int} (ha : DE g l a ρ (.int i)) (hb : DE g l b ρ (.int j)) : DE g l (.Compare a [.LtE] [b] pos) ρ (.bl (decide (i ≤ j))) := de_cmp (fun X o => op_le) (od_I0 fun S => .bl _) ha hb (nomark _)
theorem de_gtI {i j : Int} (ha : DE g l a ρ (.int i)) (hb : DE g l b ρ (.int j)) : DE g l (.Compare a [.Gt] [b] pos) ρ (.bl (decide (j < i))) := de_cmp (fun X o => op_gt) (od_I0 fun S => .bl _) ha hb (nomark _)
theorem dt_ltI {i j : Int} (ha : DE g l a ρ (.int i)) (hb : DE g l b ρ (.int j)) : DT g l (.Compare a [.Lt] [b] pos) ρ (decide (i < j)) := dt_cmp (fun X o => op_lt) (od_I0 fun S => .bl _) ha hb (nomark _)
theorem dt_gtI {i j : Int} (ha : DE g l a ρ (.int i)) (hb : DE g l b ρ (.int j)) : DT g l (.Compare a [.Gt] [b] pos) ρ (decide (j < i)) := dt_cmp (fun X o => op_gt) (od_I0 fun S => .bl _) ha hb (nomark _)
theorem de_eqI {i j : Int} (ha : DE g l a ρ (.int i)) (hb : DE g l b ρ (.int j)) : DE g l (.Compare a [.Eq] [b] pos) ρ (.bl (decide (i = j))) := de_cmp (fun X o => op_eq) od_eqI ha hb (nomark _)
theorem dt_eqI {i j : Int} (ha : DE g l a ρ (.int i)) (hb : DE g l b ρ (.int j)) : DT g l (.Compare a [.Eq] [b] pos) ρ (decide (i = j)) := dt_cmp (fun X o => op_eq) od_eqI ha hb (nomark _)
theorem dt_neI {i j : Int} (ha : DE g l a ρ (.int i)) (hb : DE g l b ρ (.int j)) : DT g l (.Compare a [.NotEq] [b] pos) ρ (!decide (i = j)) := dt_cmp (fun X o => op_ne) od_neI ha hb (nomark _)
theorem de_eqS {i j : Str} (ha : DE g l a ρ (.str i)) (hb : DE g l b ρ (.str j)) : DE g l (.Compare a [.Eq] [b] pos) ρ (.bl (decide (i = j))) := de_cmp (fun X o => op_eq) od_eqS ha hb (nomark _)
theorem de_neS {i j : Str} (ha : DE g l a ρ (.str i)) (hb : DE g l b ρ (.str j)) : DE g l (.Compare a [.NotEq] [b] pos) ρ (.bl (!decide (i = j))) := de_cmp (fun X o => op_ne) od_neS ha hb (nomark _)
theorem dt_eqS {i j : Str} (ha : DE g l a ρ (.str i)) (hb : DE g l b ρ (.str j)) : DT g l (.Compare a [.Eq] [b] pos) ρ (decide (i = j)) := dt_cmp (fun X o => op_eq) od_eqS ha hb (nomark _)
theorem dt_neS {i j : Str} (ha : DE g l a ρ (.str i)) (hb : DE g l b ρ (.str j)) : DT g l (.Compare a [.NotEq] [b] pos) ρ (!decide (i = j)) := dt_cmp (fun X o => op_ne) od_neS ha hb (nomark _)
theorem de_eqD (h : da.ok = true) (h' : db.ok = true) (ha : DE g l a ρ da) (hb : DE g l b ρ db) : DE g l (.Compare a [.Eq] [b] pos) ρ (.bl (da.eqv db)) := de_cmp (r := rEqD g.K) (fun X o => by have := op_eqD (X := X) o.u64; rw [o.K] at this; exact this) (od_eqD h h') ha hb (nomark _)
theorem de_neD (h : da.ok = true) (h' : db.ok = true) (ha : DE g l a ρ da) (hb : DE g l b ρ db) : DE g l (.Compare a [.NotEq] [b] pos) ρ (.bl (!da.eqv db)) := de_cmp (r := rNeD g.K) (fun X o => by have := op_neD (X := X) o.u64; rw [o.K] at this; exact this) (od_neD h h') ha hb (nomark _)
theorem dt_neD (h : da.ok = true) (h' : db.ok = true) (ha : DE g l a ρ da) (hb : DE g l b ρ db) : DT g l (.Compare a [.NotEq] [b] pos) ρ (!da.eqv db) := dt_cmp (r := rNeD g.K) (fun X o => by have := op_neD (X := X) o.u64; rw [o.K] at this; exact this) (od_neD h h') ha hb (nomark _)
theorem de_inSign {ch : Nat} {z : Str} (ha : DE g l a ρ (.str ⟨#[ch]⟩)) (hb : DE g l b ρ (.str z)) (hm : behindInMarks .In b = false := by rfl) : DE g l (.Compare a [.In] [b] pos) ρ (.bl (decide (ch ∈ z.cps.toList))) := de_cmp (fun X o => op_in_sign) od_inSign ha hb hm
theorem de_in (h : da.flat = true) (hi : db.items = some ds) (hf : ds.all DV.flat = true) (ha : DE g l a ρ da) (hb : DE g l b ρ db) (hm : behindInMarks .In b = false := by rfl) : DE g l (.Compare a [.In] [b] pos) ρ (.bl (inD da ds)) := de_cmp (r := rIn g.K false) (fun X o => by have := op_in_seq (X := X); rw [o.K] at this; exact this) (od_is h hi hf) ha hb hm
theorem dt_notIn (h : da.flat = true) (hi : db.items = some ds) (hf : ds.all DV.flat = true) (ha : DE g l a ρ da) (hb : DE g l b ρ db) (hm : behindInMarks .NotIn b = false := by rfl) : DT g l (.Compare a [.NotIn] [b] pos) ρ (!inD da ds) := dt_cmp (r := rIn g.K true) (fun X o => by have := op_notIn_seq (X := X); rw [o.K] at this; exact this) (od_notin h hi hf) ha hb hm
/-- a ≤ b < c -/
theorem de_leLt {i j k : Int} (ha : DE g l a ρ (.int i)) (hb : DE g l b ρ (.int j)) (hc : DE g l c ρ (.int k)) (hm : lastMarks [.LtE, .Lt] [b, c] = false := by with_unfolding_all rfl) : DE g l (.Compare a [.LtE, .Lt] [b, c] pos) ρ (.bl (decide (i ≤ j) && decide (j < k))) :=
  de_chain (fun X o => op_le) (fun X o => op_lt) (od_I0 fun S => .bl _) (fun _ => od_I0 fun S => .bl _) ha hb (fun _ => hc) hm
theorem de_leLe {i j k : Int} (ha : DE g l a ρ (.int i)) (hb : DE g l b ρ (.int j)) (hc : DE g l c ρ (.int k)) (hm : lastMarks [.LtE, .LtE] [b, c] = false := by with_unfolding_all rfl) : DE g l (.Compare a [.LtE, .LtE] [b, c] pos) ρ (.bl (decide (i ≤ j) && decide (j ≤ k))) :=
  de_chain (fun X o => op_le) (fun X o => op_le) (od_I0 fun S => .bl _) (fun _ => od_I0 fun S => .bl _) ha hb (fun _ => hc) hm
theorem dt_leLe {i j k : Int} (ha : DE g l a ρ (.int i)) (hb : DE g l b ρ (.int j)) (hc : DE g l c ρ (.int k)) (hm : lastMarks [.LtE, .LtE] [b, c] = false := by with_unfolding_all rfl) : DT g l (.Compare a [.LtE, .LtE] [b, c] pos) ρ (decide (i ≤ j) && decide (j ≤ k)) :=
  dt_chain (fun X o => op_le) (fun X o => op_le) (od_I0 fun S => .bl _) (fun _ => od_I0 fun S => .bl _) ha hb (fun _ => hc) hm
end
end PD

/-! enumerate over a tuple. -/
namespace PDT
open PySem PyProof.Rows
open Builtin
open AutoSeq1 (wpAny_loadPart')
section
variable {prog : Program} {w : World} {A : Around} {E : Value → Shared → Prop} {s : Shared}
theorem nx_item {I T : Addr} {i : Nat} {vs : Array Value} {x : Value} {Q : Value → Shared → Prop} (hI : IsTupIter s.heap I T i) (hT : IsTup s.heap T vs) (hx : vs[i]? = some x)
    (hQ : ∀ h', IsTupIter h' I T (i + 1) → Heap.SameBut I s.heap h' → Q x { s with heap := h' }) : wpAny (model prog w) A (Builtin.SmallTypes.nextOf (.ref I)) Q E s := by
  obtain ⟨oI, eI, cI, dI⟩ := id hI; obtain ⟨oT, eT, _, nT, dT⟩ := hT
  unfold Builtin.SmallTypes.nextOf
  refine wpAny_bind (wpAny_callSpecial?_slot (name := Str.ofString "__next__") hI.typeIs slot_tupleiter_next (wpAny_call_entry slot_tupleiter_next hI.typeIs entry_tupleiter_next ?_ (args_tupleiter_next _)))
  show wpAny _ _ (field (.ref I) 0 >>= _) _ _ s
  refine wpAny_bind (wpAny_field eI dI (x := .ref T) rfl ?_)
  show wpAny _ _ (if (Value.ref T == Value.none) = true then _ else _) _ _ s
  rw [if_neg (show ¬ ((Value.ref T == Value.none) = true) from Bool.false_ne_true)]
  show wpAny _ _ (field (.ref I) 1 >>= _) _ _ s
  refine wpAny_bind (wpAny_field eI dI (x := .int i 0) rfl ?_)
  show wpAny _ _ (seqItems? (.ref T) >>= _) _ _ s
  refine wpAny_bind (wpAny_seqItems eT dT ?_)
  simp only [Int.toNat_natCast, hx]
  refine wpAny_bind (wpAny_setField eI dI (by simp) (wpAny_pure ⟨x, rfl, wpAny_pure (hQ _ ⟨_, Heap.get?_update_self _ eI (Obj.isFreed_of_fields (Obj.data_mapFields dI _)), (Obj.cls_mapFields ..).trans cI, ?_⟩ (Heap.SameBut.update ..))⟩))
  rw [Obj.data_mapFields dI] <;> simp [rawInt]
theorem nx_end {I T : Addr} {i : Nat} {vs : Array Value} {Q : Value → Shared → Prop} (hh : A.handled = none) (hI : IsTupIter s.heap I T i) (hT : IsTup s.heap T vs) (hx : vs[i]? = none)
    (hE : ∀ h' e, Heap.ExtBut I s.heap h' → (∃ o, h'.get? e = some o ∧ o.cls = .type "StopIteration") → E (.ref e) { s with heap := h' }) : wpAny (model prog w) A (Builtin.SmallTypes.nextOf (.ref I)) Q E s := by
  obtain ⟨oI, eI, cI, dI⟩ := id hI; obtain ⟨oT, eT, _, nT, dT⟩ := hT
  unfold Builtin.SmallTypes.nextOf
  refine wpAny_bind (wpAny_callSpecial?_slot (name := Str.ofString "__next__") hI.typeIs slot_tupleiter_next (wpAny_call_entry slot_tupleiter_next hI.typeIs entry_tupleiter_next ?_ (args_tupleiter_next _)))
  show wpAny _ _ (field (.ref I) 0 >>= _) _ _ s
  refine wpAny_bind (wpAny_field eI dI (x := .ref T) rfl ?_)
  show wpAny _ _ (if (Value.ref T == Value.none) = true then _ else _) _ _ s
  rw [if_neg (show ¬ ((Value.ref T == Value.none) = true) from Bool.false_ne_true)]
  show wpAny _ _ (field (.ref I) 1 >>= _) _ _ s
  refine wpAny_bind (wpAny_field eI dI (x := .int i 0) rfl ?_)
  show wpAny _ _ (seqItems? (.ref T) >>= _) _ _ s
  refine wpAny_bind (wpAny_seqItems eT dT ?_)
  simp only [Int.toNat_natCast, hx]
  refine wpAny_bind (wpAny_rule (wpAny_bind (wpAny_setField eI dI (by simp) ?_)))
  show wpAny _ _ (newExc (.type "StopIteration") [] >>= _) _ _ _
  refine wpAny_bind ?_; simp only [newExc, newTuple]; refine wpAny_bind (wpAny_newObj_type ?_ (by size_fits))
  refine wpAny_bind (m := firstArgMember _ _) (wpAny_of_eq (a := Value.none) (by first | rfl | (simp only [firstArgMember]; rfl)) ?_); refine wpAny_newObj_type ?_ (by size_fits)
  simp only [raiseNew]; refine wpAny_bind (wpAny_handled ?_)
  first | rw [show A.in1.handled = none from hh] | rw [hh]
  refine wpAny_bind (wpAny_pure (wpAny_throw (hE _ _ (((Heap.SameBut.update ..).extBut.push _).push _) ⟨_, Heap.get?_push_size _ rfl, rfl⟩)))
end
theorem draws_tup {prog : Program} {w : World} {A : Around} (hh : A.handled = none) (I T : Addr) (hne : T ≠ I) (vs : Array Value) :
    Draws prog w A I [I, T] vs.size (fun i v => vs[i]? = some v) (fun i h => IsTupIter h I T i ∧ IsTup h T vs) where
  live := fun _ _ st => let ⟨o, ho, _⟩ := st.1; ⟨o, ho⟩
  frame := fun _ _ _ st hk => ⟨let ⟨o, ho, r⟩ := st.1; ⟨o, hk I (by simp) o ho, r⟩, let ⟨o, ho, r⟩ := st.2; ⟨o, hk T (by simp) o ho, r⟩⟩
  item := fun i s Q E hi st hQ => nx_item st.1 st.2 (x := vs[i]) (by simp [hi]) fun h' hit' hs' => hQ _ h' s.toks (by simp [hi]) ⟨hit', st.2.extBut hs'.extBut hne⟩ hs'
  done := fun s Q E st hE => nx_end hh st.1 st.2 (by simp) hE
theorem newT (T : Addr) (vs : Array Value) (n : Nat) (dct : Option Addr) (sl : Array (Option Value)) :
    Meets (Builtin.«enumerate.__new__» ⟨[.type "enumerate", .ref T], []⟩) (fun _ R s => s.heap.get? T = some { cls := .type "tuple", dict := dct, data := .seq vs n, slots := sl } ∧
      R (.ok (.ret (.ref (s.heap.push { cls := .type "tuple_iterator", data := .fields #[.ref T, .int 0 0] }).objs.size)))
        { s with heap := (s.heap.push { cls := .type "tuple_iterator", data := .fields #[.ref T, .int 0 0] }).push { cls := .type "enumerate", data := .fields #[.none, .bool false, .ref s.heap.objs.size, rawInt 0, .none, .none] } }) :=
  .of_wp fun prog w A R s h => by
    obtain ⟨hp, g, d, tk, os⟩ := s; obtain ⟨eT, h⟩ := h
    have hsub := sub_enumerate
    have hL : IsTup (Shared.heap ⟨hp, g, d, tk, os⟩) T vs := ⟨_, eT, rfl, n, rfl⟩
    wp_walk using wpAny_loadPart' eT
    refine wpAny_stack_any fun st => wpAny_pure ?_
    split
    · rename_i c _ _ _ _ _
      cases (c == Value.type "enumerate")
      · (wp_walk using wpAny_loadPart' eT, iter_tuple hL); exact ⟨_, rfl, h⟩
      · (wp_walk using wpAny_loadPart' eT, iter_tuple hL); exact ⟨_, rfl, h⟩
    · (wp_walk using wpAny_loadPart' eT, iter_tuple hL); exact ⟨_, rfl, h⟩
theorem call_T {prog : Program} {w : World} {A : Around} {E : Value → Shared → Prop} {s : Shared} {T : Addr} {vs : Array Value} {Q : Value → Shared → Prop} (hT : IsTup s.heap T vs)
    (h : ∀ h', IsEnum h' (s.heap.objs.size + 1) s.heap.objs.size 0 .none → IsTupIter h' s.heap.objs.size T 0 → h'.objs.size = s.heap.objs.size + 2 → (∀ b o, s.heap.get? b = some o → h'.get? b = some o) → Q (.ref (s.heap.objs.size + 1)) { s with heap := h' }) :
    wpAny (model prog w) A (call (.type "enumerate") [.ref T]) Q E s := by
  obtain ⟨⟨c, dct, dt, sl⟩, eT, cT, n, dT⟩ := hT
  have cT' : c = .type "tuple" := cT
  have dT' : dt = .seq vs n := dT
  subst cT' dT'
  refine callType_new F.called_enumerate (by decide) (F.typeCall_enumerate_1 _) (F.newCall_enumerate_1 _) (fun obj => F.args_object_init_2 obj _) F.entry_enumerate_new (newT T vs n dct sl) ⟨eT, ?_⟩
  have z1 : (s.heap.push { cls := .type "tuple_iterator", data := .fields #[.ref T, .int 0 0] }).objs.size = s.heap.objs.size + 1 := Heap.size_push ..
  show _ ∧ _
  rw [z1]
  have he : IsEnum ((s.heap.push { cls := .type "tuple_iterator", data := .fields #[.ref T, .int 0 0] }).push { cls := .type "enumerate", data := .fields #[.none, .bool false, .ref s.heap.objs.size, rawInt 0, .none, .none] }) (s.heap.objs.size + 1) s.heap.objs.size 0 .none := by
    have q := Heap.get?_push_size (s.heap.push { cls := .type "tuple_iterator", data := .fields #[.ref T, .int 0 0] }) (o := { cls := .type "enumerate", data := .fields #[.none, .bool false, .ref s.heap.objs.size, rawInt 0, .none, .none] }) rfl
    rw [z1] at q
    exact q
  exact ⟨⟨_, he, rfl⟩, h _ he ⟨_, Heap.get?_push_of_some _ (Heap.get?_push_size _ rfl), rfl, rfl⟩ (by rw [Heap.size_push, z1]) fun b o x => Heap.get?_push_of_some _ (Heap.get?_push_of_some _ x)⟩
end PDT
namespace PD
open PySem PySem.Spec PyProof.Rows L2
/-- the tuple at a, its items numbered, in new pairs -/
def Iet (K : PySem.W.Frag) (a : Addr) : It :=
  ⟨fun i H => ∃ (xs : List V) (x : V), SqT K H a xs ∧ xs[i]? = some x, fun i H v H' => ∃ T x, v = .ref T ∧ H T = none ∧ H' = upd H T (.tup [.int (i : Nat), x]) ∧ ∀ xs, SqT K H a xs → xs[i]? = some x, fun i H => ∃ xs : List V, SqT K H a xs ∧ xs.length ≤ i⟩
theorem turn_et {P : Program} {w : World} {K : PySem.W.Frag} {elts : List Expr} {kk : Nat} {tpos : Pos} (a e it : Addr) :
    Turn P w K (.Tuple elts kk tpos) (Iet K a) [e, it] e (fun i h => (∃ old, IsEnum h e it ((i : Nat) : Int) old) ∧ IsTupIter h it a i ∧ e ≠ it ∧ a ≠ it ∧ a ≠ e) where
  mem := by simp
  obj := fun i h st b hb => by
    obtain ⟨⟨old, he⟩, ⟨o, ho, hc, hd⟩, _⟩ := st
    have q : b = e ∨ b = it := by simpa using hb
    rcases q with rfl | rfl
    · exact ⟨_, he, fun v q => nomatch q⟩
    · exact ⟨o, ho, fun v q => by rw [hd] at q; cases q⟩
  keep := fun i h h' st k => let ⟨⟨old, he⟩, ⟨o, ho, r⟩, hne⟩ := st; ⟨⟨old, k e (by simp) _ he⟩, ⟨o, k it (by simp) o ho, r⟩, hne⟩
  item := by
    rintro X rfl rfl rfl hc i pins s σ H E I hf ⟨⟨old, he⟩, hit, hne, hai, hae⟩ ⟨xs, x, hq, hx⟩
    obtain ⟨its, rv, p, hz⟩ := I.tuple hq
    obtain ⟨u, hu, ru⟩ := rv.get hx
    have D := PDT.draws_tup (prog := X.prog) (w := X.w) (A := X.A.in1) (I.ok.hd hc) it a hai its.toArray
    have hlt : i < its.toArray.size := by
      rw [List.size_toArray]
      exact (List.getElem?_eq_some_iff.mp hu).1
    refine wpAny_pyNext_enum_itemD D he ⟨hit, p⟩ hlt hne (by simp [hne, hae.symm]) fun y h' tk hy ho hs' hT hsz hk => ?_
    have ey : y = u := by
      rw [List.getElem?_toArray, hu] at hy
      exact (Option.some.inj hy).symm
    subst ey
    have hel : e < s.heap.objs.size := Heap.lt_size he
    have hil : it < s.heap.objs.size := by obtain ⟨_, q, _⟩ := hit; exact Heap.lt_size q
    refine ⟨_, rfl, wpAny_letOwnedTupleGo_enum (s := { s with heap := h', toks := tk + 1 }) ho fun h'' he' sb => ?_⟩
    have hT2 : h''.get? s.heap.objs.size = some { cls := .type "tuple", data := .seq #[.int i tk, y] } := (sb.2 _ (Nat.ne_of_gt hel)).trans hT
    have nw : ObjOk X.prog X.w (upd H s.heap.objs.size (.tup [.int (i : Nat), x])) h'' s.heap.objs.size (.tup [.int (i : Nat), x]) := ⟨by show 2 ≤ sizeLine; decide, [.int i tk, y], .cons ⟨_, rfl⟩ (.cons ru .nil), ⟨_, hT2, rfl, _, rfl⟩⟩
    have I1 : Inv X pins σ (upd H s.heap.objs.size (.tup [.int (i : Nat), x])) { s with heap := h'', toks := tk + 1 } := I.turnedNew (ch := [e, it]) (fun b ob hb q => (sb.2 b (fun z => hb (by simp [z]))).trans (hk b ob (fun z => hb (by simp [z])) (fun z => hb (by simp [z])) q)) hf (Nat.le_refl _) nw
    refine ⟨.ref s.heap.objs.size, _, I1, rfl, ⟨_, x, rfl, I.hok.fresh (Nat.le_refl _), rfl, fun ys hy => by rw [I.tuple_inj hy hq]; exact hx⟩, ⟨⟨y, ?_⟩, ?_, hne, hai, hae⟩, fun b hb => ?_⟩
    · rw [show ((i + 1 : Nat) : Int) = (i : Int) + 1 by omega]; exact he'
    · obtain ⟨o, q, r⟩ := hs'.1
      exact ⟨o, (sb.2 it (Ne.symm hne)).trans q, r⟩
    · have hb' : b < s.heap.objs.size := by
        have q : b = e ∨ b = it := by simpa using hb
        rcases q with rfl | rfl
        · exact hel
        · exact hil
      rw [upd_ne (Nat.ne_of_lt hb')]; exact (hf b hb).1
  done := by
    rintro X rfl rfl rfl hc i pins s σ H E I hf ⟨⟨old, he⟩, hit, hne, hai, hae⟩ ⟨xs, hq, hx⟩
    obtain ⟨its, rv, p, hz⟩ := I.tuple hq
    obtain ⟨f0, f1, f2, f3, f4, f5⟩ := hf it (by simp)
    have hl := rv.length
    unfold pyNext
    have hT : s.TypeIs (.ref e) "enumerate" := ⟨_, he, rfl⟩
    refine wpAny_bind (wpAny_attempt (wpAny_callSpecial?_slot (name := Str.ofString "__next__") hT F.slot_enumerate_next (wpAny_call_entry F.slot_enumerate_next hT F.entry_enumerate_next ?_ (F.args_enumerate_next_1 _))))
    show wpAny _ _ (field (.ref e) 2 >>= _) _ _ _
    refine wpAny_bind (wpAny_field he rfl (x := .ref it) rfl ?_)
    refine wpAny_bind (PDT.nx_end (I.ok.hd hc) hit p (by simp; omega) fun h' x he' ⟨o, ho, hc'⟩ => ?_)
    exact wpAny_bind (wpAny_isInstance (T := "StopIteration") (b := true) ⟨o, ho, hc'⟩ isSubtype_stop (wpAny_pure ⟨rfl, I.turned (t' := s.toks) (fun b o hb q => he' b o hb q) f0 f1 f3 f4 f5⟩))
  self := fun A i s Q E st h => let ⟨⟨_, he⟩, _⟩ := st; wpAny_pyIter_enum he h
def iEt (K : PySem.W.Frag) (ta : TA) : TI := fun σ H R => ta σ H fun vs H1 => ∃ a xs, vs = [.ref a] ∧ SqT K H1 a xs ∧ R (Iet K a) H1
theorem pi_et {X : Cx} {e : Expr} {ta : TA} {p pos tpos : Pos} {elts : List Expr} {kk : Nat} (hg : Gl X "enumerate") (hm : X.mg "enumerate" = none) (ha : PA X [e] ta) (hs : starEach [e] X.env = [(false, eval e X.env)]) :
    PI X (.Tuple elts kk tpos) (.Call (.Name "enumerate" p) [e] [] pos) (iEt X.K ta) := by
  refine ⟨fun pins s σ H R I h => Call_ (ld_blt I hg hm boot_enumerate (PyProof.Rows.callWith_type1 (thn (ha.run pos pins s σ H _ I h) fun us s1 ⟨vs, H1, I1, r1, q1⟩ => ?_) hs rfl))⟩
  obtain ⟨a, xs, rfl, hq, q⟩ := q1
  cases r1 with
  | cons r rr =>
    cases rr; cases r
    obtain ⟨its, rv, p', hz⟩ := I1.tuple hq
    have hal := p'.lt
    refine PDT.call_T p' fun h' he hit hsz hk => wpAny_pyIter_enum he ?_
    have I2 : Inv X pins σ H1 { s1 with heap := h' } := I1.kept (t' := s1.toks) hk
    refine ⟨s1.heap.objs.size + 1, [s1.heap.objs.size + 1, s1.heap.objs.size], _, _, H1, rfl, I2, turn_et a (s1.heap.objs.size + 1) s1.heap.objs.size, ⟨⟨.none, he⟩, hit, Nat.succ_ne_self _, Nat.ne_of_lt hal, Nat.ne_of_lt (Nat.lt_succ_of_lt hal)⟩, fun b hb => ?_, q⟩
    have hle : s1.heap.objs.size ≤ b := by
      have z : b = s1.heap.objs.size + 1 ∨ b = s1.heap.objs.size := by simpa using hb
      rcases z with z | z
      · exact z ▸ Nat.le_succ _
      · exact z ▸ Nat.le_refl _
    exact I1.fpOk hle (I1.hok.fresh hle)
section
variable {K : PySem.W.Frag} {ρ : Rho} {te : TE}
theorem wk_et {S : Hp} {a : Addr} {xs : List V} {ds : List DV} (h : SqT K S a xs) (r : RpA K S xs ds) : WkD K (Iet K a) S (enumD ds) where
  stop := fun H e => ⟨xs, ex_t e h, by rw [enumD_len, r.len]; exact Nat.le_refl _⟩
  go := fun i H e hi => ⟨xs, xs[i]'(by rw [enumD_len] at hi; rw [r.len]; exact hi), ex_t e h, List.getElem?_eq_getElem _⟩
  yld := fun i H x H' y d hd S1 e e1 => by
    obtain ⟨T, x, rfl, nT, rfl, f⟩ := y
    have hi : i < ds.length := by
      have z := (List.getElem?_eq_some_iff.mp hd).1
      rwa [enumD_len] at z
    have hx := f xs (ex_t (e.tr e1) h)
    have rx := (r.getV hx (List.getElem?_eq_getElem hi)).up e
    rw [enumD_get (List.getElem?_eq_getElem hi) hd]
    exact ⟨_, Go.up e1 nT, .tup (.inl (.inl upd_same)) (.cons (.int _) (.cons (rx.up (Ex.new (e1.free nT))) .nil))⟩
theorem iv_et {ds : List DV} (h : EvD K te ρ (.tup ds)) : IvD K (iEt K (tCons te tNil)) ρ (enumD ds) := fun H0 σ S H e n R q =>
  h H0 σ S H e n _ fun v S1 H1 g1 r1 => by
    cases r1 with
    | tup s a => exact ⟨_, _, rfl, ex_t g1.sub s, q _ S1 H1 g1 (wk_et s a)⟩
end
theorem di_enumT {g : Gb} {l : Lc} {ρ : Rho} {e : Expr} {pos : Pos} {ds : List DV} {elts : List Expr} {kk : Nat} {tpos p : Pos} (hm : g.mg "enumerate" = none) (h : DE g l e ρ (.tup ds)) (hg : GlN l "enumerate" := by rfl) (hs : ∀ env, starEach [e] env = [(false, eval e env)] := by intro _; rfl) :
    DI g l (.Tuple elts kk tpos) (.Call (.Name "enumerate" p) [e] [] pos) ρ (enumD ds) :=
  DI.by (iEt g.K (tCons (UE g l e) tNil)) (fun X o => by have := pi_et (X := X) (elts := elts) (kk := kk) (tpos := tpos) (p := p) (pos := pos) (o.gl hg) (by rw [o.mg]; exact hm) (pa_cons (UE.pe o e) pa_nil (by rw [hs]; rfl)) (hs _); rw [o.K] at this; exact this) (iv_et h)
end PD

/-! Data: join, list(text), text[::-1], isinstance with two types. -/
namespace PD
open PySem PySem.Spec PyProof.Rows L2
/-! list(text) -/
def rListS : List V → Hp → VK → Prop := fun xs H Q => ∃ z : Str, xs = [.str z] ∧ z.length ≤ sizeLine ∧ ∀ p, H p = none → Q (.ref p) (upd H p (.lst (z.cps.toList.map fun c => .str ⟨#[c]⟩)))
theorem call_listS {X : Cx} (hc : X.calm = true) : CallR X (.type "list") rListS := by
  rintro pins s σ H _ us Q I r ⟨z, rfl, hz, q⟩
  obtain ⟨u, rfl, t, rfl⟩ := vals1 r
  refine call_list_str (I.ok.hd hc) z t (hn := hz) fun h' tk acc c' hk hS hacc => ?_
  have hv : Vals (z.cps.toList.map fun c => V.str ⟨#[c]⟩) acc.toList := by
    obtain ⟨hl, ha⟩ := hacc
    have go : ∀ (cs : List Nat) (vs : List Value), vs.length = cs.length → (∀ (j : Nat) v, vs[j]? = some v → ∃ c u, cs[j]? = some c ∧ v = Value.str ⟨#[c]⟩ u) → Vals (cs.map fun c => V.str ⟨#[c]⟩) vs := by
      intro cs
      induction cs with
      | nil => intro vs e _; cases vs with
        | nil => exact .nil
        | cons _ _ => cases e
      | cons c cs ih => intro vs e f; cases vs with
        | nil => cases e
        | cons v vs =>
          obtain ⟨d, u, hd, rfl⟩ := f 0 v rfl
          cases hd
          exact .cons ⟨u, rfl⟩ (ih vs (by simpa using e) fun j w hw => f (j + 1) w hw)
    refine go _ _ (by simpa using hl) fun j v hv => ?_
    obtain ⟨c, u, hc', e⟩ := ha j v (by simpa using hv)
    exact ⟨c, u, by simpa using hc', e⟩
  exact ⟨.ref s.heap.objs.size, _, I.laid (t' := tk) (fun b ob e => hk b ob e) (Nat.le_refl _) (show ObjOk X.prog X.w _ h' _ (.lst _) from ⟨by rw [List.length_map, Array.length_toList]; exact hz, acc.toList, c', hv, by simpa using hS⟩), rfl, q _ (I.hok.fresh (Nat.le_refl _))⟩
section
variable {K : PySem.W.Frag}
theorem rpa_signs {S : Hp} (cs : List Nat) : RpA K S (cs.map fun c => V.str ⟨#[c]⟩) (cs.map fun c => DV.str ⟨#[c]⟩) := by
  induction cs with
  | nil => exact .nil
  | cons c cs ih => exact .cons (.str _) ih
theorem cd_listS {z : Str} (hz : z.length ≤ 100000) : CaD K rListS [.str z] (.lst (signD z)) := fun S H xs e r0 Q q => by
  obtain ⟨v, rfl, r⟩ := one r0
  cases r
  exact ⟨z, rfl, sz5 hz, fun p hp => q _ _ _ (Go.up e hp) (.lst (.inl upd_same) (rpa_signs _))⟩
end
section
variable {g : Gb} {l : Lc} {ρ : Rho} {e a : Expr} {pos : Pos} {ds : List DV} {d da : DV}
theorem de_listS {p : Pos} {z : Str} (hm : g.mg "list" = none) (hz : z.length ≤ 100000) (h : DE g l e ρ (.str z)) (hg : GlN l "list" := by rfl) (hs : ∀ env, starEach [e] env = [(false, eval e env)] := by intro _; rfl) (hcl : l.cb = true := by rfl) : DE g l (.Call (.Name "list" p) [e] [] pos) ρ (.lst (signD z)) :=
  de_ct (r := rListS) (fun X o => call_listS (o.calm hcl)) hm (by decide +kernel) (cd_listS hz) (da_cons h da_nil (by intro env; rw [hs env]; rfl)) hg (by decide) (by decide) (by intro env; rw [hs env]; rfl) (by intro env; rfl)
/-! sep.join(list of texts) -/
def rJoinX (K : PySem.W.Frag) : V → List V → Hp → VK → Prop := fun x xs H Q => ∃ a p, ∃ ys : List Str, x = .str a ∧ xs = [.ref p] ∧ (SqL K H p (ys.map V.str) ∨ SqT K H p (ys.map V.str)) ∧ (ys.map (·.length)).sum + ys.length * a.length ≤ 16777216 ∧ Q (.str (Txt.join a ys)) H
theorem ev_join {K : PySem.W.Frag} {to te : TE} {sep : Str} {ys : List Str} (h1 : EvD K to ρ (.str sep)) (h2 : EvD K te ρ da) (hi : da.items = some (ys.map DV.str)) (hz : (ys.map (·.length)).sum + ys.length * sep.length ≤ 16777216) : EvD K (tM1 (rJoinX K) to te) ρ (.str (Txt.join sep ys)) := fun H0 σ S H ex n Q q =>
  h1 H0 σ S H ex n _ fun x S1 H1 g1 r1 => by
    cases r1
    refine ⟨⟨sep, rfl⟩, h2 H0 σ S1 H1 g1.sub (n.go g1) _ fun y S2 H2 g2 r2 => ?_⟩
    obtain ⟨p, xs, rfl, hs, ra⟩ := items_rp hi r2
    have z := strsD ra
    subst z
    exact ⟨sep, p, ys, rfl, rfl, sq_up g2.sub hs, hz, q _ S2 H2 (g1.tr g2) (.str _)⟩
theorem de_join {apos : Pos} {sep : Str} {ys : List Str} (h1 : DE g l a ρ (.str sep)) (h2 : DE g l e ρ da) (hi : da.items = some (ys.map DV.str)) (hz : (ys.map (·.length)).sum + ys.length * sep.length ≤ 16777216) (hs : ∀ env, starEach [e] env = [(false, eval e env)] := by intro _; rfl)
    (hbase : ∀ env, attributeBase a ("join" : Str) env (eval a env) = eval a env := by intro _; rfl) (hline : (apos.endLine == pos.line) = true := by rfl) : DE g l (.Call (.Attribute a "join" apos) [e] [] pos) ρ (.str (Txt.join sep ys)) :=
  DE.by (tM1 (rJoinX g.K) (UE g l a) (UE g l e)) (fun X o => by have := pe_join (X := X) (apos := apos) (pos := pos) (UE.pe o a) (UE.pe o e) (hs _) (hbase _) hline; rw [o.K] at this; exact this) (ev_join h1 h2 hi hz)
/-! text[::-1] -/
/-! isinstance(x, (list, tuple)) -/
theorem de_isLT {p p2 p3 p4 : Pos} {k : Nat} (B : Bt g) (ho : d.isObj = false) (h : DE g l e ρ d) (hg : GlN l "isinstance" := by rfl) (hgL : GlN l "list" := by rfl) (hgT : GlN l "tuple" := by rfl)
    (hs : ∀ env, starEach (e :: [.Tuple [.Name "list" p2, .Name "tuple" p3] k p4]) env = (false, eval e env) :: starEach [.Tuple [.Name "list" p2, .Name "tuple" p3] k p4] env := by intro _; rfl) :
    DE g l (.Call (.Name "isinstance" p) (e :: [.Tuple [.Name "list" p2, .Name "tuple" p3] k p4]) [] pos) ρ (.bl (d.isLst || d.isTup)) :=
  DE.by (tCB (rIsiT g.K) (tCons (UE g l e) (tCons (tTup (tCons (tC (.ty "list")) (tCons (tC (.ty "tuple")) tNil))) tNil))) (fun X o => by
    have := call_isiT (X := X)
    rw [o.K] at this
    exact pe_callB this (o.gl hg) (by rw [o.mg]; exact B.isi) (by decide +kernel) (pa_cons (UE.pe o e) (pa_cons (pe_tup (pa_cons (pe_bltn (v := .ty "list") (o.gl hgL) (by rw [o.mg]; exact B.list) (by decide +kernel) rfl) (pa_cons (pe_bltn (v := .ty "tuple") (o.gl hgT) (by rw [o.mg]; exact B.tuple) (by decide +kernel) rfl) pa_nil))) pa_nil) (hs _)) (by decide) (by decide) (hs _) (by rfl))
    fun H0 σ S H ex n Q q => h H0 σ S H ex n _ fun v S1 H1 g1 r1 => ⟨by show 2 ≤ sizeLine; decide, fun tp hp => by
      obtain ⟨t, hk⟩ := kind_some ho
      refine ⟨v, tp, _, _, _, d.isLst || d.isTup, rfl, upd_same, .cons (.ty _) (.cons (.ty _) .nil), ty_of (g1.sub.tr (Ex.new hp)) hk r1, ?_, q _ _ _ (g1.tr (Go.side g1.sub (Ex.new hp))) (.bl _)⟩
      have nl : ∀ (t : Value), PySem.W.kitAny g.K t [] = some false := fun _ => rfl
      cases d <;> cases hk <;> first
        | exact kitAny_cons (b := true) (kit_ty (kb _ _ true)) (fun z => by cases z) (fun _ => rfl)
        | exact kitAny_cons (b := false) (kit_ty (kb _ _ false)) (fun _ => kitAny_cons (b := true) (kit_ty (kb _ _ true)) (fun z => by cases z) (fun _ => rfl)) (fun z => by cases z)
        | exact kitAny_cons (b := false) (kit_ty (kb _ _ false)) (fun _ => kitAny_cons (b := false) (kit_ty (kb _ _ false)) (fun _ => nl _) (fun z => by cases z)) (fun z => by cases z)
        | cases ho⟩
end
end PD

/-! The program's data, and what its defs compute, as plain functions. -/
namespace SP
open PySem L2 PD
theorem filt {α : Type} (l : List α) : (l.filter fun _ => true) = l := List.filter_eq_self.mpr fun _ _ => rfl
/-! data that a def may be handed: no instances, no text or row that is too long -/
mutual
def fit : DV → Bool
  | .non => true | .bl _ => true | .int _ => true | .str x => decide (x.length ≤ 100000)
  | .tup xs => decide (xs.length ≤ 100000) && fits xs | .lst xs => decide (xs.length ≤ 100000) && fits xs | .obj _ _ => false | .frz _ => false | .dct _ _ _ => false | .tks _ _ => false | .adr _ => false
def fits : List DV → Bool
  | [] => true
  | d :: ds => fit d && fits ds
end
theorem fit_obj {v : DV} (h : fit v = true) : v.isObj = false := by
  cases v <;> first | rfl | (rw [fit] at h; cases h)
theorem fit_str {z : Str} (h : fit (.str z) = true) : z.length ≤ 100000 := by
  rw [fit] at h
  exact of_decide_eq_true h
theorem fit_tup {xs : List DV} (h : fit (.tup xs) = true) : xs.length ≤ 100000 ∧ fits xs = true := by
  rw [fit, Bool.and_eq_true] at h
  exact ⟨of_decide_eq_true h.1, h.2⟩
theorem fits_mem : ∀ {xs : List DV} {d : DV}, fits xs = true → d ∈ xs → fit d = true
  | [], _, _, h => by cases h
  | x :: xs, d, h, hm => by
    rw [fits, Bool.and_eq_true] at h
    rcases List.mem_cons.mp hm with rfl | hm
    · exact h.1
    · exact fits_mem h.2 hm
/-! words, pieces, texts -/
def codeOk (ls : Str) (c : Nat) : Bool := decide (c ∈ ls.cps.toList)
def wordOk (ls : Str) (m : Nat) (z : Str) : Bool := decide (z.length ≤ m) && z.cps.toList.all (codeOk ls)
def isNum : DV → Bool
  | .int _ => true | _ => false
def isWord (ls : Str) (m : Nat) : DV → Bool
  | .str z => wordOk ls m z | _ => false
def isBlock (n : Nat) : DV → Bool
  | .int i => decide (0 ≤ i) && decide (i < n) | _ => false
def isOrder (n : Nat) : DV → Bool
  | .tup xs => decide (xs.length ≤ 3) && xs.all (isBlock n) | _ => false
/-! states, writes -/
def psD (ps : List Str) : List DV := ps.map DV.str
def odD (od : List Nat) : List DV := od.map fun (b : Nat) => DV.int (b : Int)
def stD (ps : List Str) (od : List Nat) : DV := .tup [.tup (psD ps), .tup (odD od)]
theorem psD_len (ps : List Str) : (psD ps).length = ps.length := List.length_map ..
theorem odD_len (od : List Nat) : (odD od).length = od.length := List.length_map ..
theorem psD_get {ps : List Str} {i : Nat} {p : Str} (h : ps[i]? = some p) : (psD ps)[i]? = some (.str p) := by
  unfold psD
  rw [List.getElem?_map, h]
  rfl
inductive Wr where
  | piece (b : Nat) (p : Str) | order (o : List Nat)
  deriving DecidableEq
def Wr.d : Wr → DV
  | .piece b p => .tup [.str "piece", .int b, .str p]
  | .order o => .tup [.str "order", .tup (odD o)]
def isWr (ls : Str) (ps : List Str) (od : List Nat) : DV → Bool
  | .tup [.str a, b] => decide (a = "order") && isOrder ps.length b && !b.eqv (.tup (odD od))
  | .tup [.str a, b, c] => decide (a = "piece") && isBlock ps.length b && isWord ls 2 c && !(match b, c with | .int i, .str z => decide (z = ps.getD i.toNat ⟨#[]⟩) | _, _ => false)
  | _ => false
theorem eqvAll_odD : ∀ a b : List Nat, PyData.eqvAll (pdAll (odD a)) (pdAll (odD b)) = decide (a = b)
  | [], [] => by simp [odD, pdAll, PyData.eqvAll]
  | [], _ :: _ => by simp [odD, pdAll, PyData.eqvAll]
  | _ :: _, [] => by simp [odD, pdAll, PyData.eqvAll]
  | x :: a, y :: b => by
    have ih := eqvAll_odD a b
    show PyData.eqvAll (DV.pd (.int (x : Int)) :: pdAll (odD a)) (DV.pd (.int (y : Int)) :: pdAll (odD b)) = _
    rw [PyData.eqvAll, ih, DV.pd, DV.pd, PyData.eqv, Bool.eq_iff_iff]
    simp
    intro _
    omega
theorem eqv_odD (a b : List Nat) : (DV.tup (odD a)).eqv (.tup (odD b)) = decide (a = b) := by
  show PyData.eqv (DV.pd _) (DV.pd _) = _
  rw [DV.pd, DV.pd, PyData.eqv, eqvAll_odD]
theorem plain_odD : ∀ a : List Nat, plainAll (odD a) = true
  | [] => by simp [odD, plainAll]
  | x :: a => by
    show plainAll (DV.int (x : Int) :: odD a) = true
    rw [plainAll, plain_odD a, DV.plain]
    rfl
theorem dep_odD : ∀ a : List Nat, depAll (odD a) = 0
  | [] => by simp [odD, depAll]
  | x :: a => by
    show depAll (DV.int (x : Int) :: odD a) = 0
    rw [depAll, dep_odD a, DV.dep]
    rfl
theorem ok_odD (a : List Nat) : (DV.tup (odD a)).ok = true := by
  unfold DV.ok
  rw [DV.plain, plain_odD, DV.dep, dep_odD]
  rfl
theorem isOrder_form {n : Nat} {v : DV} (h : isOrder n v = true) : ∃ o : List Nat, v = .tup (odD o) ∧ o.length ≤ 3 ∧ ∀ b ∈ o, b < n := by
  cases v with
  | tup xs =>
    unfold isOrder at h
    rw [Bool.and_eq_true] at h
    obtain ⟨h1, h2⟩ := h
    have go : ∀ xs : List DV, xs.all (isBlock n) = true → ∃ o : List Nat, xs = odD o ∧ ∀ b ∈ o, b < n := by
      intro xs
      induction xs with
      | nil => intro _; exact ⟨[], rfl, fun b hb => by cases hb⟩
      | cons x xs ih =>
        intro h
        rw [List.all_cons, Bool.and_eq_true] at h
        obtain ⟨o, e, f⟩ := ih h.2
        cases x with
        | int i =>
          have h3 := h.1
          unfold isBlock at h3
          rw [Bool.and_eq_true, decide_eq_true_eq, decide_eq_true_eq] at h3
          refine ⟨i.toNat :: o, ?_, fun b hb => ?_⟩
          · rw [e]
            show _ = DV.int ((i.toNat : Nat) : Int) :: odD o
            rw [Int.toNat_of_nonneg h3.1]
          · rcases List.mem_cons.mp hb with rfl | hb
            · omega
            · exact f b hb
        | _ => exact absurd h.1 (by simp [isBlock])
    obtain ⟨o, e, f⟩ := go xs h2
    refine ⟨o, by rw [e], ?_, f⟩
    have := of_decide_eq_true h1
    rw [e, odD_len] at this
    exact this
  | _ => simp [isOrder] at h
theorem isOrder_of {n : Nat} {o : List Nat} (h : o.length ≤ 3) (f : ∀ b ∈ o, b < n) : isOrder n (.tup (odD o)) = true := by
  unfold isOrder
  rw [Bool.and_eq_true, odD_len]
  refine ⟨decide_eq_true h, ?_⟩
  rw [List.all_eq_true]
  intro d hd
  unfold odD at hd
  rw [List.mem_map] at hd
  obtain ⟨b, hb, rfl⟩ := hd
  unfold isBlock
  rw [Bool.and_eq_true]
  exact ⟨decide_eq_true (by omega), decide_eq_true (by have := f b hb; omega)⟩
/-! contents -/
def addD : DV → DV → DV
  | .str a, .str b => .str (a ++ b) | .tup a, .tup b => .tup (a ++ b) | _, _ => .non
def stepC (is L : List DV) : List DV := L.flatMap fun c => is.map (addD c)
def nthC (e : DV) (is : List DV) : Nat → List DV
  | 0 => [e]
  | n + 1 => stepC is (nthC e is n)
def contC (e : DV) (is : List DV) : Nat → List DV
  | 0 => [e]
  | n + 1 => contC e is n ++ nthC e is (n + 1)
theorem stepC_len (is L : List DV) : (stepC is L).length = L.length * is.length := by
  unfold stepC
  induction L with
  | nil => simp
  | cons x L ih => rw [List.flatMap_cons, List.length_append, List.length_map, ih, List.length_cons, Nat.succ_mul, Nat.add_comm]
theorem nthC_len (e : DV) (is : List DV) : ∀ n, (nthC e is n).length = is.length ^ n
  | 0 => by simp [nthC]
  | n + 1 => by rw [nthC, stepC_len, nthC_len e is n, Nat.pow_succ]
/-- of one kind, and not too long -/
def shortS (b : Nat) : DV → Bool
  | .str x => decide (x.length ≤ b) | _ => false
def shortT (b : Nat) : DV → Bool
  | .tup x => decide (x.length ≤ b) | _ => false
theorem addS {a b : DV} {m n : Nat} (h : shortS m a = true) (h' : shortS n b = true) : shortS (m + n) (addD a b) = true := by
  cases a <;> first | cases h | skip
  cases b <;> first | cases h' | skip
  rename_i x y
  have h1 : x.length ≤ m := of_decide_eq_true h
  have h2 : y.length ≤ n := of_decide_eq_true h'
  exact decide_eq_true (by rw [Str.length_append]; omega)
theorem addT {a b : DV} {m n : Nat} (h : shortT m a = true) (h' : shortT n b = true) : shortT (m + n) (addD a b) = true := by
  cases a <;> first | cases h | skip
  cases b <;> first | cases h' | skip
  rename_i x y
  have h1 : x.length ≤ m := of_decide_eq_true h
  have h2 : y.length ≤ n := of_decide_eq_true h'
  exact decide_eq_true (by rw [List.length_append]; omega)
theorem nthT {e : DV} {is : List DV} (he : shortT 0 e = true) (hi : is.all (shortT 1) = true) : ∀ n, ∀ d ∈ nthC e is n, shortT n d = true
  | 0, d, hd => by
    have : d = e := by simpa [nthC] using hd
    rw [this]; exact he
  | n + 1, d, hd => by
    unfold nthC stepC at hd
    rw [List.mem_flatMap] at hd
    obtain ⟨c, hc, hd⟩ := hd
    rw [List.mem_map] at hd
    obtain ⟨i, hi', rfl⟩ := hd
    exact addT (nthT he hi n c hc) (List.all_eq_true.mp hi i hi')
/-- all pieces of some letters, all orders of n blocks -/
def letterSet (ls : Str) : Prop := ls = "ab" ∨ ls = "abc"
def onesS (ls : Str) : List Str := ls.cps.toList.map fun c => ⟨#[c]⟩
def piecesOf (ls : Str) : List Str := [⟨#[]⟩] ++ onesS ls ++ (onesS ls).flatMap fun a => (onesS ls).map fun b => a ++ b
def onesO (n : Nat) : List (List Nat) := (List.range n).map fun b => [b]
def ordersOf (n : Nat) : List (List Nat) := [[]] ++ onesO n ++ ((onesO n).flatMap fun a => (onesO n).map fun b => a ++ b) ++ (((onesO n).flatMap fun a => (onesO n).map fun b => a ++ b).flatMap fun a => (onesO n).map fun b => a ++ b)
theorem cont_pieces (ls : Str) : contC (.str ⟨#[]⟩) (psD (onesS ls)) 2 = psD (piecesOf ls) := by
  have e1 : nthC (.str ⟨#[]⟩) (psD (onesS ls)) 1 = psD (onesS ls) := by
    show stepC (psD (onesS ls)) [DV.str ⟨#[]⟩] = _
    unfold stepC psD
    rw [List.flatMap_cons, List.flatMap_nil, List.append_nil, List.map_map]
    refine List.map_congr_left fun x _ => ?_
    show DV.str (⟨#[]⟩ ++ x) = DV.str x
    congr 1
    exact Str.ext' (by show #[] ++ x.cps = x.cps; simp)
  have e2 : nthC (.str ⟨#[]⟩) (psD (onesS ls)) 2 = psD ((onesS ls).flatMap fun a => (onesS ls).map fun b => a ++ b) := by
    rw [nthC, e1]
    unfold stepC psD
    rw [List.map_flatMap, List.flatMap_map]
    refine congrArg (fun f => List.flatMap f (onesS ls)) ?_
    funext a
    rw [List.map_map, List.map_map]
    rfl
  rw [contC, contC, contC, e1, e2]
  unfold psD piecesOf
  rw [List.map_append, List.map_append]
  rfl
def oD (o : List Nat) : DV := .tup (odD o)
theorem add_oD (a b : List Nat) : addD (oD a) (oD b) = oD (a ++ b) := by
  show DV.tup (odD a ++ odD b) = DV.tup (odD (a ++ b))
  unfold odD
  rw [List.map_append]
theorem step_oD (xs ys : List (List Nat)) : stepC (xs.map oD) (ys.map oD) = (ys.flatMap fun a => xs.map fun b => a ++ b).map oD := by
  unfold stepC
  rw [List.map_flatMap, List.flatMap_map]
  refine congrArg (fun f => List.flatMap f ys) ?_
  funext a
  rw [List.map_map, List.map_map]
  refine List.map_congr_left fun b _ => ?_
  exact add_oD a b
theorem cont_orders (n : Nat) : contC (oD []) ((onesO n).map oD) 3 = (ordersOf n).map oD := by
  have e1 : nthC (oD []) ((onesO n).map oD) 1 = (onesO n).map oD := by
    show stepC _ (([[]] : List (List Nat)).map oD) = _
    rw [step_oD]
    simp
  have e2 : nthC (oD []) ((onesO n).map oD) 2 = ((onesO n).flatMap fun a => (onesO n).map fun b => a ++ b).map oD := by
    rw [nthC, e1, step_oD]
  have e3 : nthC (oD []) ((onesO n).map oD) 3 = (((onesO n).flatMap fun a => (onesO n).map fun b => a ++ b).flatMap fun a => (onesO n).map fun b => a ++ b).map oD := by
    rw [nthC, e2, step_oD]
  rw [contC, contC, contC, contC, e1, e2, e3]
  unfold ordersOf
  rw [List.map_append, List.map_append, List.map_append]
  rfl
theorem signD_ones (ls : Str) : signD ls = psD (onesS ls) := by
  unfold signD psD onesS
  rw [List.map_map]
  rfl
theorem nthC_le {e : DV} {is : List DV} {i : Nat} (h : is.length ≤ 4) (hi : i ≤ 3) : (nthC e is i).length ≤ 64 := by
  rw [nthC_len]
  refine Nat.le_trans (Nat.pow_le_pow_left h i) (Nat.le_trans (Nat.pow_le_pow_right (by decide) hi) (by decide))
theorem contC_le {e : DV} {is : List DV} (h : is.length ≤ 4) : ∀ {i : Nat}, i ≤ 3 → (contC e is i).length ≤ 1 + 64 * i
  | 0, _ => by simp [contC]
  | i + 1, hi => by
    have h1 := contC_le (e := e) h (i := i) (by omega)
    have h2 := nthC_le (e := e) h hi
    rw [contC, List.length_append]
    omega
/-! all writes -/
def writesOf (ls : Str) (ps : List Str) (od : List Nat) : List Wr :=
  (ps.zipIdx.flatMap fun p => ((piecesOf ls).filter fun n => !decide (n = p.1)).map fun n => Wr.piece p.2 n) ++ ((ordersOf ps.length).filter fun o => !decide (o = od)).map Wr.order
def orderNew (od : List Nat) (c : DV) : Bool := !c.eqv (.tup (odD od))
def orderWr (c : DV) : DV := .tup [.str "order", c]
theorem writes_orders (n : Nat) (od : List Nat) : (((ordersOf n).map oD).filter (orderNew od)).map orderWr = (((ordersOf n).filter fun o => !decide (o = od)).map Wr.order).map Wr.d := by
  rw [List.map_map, List.filter_map, List.map_map]
  have e : (orderNew od ∘ oD) = fun o => !decide (o = od) := by
    funext o
    show (!(DV.tup (odD o)).eqv (.tup (odD od))) = _
    rw [eqv_odD]
  rw [e]
  rfl
theorem onesS_len {ls : Str} (h : letterSet ls) : (onesS ls).length ≤ 3 := by rcases h with rfl | rfl <;> decide +kernel
theorem piecesOf_len {ls : Str} (h : letterSet ls) : (piecesOf ls).length ≤ 13 := by rcases h with rfl | rfl <;> decide +kernel
theorem ordersOf_len {n : Nat} (h : n ≤ 4) : (ordersOf n).length ≤ 85 := by
  have : ∀ n ≤ 4, (ordersOf n).length ≤ 85 := by decide +kernel
  exact this n h
theorem shortS_ones (ls : Str) : (psD (onesS ls)).all (shortS 1) = true := by
  rw [List.all_eq_true]
  intro d hd
  unfold psD onesS at hd
  rw [List.map_map, List.mem_map] at hd
  obtain ⟨c, _, rfl⟩ := hd
  rfl
theorem shortT_ones (n : Nat) : ((onesO n).map oD).all (shortT 1) = true := by
  rw [List.all_eq_true]
  intro d hd
  unfold onesO at hd
  rw [List.map_map, List.mem_map] at hd
  obtain ⟨c, _, rfl⟩ := hd
  rfl
/-! texts -/
def catS (l : List Str) : Str := l.foldl (· ++ ·) ⟨#[]⟩
theorem nil_app (x : Str) : (⟨#[]⟩ : Str) ++ x = x := Str.ext' (by show #[] ++ x.cps = x.cps; simp)
theorem app_nil (x : Str) : x ++ (⟨#[]⟩ : Str) = x := Str.ext' (by show x.cps ++ #[] = x.cps; simp)
theorem app_assoc (x y z : Str) : x ++ y ++ z = x ++ (y ++ z) := Str.ext' (by show x.cps ++ y.cps ++ z.cps = x.cps ++ (y.cps ++ z.cps); simp)
theorem foldl_app (l : List Str) (a : Str) : l.foldl (· ++ ·) a = a ++ catS l := by
  induction l generalizing a with
  | nil => exact (app_nil a).symm
  | cons x l ih =>
    show l.foldl (· ++ ·) (a ++ x) = a ++ (l.foldl (· ++ ·) (⟨#[]⟩ ++ x))
    rw [ih, nil_app, ih x, app_assoc]
theorem catS_cons (x : Str) (l : List Str) : catS (x :: l) = x ++ catS l := by
  show l.foldl (· ++ ·) (⟨#[]⟩ ++ x) = _
  rw [nil_app, foldl_app]
theorem join_cat' : ∀ l : List Str, Str.join ⟨#[]⟩ l = catS l
  | [] => rfl
  | [x] => by rw [catS_cons]; exact (app_nil x).symm
  | x :: y :: l => by
    have ih := join_cat' (y :: l)
    rw [catS_cons, ← ih]
    show x ++ ⟨#[]⟩ ++ Str.join ⟨#[]⟩ (y :: l) = _
    rw [app_nil]
theorem join_cat (l : List Str) : Txt.join ⟨#[]⟩ l = catS l := (eq_of_beq (PyProof.Rows.join_plain_closes ⟨#[]⟩ l)).trans (join_cat' l)
theorem catS_len (l : List Str) : (catS l).length = (l.map (·.length)).sum := by
  induction l with
  | nil => rfl
  | cons x l ih => rw [catS_cons, Str.length_append, ih, List.map_cons, List.sum_cons]
theorem sum_le {l : List Nat} {m : Nat} (h : ∀ x ∈ l, x ≤ m) : l.sum ≤ l.length * m := by
  induction l with
  | nil => simp
  | cons x l ih =>
    have h1 := h x (List.mem_cons_self ..)
    have h2 := ih fun y hy => h y (List.mem_cons_of_mem _ hy)
    rw [List.sum_cons, List.length_cons, Nat.succ_mul]
    omega
end SP

namespace SP
open PySem PySem.Spec PyProof.Rows L2 PD
def topS (i : Nat) : Stmt := PySem.Challenge.pw_safepatch_k35_whole_texts.main.body.getD i (.Pass ⟨0, 0, 0, 0⟩)
abbrev s_BadText : Stmt := topS 5
abbrev sNumber : Stmt := topS 9
abbrev sWord : Stmt := topS 10
abbrev sPiece : Stmt := topS 11
abbrev sBlock : Stmt := topS 12
abbrev sOrder : Stmt := topS 13
abbrev sSWrite : Stmt := topS 14
abbrev sContents : Stmt := topS 15
abbrev sAllPieces : Stmt := topS 16
abbrev sAllOrders : Stmt := topS 17
abbrev sEvery : Stmt := topS 18
abbrev sPut : Stmt := topS 20
abbrev sSAfter : Stmt := topS 21
abbrev sFile : Stmt := topS 26
abbrev sIsLetters : Stmt := topS 27
abbrev sArePieces : Stmt := topS 28
abbrev sIsPrice : Stmt := topS 29
abbrev sCheckFile : Stmt := topS 30
abbrev sFileState : Stmt := topS 31
abbrev sCheckWrites : Stmt := topS 33
abbrev sPassed : Stmt := topS 34
abbrev s_Reader : Stmt := topS 37
abbrev s_file_text : Stmt := topS 38
abbrev s_read_file : Stmt := topS 39
abbrev s_writes_text : Stmt := topS 40
abbrev s_read_writes : Stmt := topS 41
abbrev s_terminated : Stmt := topS 42
abbrev s_letters_line : Stmt := topS 43
abbrev s_piece_line : Stmt := topS 44
abbrev s_order_line : Stmt := topS 45
abbrev s_price_line : Stmt := topS 46
abbrev s_price_lines : Stmt := topS 47
abbrev s_torn_line : Stmt := topS 48
abbrev s_write_line : Stmt := topS 49
abbrev s_piece_word : Stmt := topS 50
abbrev s__law_number : Stmt := topS 52
abbrev s__law_file : Stmt := topS 53
abbrev s__law_after : Stmt := topS 54
abbrev s__law_writes : Stmt := topS 55
abbrev s__law_state : Stmt := topS 56
abbrev s__law_row : Stmt := topS 57
abbrev s__law_order : Stmt := topS 58
abbrev s__law_piece : Stmt := topS 59
abbrev s__law_lines : Stmt := topS 60
abbrev s__law_files_right : Stmt := topS 61
abbrev s__law_write : Stmt := topS 62
abbrev s__law_writes_right : Stmt := topS 63
abbrev s__law_all_right : Stmt := topS 64
abbrev s_law : Stmt := topS 65
abbrev s_BadText_init : Stmt := inClass s_BadText 0
abbrev sFInit : Stmt := inClass sFile 0
abbrev sFLen : Stmt := inClass sFile 10
abbrev sFEq : Stmt := inClass sFile 11
abbrev s_Reader_init : Stmt := inClass s_Reader 0
abbrev s_Reader_look : Stmt := inClass s_Reader 1
abbrev s_Reader_take : Stmt := inClass s_Reader 2
abbrev s_Reader_end : Stmt := inClass s_Reader 3
end SP

/-! Questions to what the top has left: what the run tells. -/
namespace PD
open PySem PySem.W PySem.W.X PySem.Calls PyProof.Rows HandSHeadRun
abbrev noObj : Obj := { cls := .none, data := .fields #[] }
def wholeK (ts : List Addr) (n : Nat) (g : Addr → Option Obj) : PySem.W.Frag := (List.range n).filterMap fun a => if ts.contains a then none else (g a).map fun o => (a, o)
/-- the run's equation: what is looked at is any function of the state -/
def RunX {α : Type} (r : OpenRow) (q : Program) (val : World → α) (ob : SharedT → α) (M : Nat) (loose : List PySem.Str) (w : World) : Prop := ∀ os : OsState, Option.map (fun s => ((looksF r.prog (boot_heap w.params) s.abs : Bool), seenQ q loose (importedModules r.prog.main.body) (fun s => xlAt q [] s && recOk r.toRowW.records s) s.abs, ob s)) (endF (stepQ (denQ tabQ) r.prog w) M r.prog w os) = some (true, openGood q loose, val w)
end PD
namespace HF
open PySem PySem.Spec PyProof.Rows L2 PD PySem.W PySem.W.X
section
variable {K : Frag}
def fdAt (K : Frag) (a : Addr) : Option FuncData := match K.lookup a with
  | some ⟨_, _, .func fd, _⟩ => some fd
  | _ => none
def cdOf (K : Frag) (a : Addr) : Value := match fdAt K a with
  | some fd => fd.code
  | none => .none
def kwOf (K : Frag) (a : Addr) : Value := match fdAt K a with
  | some fd => fd.kwdefaults
  | none => .none
def clOf (K : Frag) (a : Addr) : List (Str × Addr) := match fdAt K a with
  | some fd => fd.closure
  | none => []
def refA : Value → Addr
  | .ref a => a
  | _ => 0
def isRefV : Value → Bool
  | .ref _ => true
  | _ => false
def isRef : Option (Option Value) → Bool
  | some (some (.ref _)) => true
  | _ => false
def refO : Option (Option Value) → Addr
  | some (some (.ref a)) => a
  | _ => 0
def tokO : Option (Option Value) → Tok
  | some (some (.int _ t)) => t
  | some (some (.str _ t)) => t
  | _ => 0
def isInt (i : Int) : Option (Option Value) → Bool
  | some (some (.int j _)) => decide (j = i)
  | _ => false
def isStr (x : Str) : Option (Option Value) → Bool
  | some (some (.str y _)) => decide (y = x)
  | _ => false
/-- where a name of the module stands; a method; a record's first part -/
def ga (K : Frag) (x : Str) : Addr := refO (nsIn K mainGlobals x)
def ma (K : Frag) (C : Addr) (m : Str) : Addr := refO (findIn K (.ref C) m)
def gp (K : Frag) (p : Addr) : Addr := match recIn K p "property" with
  | some (v :: _) => refA v
  | _ => 0
abbrev FV : Type := Option (Str × Str × Arguments × FuncBody × Scope × Addr × List Str × Value × Addr)
def fv : Option FuncData → FV
  | some fd => some (fd.name, fd.qualname, fd.params, fd.body, fd.scope, fd.globals, fd.closure.map (·.1), fd.defaults, fd.builtins)
  | none => none
inductive Ask where
  | b (f : Frag → Bool)
  | v (f : Frag → Option (Option Value)) (r : Option (Option Value))
  | o (f : Frag → Option Bool) (r : Option Bool)
  | d (at_ : Frag → Addr) (name qual : Str) (st : Stmt) (cs : List Str)
inductive Ans where
  | b (x : Bool)
  | v (x : Option (Option Value))
  | o (x : Option Bool)
  | d (x : FV) (c k : Bool)
def Ask.obs (K : Frag) : Ask → Ans
  | .b f => .b (f K)
  | .v f _ => .v (f K)
  | .o f _ => .o (f K)
  | .d at_ _ qual _ _ => .d (fv (fdAt K (at_ K))) (codeIn K (cdOf K (at_ K)) qual) (keepIn K (.ref (at_ K)))
def Ask.val : Ask → Ans
  | .b _ => .b true
  | .v _ r => .v r
  | .o _ r => .o r
  | .d _ name qual st cs => .d (some (name, qual, defArgs st, .stmts (defBody st), defScope st, mainGlobals, cs, .none, builtinsNs)) true true
def aRef (x : Str) : List Ask := [.b fun K => isRef (nsIn K mainGlobals x)]
def aInt (x : Str) (i : Int) : List Ask := [.b fun K => isInt i (nsIn K mainGlobals x)]
def aStr (x y : Str) : List Ask := [.b fun K => isStr y (nsIn K mainGlobals x)]
def aNone (x : Str) : List Ask := [.v (fun K => nsIn K mainGlobals x) (some none)]
def aB (f : Frag → Bool) : List Ask := [.b f]
def aV (f : Frag → Option (Option Value)) (r : Option (Option Value)) : List Ask := [.v f r]
def aO (f : Frag → Option Bool) (r : Option Bool) : List Ask := [.o f r]
def aDef (x : Str) (st : Stmt) : List Ask := [.b fun K => isRef (nsIn K mainGlobals x), .d (fun K => ga K x) x x st []]
def aMeth (C m qual : Str) (st : Stmt) : List Ask := [.b fun K => isRef (findIn K (.ref (ga K C)) m), .b fun K => isFn K (.ref (ma K (ga K C) m)), .d (fun K => ma K (ga K C) m) m qual st []]
def isRec : Option (List Value) → Bool
  | some (.ref _ :: _) => true
  | _ => false
def aProp (C m qual : Str) (st : Stmt) : List Ask := [.b fun K => isRef (findIn K (.ref (ga K C)) m), .v (fun K => specialIn K (.ref (ma K (ga K C) m)) "__get__") (some (some (.builtin "property.__get__"))), .o (fun K => takesIn K (.ref (ma K (ga K C) m))) (some true),
  .b fun K => isRec (recIn K (ma K (ga K C) m) "property"), .d (fun K => gp K (ma K (ga K C) m)) m qual st []]
def aInit (C q : Str) (st : Stmt) : List Ask := [.b fun K => makesIn K (ga K C), .b fun K => isRef (findIn K (.ref (ga K C)) "__init__"), .b fun K => isFn K (.ref (ma K (ga K C) "__init__")), .b fun K => keepIn K (.ref (ga K C)), .d (fun K => ma K (ga K C) "__init__") "__init__" q st []]
def kwA (K : Frag) (C : Str) : Addr := refA (kwOf K (ma K (ga K C) "__init__"))
/-- File's, with its three defaults -/
def aInitF (C : Str) (st : Stmt) : List Ask := aInit C "File.__init__" st ++ [.b fun K => isRefV (kwOf K (ma K (ga K C) "__init__")), .v (fun K => nsIn K (kwA K C) "torn") (some (some (.bool false))), .b fun K => isInt 1 (nsIn K (kwA K C) "piece_price"), .b fun K => isInt 1 (nsIn K (kwA K C) "order_price")]
/-- a def that makes lambdas -/
def cdA (K : Frag) (x : Str) : Addr := refA (cdOf K (ga K x))
def aMaker (x : Str) (st : Stmt) : List Ask := [.b fun K => isRef (nsIn K mainGlobals x), .d (fun K => ga K x) x x st [], .b fun K => isRefV (cdOf K (ga K x))]
/-- a tuple of two texts -/
def tup2 (K : Frag) (T : Addr) (x y : Str) : Bool := match K.lookup T with
  | some ⟨.type c, _, .seq us _, _⟩ => c == "tuple" && (match us.toList with
    | [.str a _, .str b _] => decide (a = x) && decide (b = y)
    | _ => false)
  | _ => false
/-- one with an __init__ that calls super's -/
def oexOk (K : Frag) (C : Addr) : Bool := match K.lookup C with
  | some ⟨.type t, _, .cls cd, sl⟩ => t == "type" && (match cd.mro with
    | v :: bm => v == .ref C && PySem.HandSPX.refsVE bm
    | [] => false) && cd.hasDict && !cd.hasDel && (match sl.toList with
    | [_, _, _, _, some (.builtin b), _] => b == "ValueError.__new__"
    | _ => false)
  | _ => false
def ccOf (K : Frag) (f : Addr) : Addr := match clOf K f with
  | (_, c) :: _ => c
  | [] => 0
def cobjOk (K : Frag) (P : Program) (c : Addr) : Bool := match K.lookup c with
  | some ⟨_, _, .fields vs, _⟩ => (match (vs[2]? : Option Value) with
    | some (.str file _) => (P.main.file : Str) == file
    | _ => false)
  | _ => false
def cellOk (K : Frag) (c C : Addr) : Bool := match K.lookup c with
  | some ⟨_, _, .cell (some (.ref D)), _⟩ => D == C
  | _ => false
def aXi (P : Program) (C q : Str) (st : Stmt) : List Ask := [.b fun K => oexOk K (ga K C), .v (fun K => findIn K (.ref (ga K C)) "__setattr__") (some (some (.builtin "object.__setattr__"))), .o (fun K => subIn K (.ref (ga K C)) (.type "BaseException")) (some true), .b fun K => typeIn K (.ref (ga K C)) == some (.type "type"), .b fun K => keepIn K (.ref (ga K C)),
  .b fun K => isRef (findIn K (.ref (ga K C)) "__init__"), .b fun K => typeIn K (.ref (ma K (ga K C) "__init__")) == some (.type "function"), .d (fun K => ma K (ga K C) "__init__") "__init__" q st ["__class__"], .b fun K => isRefV (cdOf K (ma K (ga K C) "__init__")), .b fun K => cobjOk K P (refA (cdOf K (ma K (ga K C) "__init__"))),
  .b fun K => cellOk K (ccOf K (ma K (ga K C) "__init__")) (ga K C), .b fun _ => !(P.main.scope.names.lookup ("super" : Str)).isSome, .v (fun K => ks_superIn K (ga K C) (ga K C) "__init__") (some (some (.builtin "ValueError.__init__"))), .o (fun K => mroIn K (ga K C) (.ref (ga K C))) (some true),
  .o (fun K => subIn K (.ref (ga K C)) (.type "ValueError")) (some true), .v (fun K => nsIn K cStatics "thirdparty.any") (some none)]
def obsG (ts : List Addr) (n m : Nat) (gs : List (List Ask)) (g : Addr → Option Obj) (tk : Nat) : List (List Ans) × Bool × List (Option Obj) := (gs.map (List.map (Ask.obs (wholeK ts n g))), Nat.ble m tk, ts.map g)
def valG (ts : List Addr) (gs : List (List Ask)) : List (List Ans) × Bool × List (Option Obj) := (gs.map (List.map Ask.val), true, ts.map fun _ => some noObj)
def obT (ts : List Addr) (n m : Nat) (gs : List (List Ask)) (s : SharedT) := obsG ts n m gs (HandSHeadRun.getT s) s.toks
def obS (ts : List Addr) (n m : Nat) (gs : List (List Ask)) (s : Shared) := obsG ts n m gs s.heap.get? s.toks
end
end HF

/-! What is asked of the top of this law. -/
namespace HF
open PySem PySem.Spec PyProof.Rows L2 PD PySem.W SP
def q0 (P : Program) : List (List Ask) := [
  aRef "File",
  aNone "isinstance",
  aNone "int",
  aNone "bool",
  aNone "str",
  aNone "tuple",
  aNone "list",
  aNone "len",
  aNone "all",
  aNone "range",
  aNone "enumerate",
  aNone "sum",
  aNone "super",
  aInt "PIECE_LETTERS" 2,
  aInt "ORDER_BLOCKS" 3,
  aInt "MOST_BLOCKS" 4,
  aInt "MOST_PRICE" 5,
  aStr "NOTHING" "-",
  aRef "LETTER_SETS",
  aB fun K => tup2 K (ga K "LETTER_SETS") "ab" "abc",
  aB fun K => plainGet K (ga K "File") Str.empty,
  aB fun K => hasDictIn K (ga K "File"),
  aB fun K => plainOver K (ga K "File"),
  aV (fun K => findIn K (.ref (ga K "File")) "__setattr__") (some (some (.builtin "object.__setattr__"))),
  aV (fun K => findIn K (.ref (ga K "File")) "__class__") (some (some (.builtin "object.__class__"))),
  aV (fun K => specialIn K (.builtin "object.__class__") "__get__") (some (some (.builtin "getset_descriptor.__get__"))),
  aO (fun K => takesIn K (.builtin "object.__class__")) (some true),
  aO (fun K => mroIn K (ga K "File") (.type "object")) (some true),
  aV (fun K => findIn K (.ref (ga K "File")) "__ne__") (some (some (.builtin "object.__ne__"))),
  aO (fun K => subIn K (.ref (ga K "File")) (.type "object")) (some true),
  aV (fun K => findIn K (.ref (ga K "File")) "_letters") (some none),
  aV (fun K => findIn K (.ref (ga K "File")) "_pieces") (some none),
  aV (fun K => findIn K (.ref (ga K "File")) "_order") (some none),
  aV (fun K => findIn K (.ref (ga K "File")) "_piece_price") (some none),
  aV (fun K => findIn K (.ref (ga K "File")) "_order_price") (some none),
  aV (fun K => findIn K (.ref (ga K "File")) "_torn") (some none),
  aProp "File" "letters" "File.letters" (inClass sFile 1),
  aProp "File" "pieces" "File.pieces" (inClass sFile 2),
  aProp "File" "order" "File.order" (inClass sFile 3),
  aProp "File" "piece_price" "File.piece_price" (inClass sFile 4)]
def q1 (P : Program) : List (List Ask) := [
  aProp "File" "order_price" "File.order_price" (inClass sFile 5),
  aProp "File" "torn" "File.torn" (inClass sFile 6),
  aMeth "File" "__len__" "File.__len__" sFLen,
  aMeth "File" "__eq__" "File.__eq__" sFEq,
  aInitF "File" sFInit,
  aDef "is_number" (sNumber),
  aDef "is_word" (sWord),
  aDef "is_piece" (sPiece),
  aDef "is_block" (sBlock),
  aDef "is_order" (sOrder),
  aDef "is_state_write" (sSWrite),
  aDef "contents" (sContents),
  aDef "all_pieces" (sAllPieces),
  aDef "all_orders" (sAllOrders),
  aDef "every_write" (sEvery),
  aDef "put_content" (sPut),
  aDef "state_after" (sSAfter),
  aDef "is_letters" (sIsLetters),
  aDef "are_pieces" (sArePieces),
  aDef "is_price" (sIsPrice),
  aDef "check_file" (sCheckFile),
  aDef "file_state" (sFileState),
  aDef "passed_states" (sPassed),
  aDef "check_writes" (sCheckWrites),
  aDef "piece_word" (s_piece_word),
  aDef "torn_line" (s_torn_line),
  aDef "letters_line" (s_letters_line),
  aDef "piece_line" (s_piece_line),
  aDef "price_line" (s_price_line),
  aDef "order_line" (s_order_line),
  aDef "write_line" (s_write_line),
  aDef "price_lines" (s_price_lines),
  aDef "terminated" (s_terminated),
  aDef "file_text" (s_file_text),
  aDef "writes_text" (s_writes_text),
  aDef "read_file" (s_read_file),
  aDef "read_writes" (s_read_writes),
  aDef "_law_number" (s__law_number),
  aDef "_law_file" (s__law_file),
  aDef "_law_after" (s__law_after)]
def q2 (P : Program) : List (List Ask) := [
  aDef "_law_writes" (s__law_writes),
  aDef "_law_state" (s__law_state),
  aDef "_law_order" (s__law_order),
  aDef "_law_piece" (s__law_piece),
  aDef "_law_lines" (s__law_lines),
  aDef "_law_write" (s__law_write),
  aDef "_law_row" (s__law_row),
  aDef "_law_files_right" (s__law_files_right),
  aRef "Reader",
  aRef "BadText",
  aB fun K => plainGet K (ga K "Reader") Str.empty,
  aB fun K => hasDictIn K (ga K "Reader"),
  aB fun K => plainOver K (ga K "Reader"),
  aV (fun K => findIn K (.ref (ga K "Reader")) "__setattr__") (some (some (.builtin "object.__setattr__"))),
  aV (fun K => findIn K (.ref (ga K "Reader")) "lines") (some none),
  aV (fun K => findIn K (.ref (ga K "Reader")) "rest") (some none),
  aV (fun K => findIn K (.ref (ga K "Reader")) "row") (some none),
  aMeth "Reader" "look" "Reader.look" s_Reader_look,
  aMeth "Reader" "take" "Reader.take" s_Reader_take,
  aMeth "Reader" "end" "Reader.end" s_Reader_end,
  aInit "Reader" "Reader.__init__" s_Reader_init,
  aXi P "BadText" "BadText.__init__" s_BadText_init,
  aV (fun K => findIn K (.ref (ga K "BadText")) "row") (some none),
  aO (fun K => exmOne K (.ref (ga K "BadText")) (.ref (ga K "BadText"))) (some true),
  aB fun K => L2.xfB K (ga K "BadText"),
  aMaker "_law_writes_right" s__law_writes_right,
  aMaker "_law_all_right" s__law_all_right,
  aMaker "law" s_law,
  aB fun K => PySem.W.codeHdIn K (cdA K "_law_writes_right") 518]
def qs (P : Program) : List (List Ask) := q0 P ++ q1 P ++ q2 P
end HF

/-! The top, by one run. -/
namespace HeadT
open PySem PySem.W PySem.Calls PyProof.Rows
abbrev R : OpenRow := OpenLaw.row PySem.Challenge.rw_safepatch_k35_whole_texts
abbrev qv : Program := view R.prog [65]
def n0 : List PySem.Str := [("_wall" : PySem.Str), ("PatchError" : PySem.Str), ("BadFile" : PySem.Str), ("BadWrites" : PySem.Str), ("BadText" : PySem.Str), ("PIECE_LETTERS" : PySem.Str), ("ORDER_BLOCKS" : PySem.Str), ("is_number" : PySem.Str), ("is_word" : PySem.Str), ("is_piece" : PySem.Str), ("is_block" : PySem.Str), ("is_order" : PySem.Str), ("is_state_write" : PySem.Str), ("contents" : PySem.Str), ("all_pieces" : PySem.Str), ("all_orders" : PySem.Str), ("every_write" : PySem.Str), ("state_text" : PySem.Str), ("put_content" : PySem.Str), ("state_after" : PySem.Str), ("LETTER_SETS" : PySem.Str), ("MOST_BLOCKS" : PySem.Str), ("MOST_PRICE" : PySem.Str), ("File" : PySem.Str), ("is_letters" : PySem.Str), ("are_pieces" : PySem.Str), ("is_price" : PySem.Str), ("check_file" : PySem.Str), ("file_state" : PySem.Str), ("check_writes" : PySem.Str)]
def n1 : List PySem.Str := [("passed_states" : PySem.Str), ("NOTHING" : PySem.Str), ("Reader" : PySem.Str), ("file_text" : PySem.Str), ("read_file" : PySem.Str), ("writes_text" : PySem.Str), ("read_writes" : PySem.Str), ("terminated" : PySem.Str), ("letters_line" : PySem.Str), ("piece_line" : PySem.Str), ("order_line" : PySem.Str), ("price_line" : PySem.Str), ("price_lines" : PySem.Str), ("torn_line" : PySem.Str), ("write_line" : PySem.Str), ("piece_word" : PySem.Str), ("_law_number" : PySem.Str), ("_law_file" : PySem.Str), ("_law_after" : PySem.Str), ("_law_writes" : PySem.Str), ("_law_state" : PySem.Str), ("_law_row" : PySem.Str), ("_law_order" : PySem.Str), ("_law_piece" : PySem.Str), ("_law_lines" : PySem.Str), ("_law_files_right" : PySem.Str), ("_law_write" : PySem.Str), ("_law_writes_right" : PySem.Str), ("_law_all_right" : PySem.Str)]
def names : List PySem.Str := n0 ++ n1
set_option maxHeartbeats 0 in
theorem run (w : World) : PD.RunX R qv (fun _ => HF.valG [518] (HF.qs PySem.Challenge.rw_safepatch_k35_whole_texts.prog)) (HF.obT [518] 536 1 (HF.qs PySem.Challenge.rw_safepatch_k35_whole_texts.prog)) 8000 names w := by
  intro os
  kernel_rfl
end HeadT

/-! Dicts whose keys are whole numbers, texts, None and nested tuples, side by side in one dict. The dict is a list of triples: the key, its value as it stands, the value under it. -/
namespace MX
open PySem
open Sem (wp)
abbrev Ent := NestedKey × Value × Value
/-- the place i bears the key k -/
def isK (xs : List Ent) (k : NestedKey) (i : Nat) : Bool := decide ((xs[i]?).map (·.1) = some k)
def atK : List Ent → NestedKey → Option Value
  | [], _ => none
  | x :: xs, k => if x.1 = k then some x.2.2 else atK xs k
/-- the value in its place, or a new triple at the end -/
def storK : List Ent → NestedKey → Value → Value → List Ent
  | [], k, kv, v => [(k, kv, v)]
  | x :: xs, k, kv, v => if x.1 = k then (x.1, x.2.1, v) :: xs else x :: storK xs k kv v
def ent (w : World) (x : Ent) : DictEntry := ⟨x.1.hash w, x.2.1, x.2.2⟩

/-! what a place tells -/
theorem isK_of {xs : List Ent} {k : NestedKey} {i : Nat} (h : isK xs k i = true) : ∃ p, xs[i]? = some (k, p) := by
  have h' := of_decide_eq_true h
  cases q : xs[i]? with
  | none => rw [q] at h'; cases h'
  | some x =>
    rw [q] at h'
    exact ⟨x.2, by rw [← Option.some.inj h']⟩
theorem isK_at {xs : List Ent} {k : NestedKey} {i : Nat} {p : Value × Value} (h : xs[i]? = some (k, p)) : isK xs k i = true := decide_eq_true (by rw [h]; rfl)
theorem key_mem {xs : List Ent} {k : NestedKey} {i : Nat} {p : Value × Value} (h : xs[i]? = some (k, p)) : k ∈ xs.map (·.1) := List.mem_map.mpr ⟨_, List.mem_of_getElem? h, rfl⟩
theorem one_place : ∀ {xs : List Ent} {k : NestedKey} {i j : Nat} {p q : Value × Value}, (xs.map (·.1)).Nodup → xs[i]? = some (k, p) → xs[j]? = some (k, q) → i = j
  | [], _, _, _, _, _, _, h, _ => by simp at h
  | x :: xs, k, 0, 0, _, _, _, _, _ => rfl
  | x :: xs, k, 0, j + 1, p, q, nd, h, h' => by
    have e : x = (k, p) := by simpa using h
    have m := key_mem (xs := xs) (by simpa using h')
    exact absurd m (by rw [List.map_cons, List.nodup_cons, e] at nd; exact nd.1)
  | x :: xs, k, i + 1, 0, p, q, nd, h, h' => by
    have e : x = (k, q) := by simpa using h'
    have m := key_mem (xs := xs) (by simpa using h)
    exact absurd m (by rw [List.map_cons, List.nodup_cons, e] at nd; exact nd.1)
  | x :: xs, k, i + 1, j + 1, p, q, nd, h, h' => by
    rw [List.map_cons, List.nodup_cons] at nd
    exact congrArg (· + 1) (one_place (xs := xs) nd.2 (by simpa using h) (by simpa using h'))
theorem atK_none : ∀ {xs : List Ent} {k : NestedKey}, k ∉ xs.map (·.1) → atK xs k = none
  | [], _, _ => rfl
  | x :: xs, k, h => by
    rw [List.map_cons, List.mem_cons, not_or] at h
    unfold atK
    rw [if_neg fun e => h.1 e.symm]
    exact atK_none h.2
theorem atK_some : ∀ {xs : List Ent} {k : NestedKey} {i : Nat} {p : Value × Value}, (xs.map (·.1)).Nodup → xs[i]? = some (k, p) → atK xs k = some p.2
  | [], _, _, _, _, h => by simp at h
  | x :: xs, k, 0, p, _, h => by
    have e : x = (k, p) := by simpa using h
    unfold atK
    rw [e, if_pos rfl]
  | x :: xs, k, i + 1, p, nd, h => by
    rw [List.map_cons, List.nodup_cons] at nd
    have h' : xs[i]? = some (k, p) := by simpa using h
    unfold atK
    rw [if_neg (show ¬ x.1 = k from fun e => nd.1 (by rw [e]; exact key_mem h'))]
    exact atK_some nd.2 h'
/-- a store at the place that bears the key, seen through a map -/
theorem storK_modify {β : Type} {f : Ent → β} {g : β → β} {kv v : Value} : ∀ {xs : List Ent} {k : NestedKey} {i : Nat} {p : Value × Value}, (∀ a b, g (f (k, a, b)) = f (k, a, v)) → (xs.map (·.1)).Nodup → xs[i]? = some (k, p) → (storK xs k kv v).map f = (xs.map f).modify i g
  | [], _, _, _, _, _, h => by simp at h
  | x :: xs, k, 0, p, hg, _, h => by
    have e : x = (k, p) := by simpa using h
    rw [e]
    unfold storK
    rw [if_pos rfl, List.map_cons, List.map_cons]
    show _ = g (f (k, p)) :: _
    rw [show (k, p) = (k, p.1, p.2) from rfl, hg]
  | x :: xs, k, i + 1, p, hg, nd, h => by
    rw [List.map_cons, List.nodup_cons] at nd
    have h' : xs[i]? = some (k, p) := by simpa using h
    unfold storK
    rw [if_neg (show ¬ x.1 = k from fun e => nd.1 (by rw [e]; exact key_mem h')), List.map_cons, List.map_cons]
    exact congrArg (f x :: ·) (storK_modify hg nd.2 h')
theorem storK_end : ∀ {xs : List Ent} {k : NestedKey} (kv v : Value), k ∉ xs.map (·.1) → storK xs k kv v = xs ++ [(k, kv, v)]
  | [], _, _, _, _ => rfl
  | x :: xs, k, kv, v, h => by
    rw [List.map_cons, List.mem_cons, not_or] at h
    unfold storK
    rw [if_neg fun e => h.1 e.symm, storK_end kv v h.2]
    rfl
theorem storK_keys : ∀ (xs : List Ent) (k : NestedKey) (kv v : Value), (storK xs k kv v).map (·.1) = if k ∈ xs.map (·.1) then xs.map (·.1) else xs.map (·.1) ++ [k]
  | [], _, _, _ => rfl
  | x :: xs, k, kv, v => by
    unfold storK
    by_cases e : x.1 = k
    · rw [if_pos e, if_pos (by rw [List.map_cons, e]; exact List.mem_cons_self)]
      rfl
    · have m : (k ∈ (x :: xs).map (·.1)) = (k ∈ xs.map (·.1)) := by
        rw [List.map_cons, List.mem_cons]
        exact propext ⟨fun z => z.resolve_left fun q => e q.symm, .inr⟩
      rw [if_neg e, List.map_cons, storK_keys xs k kv v]
      simp only [m]
      split <;> rfl
theorem storK_nodup {xs : List Ent} {k : NestedKey} {kv v : Value} (nd : (xs.map (·.1)).Nodup) : ((storK xs k kv v).map (·.1)).Nodup := by
  rw [storK_keys]
  split
  · exact nd
  · rename_i h
    exact List.nodup_append.mpr ⟨nd, by simp, fun a ha b hb => by rw [List.mem_singleton.mp hb]; exact fun e => h (e ▸ ha)⟩
theorem storK_mem : ∀ {xs : List Ent} {k : NestedKey} {kv v : Value} {x : Ent}, x ∈ storK xs k kv v → (∃ y ∈ xs, x.1 = y.1 ∧ x.2.1 = y.2.1) ∨ (x.1 = k ∧ x.2.1 = kv)
  | [], _, _, _, _, h => .inr (by rw [List.mem_singleton.mp h]; exact ⟨rfl, rfl⟩)
  | y :: xs, k, kv, v, x, h => by
    unfold storK at h
    split at h
    · rcases List.mem_cons.mp h with h | h
      · exact .inl ⟨y, List.mem_cons_self, by rw [h], by rw [h]⟩
      · exact .inl ⟨x, List.mem_cons_of_mem _ h, rfl, rfl⟩
    · rcases List.mem_cons.mp h with h | h
      · exact .inl ⟨y, List.mem_cons_self, by rw [h], by rw [h]⟩
      · rcases storK_mem h with ⟨z, hz, q⟩ | q
        · exact .inl ⟨z, List.mem_cons_of_mem _ hz, q⟩
        · exact .inr q
/-! the dict in the heap -/
def KIs (h : Heap) (k : NestedKey) (v : Value) : Prop := NestedIs h k v ∧ k.depth ≤ 8
theorem KIs.keep {h h' : Heap} {k : NestedKey} {v : Value} {d : Addr} {o : Obj} {es : Array DictEntry} {ep : Nat} (x : KIs h k v) (ho : h.get? d = some o) (hd : o.data = .dict es ep) (hs : Heap.SameBut d h h') : KIs h' k v :=
  ⟨NestedIs.at (fun b ob vs n hb hc => (hs.2 b fun e => by rw [e, ho] at hb; cases hb; rw [hd] at hc; cases hc).trans hb) k v x.1, x.2⟩
/-- at d stands a dict of these triples -/
structure Mx (w : World) (h : Heap) (d : Addr) (xs : List Ent) : Prop where
  ex : ∃ (o : Obj) (es : Array DictEntry) (ep : Nat), h.get? d = some o ∧ o.ExactDict ∧ o.data = .dict es ep ∧ es.toList = xs.map (ent w)
  is : ∀ x ∈ xs, KIs h x.1 x.2.1
  nd : (xs.map (·.1)).Nodup
theorem Mx.typeIs {w : World} {s : Shared} {d : Addr} {xs : List Ent} (hm : Mx w s.heap d xs) : s.TypeIs (.ref d) "dict" := let ⟨o, _, _, ho, hc, _⟩ := hm.ex; ⟨o, ho, hc.1⟩
theorem Mx.new {w : World} (h : Heap) : Mx w (h.push { cls := .type "dict", data := .dict #[] }) h.objs.size [] := ⟨⟨_, #[], 0, Heap.get?_push_size _ rfl, ⟨rfl, rfl, rfl⟩, rfl, rfl⟩, (fun _ z => nomatch z), List.nodup_nil⟩
theorem es_at {w : World} {es : Array DictEntry} {xs : List Ent} (he : es.toList = xs.map (ent w)) (i : Nat) : es[i]? = (xs[i]?).map (ent w) := by rw [← Array.getElem?_toList, he, List.getElem?_map]
theorem es_size {w : World} {es : Array DictEntry} {xs : List Ent} (he : es.toList = xs.map (ent w)) : es.size = xs.length := by rw [← Array.length_toList, he, List.length_map]
theorem isStr_key {h : Heap} {k : NestedKey} {v : Value} {x : Str} (hk : NestedIs h k v) : v.isStr x = decide (k = .text x) := by
  cases hk with
  | text y t =>
    by_cases e : y = x
    · rw [e]; simp [Value.isStr]
    · rw [decide_eq_false fun q => e (NestedKey.text.inj q)]
      simpa [Value.isStr] using e
  | none => simp [Value.isStr]
  | bool _ => simp [Value.isStr]
  | int _ _ => simp [Value.isStr]
  | tup _ _ _ _ => simp [Value.isStr]
section
variable {prog : Program} {w : World} {A : Around} {E : Value → Shared → Prop} {s : Shared}
/-- the keys asked whether they tell: they don't -/
theorem no_tell {a : Value} {k : NestedKey} {vs : List Value} {Q : Bool → Shared → Prop} (ka : KIs s.heap k a) (kv : ∀ v ∈ vs, ∃ k', KIs s.heap k' v) (h : Q false s) : wpAny (model prog w) A (tableMayTell a vs) Q E s := by
  have ask : ∀ {k' : NestedKey} {v : Value} {R : Bool → Shared → Prop}, KIs s.heap k' v → R true s → wpAny (model prog w) A (eqIsQuiet 8 v) R E s := fun {k' v R} x r => quiet_key k' v 8 s x.1 x.2 A E R r
  unfold tableMayTell
  by_cases he : vs.isEmpty = true
  · rw [if_pos he]
    exact wpAny_pure h
  · rw [if_neg he]
    refine wpAny_bind (ask ka ?_)
    rw [if_neg (by decide)]
    refine wpAny_bind (wpAny_forIn_list _ (fun rest r s' => s' = s ∧ r = (none, ()) ∧ ∃ pre, vs = pre ++ rest) _ ?_ ?_ _ _ ⟨rfl, rfl, [], rfl⟩)
    · rintro v rest r s' ⟨rfl, rfl, pre, e⟩
      obtain ⟨k', x⟩ := kv v (by rw [e]; exact List.mem_append_right _ List.mem_cons_self)
      refine wpAny_bind (ask x ?_)
      rw [if_neg (by decide)]
      exact wpAny_pure ⟨rfl, rfl, pre ++ [v], by rw [e, List.append_assoc]; rfl⟩
    · rintro r s' ⟨rfl, rfl, _⟩
      exact wpAny_pure h
/-- two keys compared within a look-up: the dict stays as it is -/
theorem compared {α : Type} {d : Addr} {o : Obj} {es : Array DictEntry} {ep : Nat} {k k' : NestedKey} {u kv : Value} {c : Bool → Sem α} {stop : Bool → Sem α} {Q : α → Shared → Prop} (hu : A.units + 8 < cLine) (ho : s.heap.get? d = some o) (hd : o.data = .dict es ep) (hx : KIs s.heap k' u) (hk : KIs s.heap k kv)
    (h : wpAny (model prog w) A (c (decide (k' = k))) Q E s) :
    wpAny (model prog w) A (dictEpoch d (keyPart kv) >>= fun before => eqBool u kv >>= fun same => dictEpoch d (keyPart kv) >>= fun again => if (again != before) = true then stop same else c same) Q E s := by
  refine wpAny_bind (wpAny_dictEpoch ho hd ?_)
  refine wpAny_bind (eqAt_key k' k A s u kv hx.1 hk.1 (by have := hx.2; omega) _ _ _ _ ?_)
  rw [← NestedKey.decide_eq]
  refine wpAny_bind (wpAny_dictEpoch ho hd ?_)
  rw [if_neg (by simp)]
  exact h
/-- how far a look-up through the places L has come: those gone through, and what was found among them -/
def Gone (xs : List Ent) (k : NestedKey) (L rest : List Nat) (hit : Option Nat) : Prop := ∃ pre, L = pre ++ rest ∧ hit = pre.find? (isK xs k)
theorem Gone.next {xs : List Ent} {k : NestedKey} {L rest : List Nat} {i : Nat} {hit : Option Nat} (g : Gone xs k L (i :: rest) hit) (h : isK xs k i = false) : Gone xs k L rest hit := by
  obtain ⟨pre, e, r⟩ := g
  refine ⟨pre ++ [i], by rw [e, List.append_assoc]; rfl, ?_⟩
  rw [List.find?_append, ← r, List.find?_cons, h, List.find?_nil]
  cases hit <;> rfl
theorem Gone.first {xs : List Ent} {k : NestedKey} {L rest : List Nat} {i : Nat} {hit : Option Nat} (nd : (xs.map (·.1)).Nodup) (nL : L.Nodup) (g : Gone xs k L (i :: rest) hit) (h : isK xs k i = true) : hit = none ∧ Gone xs k L rest (some i) ∧ L.find? (isK xs k) = some i := by
  obtain ⟨pre, e, r⟩ := g
  have n0 : pre.find? (isK xs k) = none := by
    cases q : pre.find? (isK xs k) with
    | none => rfl
    | some j =>
      obtain ⟨p, hp⟩ := isK_of (List.find?_some q)
      obtain ⟨p', hp'⟩ := isK_of h
      have ej := one_place nd hp hp'
      have mj := List.mem_of_find?_eq_some q
      rw [ej] at mj
      rw [e] at nL
      exact absurd rfl ((List.nodup_append.mp nL).2.2 i mj i List.mem_cons_self)
  refine ⟨r.trans n0, ⟨pre ++ [i], by rw [e, List.append_assoc]; rfl, ?_⟩, ?_⟩
  · rw [List.find?_append, n0, List.find?_cons, h]
    rfl
  · rw [e, List.find?_append, n0, List.find?_cons, h]
    rfl
theorem Gone.here {xs : List Ent} {k : NestedKey} {L rest : List Nat} {i : Nat} {hit : Option Nat} (g : Gone xs k L (i :: rest) hit) : i ∈ L := by
  obtain ⟨pre, e, _⟩ := g
  rw [e]
  exact List.mem_append_right _ List.mem_cons_self
theorem Gone.all {xs : List Ent} {k : NestedKey} {L : List Nat} {hit : Option Nat} (g : Gone xs k L [] hit) : hit = L.find? (isK xs k) := by
  obtain ⟨pre, e, r⟩ := g
  rw [e, List.append_nil]
  exact r
/-- the places with a key's hash: all that bear the key are among them -/
def spots (es : Array DictEntry) (h : Int) : List Nat := placesWithHash es.size (fun i => es[i]?.map (·.hash)) h
theorem spots_nd (es : Array DictEntry) (h : Int) : (spots es h).Nodup := List.Nodup.sublist List.filter_sublist List.nodup_range
theorem spot_at {es : Array DictEntry} {xs : List Ent} {h : Int} {i : Nat} (he : es.toList = xs.map (ent w)) (hi : i ∈ spots es h) : ∃ k u v, xs[i]? = some (k, u, v) ∧ es[i]? = some ⟨k.hash w, u, v⟩ ∧ (k.hash w == h) = true := by
  obtain ⟨h1, h2⟩ := List.mem_filter.mp hi
  have hl : i < xs.length := by rw [← es_size he]; exact List.mem_range.mp h1
  have e1 : xs[i]? = some xs[i] := List.getElem?_eq_getElem hl
  have e2 := es_at he i
  rw [e1] at e2
  refine ⟨_, _, _, e1, e2, ?_⟩
  have h3 : ((es[i]?).map (·.hash) == some h) = true := h2
  rw [e2] at h3
  simpa [ent] using h3
theorem spot_of {es : Array DictEntry} {xs : List Ent} {k : NestedKey} {i : Nat} {p : Value × Value} (he : es.toList = xs.map (ent w)) (hx : xs[i]? = some (k, p)) : i ∈ spots es (k.hash w) := by
  have e2 := es_at he i
  rw [hx] at e2
  refine List.mem_filter.mpr ⟨List.mem_range.mpr ?_, ?_⟩
  · rw [es_size he]
    exact (List.getElem?_eq_some_iff.mp hx).1
  · show ((es[i]?).map (·.hash) == some _) = true
    rw [e2]
    simp [ent]
/-- what the look-up finds -/
theorem spots_find {es : Array DictEntry} {xs : List Ent} {k : NestedKey} (he : es.toList = xs.map (ent w)) {Q : Option Nat → Prop} (hnone : k ∉ xs.map (·.1) → Q none) (hsome : ∀ (i : Nat) (p : Value × Value), xs[i]? = some (k, p) → Q (some i)) : Q ((spots es (k.hash w)).find? (isK xs k)) := by
  cases q : (spots es (k.hash w)).find? (isK xs k) with
  | some i =>
    obtain ⟨p, hp⟩ := isK_of (List.find?_some q)
    exact hsome i p hp
  | none =>
    refine hnone fun m => ?_
    obtain ⟨x, hx, e⟩ := List.mem_map.mp m
    obtain ⟨i, hi⟩ := List.mem_iff_getElem?.mp hx
    have hi' : xs[i]? = some (k, x.2) := by rw [hi, ← e]
    have z := List.find?_eq_none.mp q i (spot_of he hi')
    exact z (isK_at hi')
end
section
variable {prog : Program} {w : World} {A : Around} {E : Value → Shared → Prop} {s : Shared} {d : Addr} {o : Obj} {es : Array DictEntry} {ep : Nat} {xs : List Ent} {k : NestedKey} {kv : Value} {Q : Option Nat → Shared → Prop}
/-- keys carried by value all of them -/
theorem walk_plain (hu : A.units + 8 < cLine) (hk : KIs s.heap k kv) (ho : s.heap.get? d = some o) (hd : o.data = .dict es ep) (he : es.toList = xs.map (ent w)) (his : ∀ x ∈ xs, KIs s.heap x.1 x.2.1) (nd : (xs.map (·.1)).Nodup)
    (h : Q ((spots es (k.hash w)).find? (isK xs k)) s) : wpAny (model prog w) A (dictWalkPlain d kv (k.hash w) es (spots es (k.hash w))) Q E s := by
  unfold dictWalkPlain
  refine wpAny_bind (wpAny_forIn_list _ (fun rest b s' => s' = s ∧ b = (none, ()) ∧ Gone xs k (spots es (k.hash w)) rest none) _ ?_ ?_ _ _ ⟨rfl, rfl, [], rfl, rfl⟩)
  · rintro i rest b s' ⟨rfl, rfl, g⟩
    obtain ⟨k', u, v, e1, e2, e3⟩ := spot_at he g.here
    rw [e2]
    show wpAny _ _ (if (k'.hash w == k.hash w) = true then _ else _) _ _ _
    rw [if_pos e3]
    refine compared hu ho hd (his _ (List.mem_of_getElem? e1)) hk ?_
    by_cases q : k' = k
    · rw [decide_eq_true q, if_pos rfl]
      rw [q] at e1
      rw [(g.first nd (spots_nd _ _) (isK_at e1)).2.2] at h
      exact wpAny_bind (wpAny_rule (wpAny_pure (wpAny_pure h)))
    · rw [decide_eq_false q, if_neg (by decide)]
      exact wpAny_bind (wpAny_rule (wpAny_pure ⟨rfl, rfl, g.next (decide_eq_false (by rw [e1]; exact fun z => q (Option.some.inj z)))⟩))
  · rintro b s' ⟨rfl, rfl, g⟩
    rw [← g.all] at h
    exact wpAny_pure h
theorem by_ite {α : Type} {M : Model} {c : Prop} [Decidable c] {t u : Sem α} {R : α → Shared → Prop} (h1 : c → wpAny M A t R E s) (h2 : ¬ c → wpAny M A u R E s) : wpAny M A (if c then t else u) R E s := by
  by_cases q : c
  · rw [if_pos q]; exact h1 q
  · rw [if_neg q]; exact h2 q
/-- a key looked up -/
theorem find (hu : A.units + 8 < cLine) (hk : KIs s.heap k kv) (ho : s.heap.get? d = some o) (hd : o.data = .dict es ep) (he : es.toList = xs.map (ent w)) (his : ∀ x ∈ xs, KIs s.heap x.1 x.2.1) (nd : (xs.map (·.1)).Nodup)
    (hnone : k ∉ xs.map (·.1) → Q none s) (hsome : ∀ (i : Nat) (p : Value × Value), xs[i]? = some (k, p) → Q (some i) s) : wpAny (model prog w) A (dictFind d kv (k.hash w)) Q E s := by
  have h : Q ((spots es (k.hash w)).find? (isK xs k)) s := spots_find (Q := fun r => Q r s) he hnone hsome
  have plain := walk_plain (prog := prog) (E := E) hu hk ho hd he his nd h
  have known : ∀ v ∈ (spots es (k.hash w)).filterMap (fun i => es[i]?.map (·.key)), ∃ k', KIs s.heap k' v := fun v hv => by
    obtain ⟨i, hi, e⟩ := List.mem_filterMap.mp hv
    obtain ⟨k', u, v', e1, e2, _⟩ := spot_at he hi
    rw [e2] at e
    cases e
    exact ⟨k', his _ (List.mem_of_getElem? e1)⟩
  have same : ∀ a, kv = .ref a → ¬ (es.any fun e => e.key == Value.ref a && e.hash != k.hash w) = true := fun a ea z => by
    obtain ⟨e, hin, c⟩ := List.any_eq_true.mp (by rw [← Array.any_toList] at z; exact z)
    rw [he] at hin
    obtain ⟨x, hx, rfl⟩ := List.mem_map.mp hin
    rw [Bool.and_eq_true, beq_iff_eq, bne_iff_ne] at c
    have k1 := (his x hx).1
    rw [show x.2.1 = Value.ref a from c.1, ← ea] at k1
    exact c.2 (by rw [NestedIs.inj _ _ _ hk.1 k1]; rfl)
  have txts : ∀ y t, kv = .str y t → wpAny (model prog w) A (foundByValue d kv es y) Q E s := fun y t ey => by
    obtain rfl : k = .text y := NestedIs.inj _ _ _ hk.1 (by rw [ey]; exact .text y t)
    have at_ : ∀ i (hi : i < es.size), ∃ k' p, xs[i]? = some (k', p) ∧ es[i].key.isStr y = decide (k' = .text y) ∧ es[i] = ent w (k', p) := fun i hi => by
      have hl : i < xs.length := by rw [← es_size he]; exact hi
      have e1 : xs[i]? = some xs[i] := List.getElem?_eq_getElem hl
      have e2 := es_at he i
      rw [e1, Array.getElem?_eq_getElem hi] at e2
      exact ⟨_, _, e1, by rw [Option.some.inj e2]; exact isStr_key (his _ (List.getElem_mem hl)).1, Option.some.inj e2⟩
    unfold foundByValue
    cases hf : es.findIdx? (·.key.isStr y) with
    | none =>
      refine wpAny_pure (hnone fun m => ?_)
      obtain ⟨x, hx, e⟩ := List.mem_map.mp m
      obtain ⟨i, hi⟩ := List.mem_iff_getElem?.mp hx
      have hl : i < es.size := by rw [es_size he]; exact (List.getElem?_eq_some_iff.mp hi).1
      obtain ⟨k', p, a, b, _⟩ := at_ i hl
      rw [hi] at a
      have z := Array.findIdx?_eq_none_iff.mp hf es[i] (Array.getElem_mem hl)
      rw [b] at z
      exact absurd (show k' = .text y by rw [← e, Option.some.inj a]) (of_decide_eq_false z)
    | some i =>
      obtain ⟨hl, z, _⟩ := Array.findIdx?_eq_some_iff_getElem.mp hf
      obtain ⟨k', p, a, b, c⟩ := at_ i hl
      rw [b] at z
      obtain rfl : k' = .text y := of_decide_eq_true z
      have e1 : es[i]? = some (ent w (.text y, p)) := by rw [Array.getElem?_eq_getElem hl, c]
      dsimp only
      rw [e1]
      refine compared (k' := .text y) hu ho hd (his _ (List.mem_of_getElem? a)) hk ?_
      rw [decide_eq_true rfl, if_pos rfl]
      exact wpAny_bind (wpAny_rule (wpAny_pure (hsome i _ a)))
  unfold dictFind
  try with_reducible refine wpAny_holding ?_
  refine wpAny_bind (wpAny_dictEntries ho hd ?_)
  show wpAny _ _ _ _ _ _
  have fold : placesWithHash es.size (fun i => es[i]?.map (·.hash)) (k.hash w) = spots es (k.hash w) := rfl
  cases kv <;> first | (exfalso; cases hk.1; done) | skip
  all_goals (dsimp only; simp only [fold])
  case' str y t => refine by_ite (fun _ => txts y t rfl) fun _ => ?_
  all_goals (refine by_ite (fun _ => plain) fun _ => ?_)
  case' ref => rw [if_neg (same _ rfl)]
  all_goals
    refine by_ite (fun _ => wpAny_bind (wpAny_pure ?_)) fun _ => wpAny_bind (no_tell hk known ?_)
  all_goals
    rw [if_neg (by simp)]
    refine wpAny_bind (wpAny_forIn_list _ (fun rest b s' => s' = s ∧ b.1 = none ∧ Gone xs k (spots es (k.hash w)) rest b.2) _ ?_ ?_ _ _ ⟨rfl, rfl, [], rfl, rfl⟩)
    · rintro i rest ⟨b1, hit⟩ s' ⟨rfl, rfl, g⟩
      obtain ⟨k', u, v, e1, e2, e3⟩ := spot_at he g.here
      dsimp only
      rw [e2]
      dsimp only
      rw [if_pos e3]
      refine compared hu ho hd (his _ (List.mem_of_getElem? e1)) hk ?_
      by_cases q : k' = k
      · rw [q] at e1
        obtain ⟨z1, z2, z3⟩ := g.first nd (spots_nd _ _) (isK_at e1)
        rw [z3] at h
        rw [decide_eq_true q, if_pos rfl]
        obtain rfl : hit = none := z1
        rw [if_neg (by decide)]
        exact wpAny_bind (wpAny_rule (by_ite (fun _ => wpAny_pure (wpAny_pure h)) fun _ => wpAny_pure ⟨rfl, rfl, z2⟩))
      · rw [decide_eq_false q, if_neg (by decide)]
        refine wpAny_bind (wpAny_rule ?_)
        rw [if_neg (by simp)]
        exact wpAny_pure ⟨rfl, rfl, g.next (decide_eq_false (by rw [e1]; exact fun z => q (Option.some.inj z)))⟩
    · rintro ⟨b1, hit⟩ s' ⟨rfl, rfl, g⟩
      obtain rfl : hit = _ := g.all
      exact wpAny_pure h
end
end MX

/-! What is done with such dicts, by the values of the dict, the key and the thing stored. -/
namespace MX
open PySem
open Sem (wp)
section
variable {prog : Program} {w : World} {A : Around} {E : Value → Shared → Prop} {s : Shared} {d : Addr} {kv : Value} {k : NestedKey} {xs : List Ent}
/-- behind hash(k) -/
abbrev drew (s : Shared) (k : NestedKey) : Shared := { s with toks := s.toks + k.draws }
/-- a key hashed -/
theorem hashed {α : Type} {c : Int → Sem α} {Q : α → Shared → Prop} (hu : A.units + 8 < cLine) (hk : KIs s.heap k kv) (h : wpAny (model prog w) A (c (k.hash w)) Q E (drew s k)) : wpAny (model prog w) A (pyHash kv >>= c) Q E s :=
  wpAny_bind (pyHash_key k kv A s _ hk.1 (by have := hk.2; omega) h)
/-- .. and looked up: nothing there, or its place -/
theorem found {α : Type} {c : Option Nat → Sem α} {Q : α → Shared → Prop} (hu : A.units + 8 < cLine) (hk : KIs s.heap k kv) (hm : Mx w s.heap d xs)
    (h : ∀ (o : Obj) (es : Array DictEntry) (ep : Nat), s.heap.get? d = some o → o.ExactDict → o.data = .dict es ep → es.toList = xs.map (ent w) →
      (k ∉ xs.map (·.1) → wpAny (model prog w) A (c none) Q E (drew s k)) ∧ ∀ (i : Nat) (p : Value × Value), xs[i]? = some (k, p) → wpAny (model prog w) A (c (some i)) Q E (drew s k)) :
    wpAny (model prog w) A (dictFind d kv (k.hash w) >>= c) Q E (drew s k) := by
  obtain ⟨o, es, ep, h1, h2, h3, h4⟩ := hm.ex
  obtain ⟨n, y⟩ := h o es ep h1 h2 h3 h4
  exact wpAny_bind (find (s := drew s k) hu hk h1 h3 h4 hm.is hm.nd n y)
/-- the value at a place -/
theorem placed {α : Type} {c : Array DictEntry → Sem α} {Q : α → Shared → Prop} {o : Obj} {es : Array DictEntry} {ep : Nat} (h1 : s.heap.get? d = some o) (h3 : o.data = .dict es ep) (h : wpAny (model prog w) A (c es) Q E (drew s k)) :
    wpAny (model prog w) A (dictEntries d (keyPart kv) >>= c) Q E (drew s k) := wpAny_bind (wpAny_dictEntries (s := drew s k) h1 h3 h)
theorem get_ {Q : Option Value → Shared → Prop} (hu : A.units + 8 < cLine) (hk : KIs s.heap k kv) (hm : Mx w s.heap d xs) (h : Q (atK xs k) (drew s k)) : wpAny (model prog w) A (dictGet d kv) Q E s := by
  unfold dictGet
  try with_reducible refine wpAny_holding ?_
  refine hashed hu hk (found hu hk hm fun o es ep h1 h2 h3 h4 => ⟨fun n => wpAny_pure (by rw [atK_none n] at h; exact h), fun i p hp => placed h1 h3 (wpAny_pure ?_)⟩)
  rw [es_at h4, hp, Option.map_some, Option.map_some]
  rw [atK_some hm.nd hp] at h
  exact h
/-- the dict behind a store of something new, of something that was there -/
theorem stored_new {o : Obj} {es : Array DictEntry} {ep : Nat} (v : Value) (hk : KIs s.heap k kv) (hm : Mx w s.heap d xs) (h1 : s.heap.get? d = some o) (h2 : o.ExactDict) (h3 : o.data = .dict es ep) (h4 : es.toList = xs.map (ent w)) (n : k ∉ xs.map (·.1)) :
    Mx w (s.heap.update d (Obj.mapDictKeys (·.push ⟨k.hash w, kv, v⟩))) d (storK xs k kv v) where
  ex := ⟨_, _, ep + 1, Heap.get?_update_self _ h1 (Obj.isFreed_of_dict (Obj.data_mapDictKeys h3 _)), h2.mapDictKeys _, Obj.data_mapDictKeys h3 _, by rw [storK_end kv v n, List.map_append, ← h4, Array.toList_push]; rfl⟩
  is := fun x hx => by
    rcases storK_mem hx with ⟨y, hy, e1, e2⟩ | ⟨e1, e2⟩
    · rw [e1, e2]
      exact (hm.is y hy).keep h1 h3 (Heap.SameBut.update ..)
    · rw [e1, e2]
      exact hk.keep h1 h3 (Heap.SameBut.update ..)
  nd := storK_nodup hm.nd
theorem stored_old {o : Obj} {es : Array DictEntry} {ep : Nat} {i : Nat} {p : Value × Value} (v : Value) (hk : KIs s.heap k kv) (hm : Mx w s.heap d xs) (h1 : s.heap.get? d = some o) (h2 : o.ExactDict) (h3 : o.data = .dict es ep) (h4 : es.toList = xs.map (ent w)) (hp : xs[i]? = some (k, p)) :
    Mx w (s.heap.update d (Obj.mapDict (·.modify i fun e => { e with val := v }))) d (storK xs k kv v) where
  ex := ⟨_, _, ep, Heap.get?_update_self _ h1 (Obj.isFreed_of_dict (Obj.data_mapDict h3 _)), h2.mapDict _, Obj.data_mapDict h3 _, by
    rw [storK_modify (f := ent w) (g := fun e : DictEntry => { e with val := v }) (fun _ _ => rfl) hm.nd hp, ← h4]
    cases es
    simp⟩
  is := fun x hx => by
    rcases storK_mem hx with ⟨y, hy, e1, e2⟩ | ⟨e1, e2⟩
    · rw [e1, e2]
      exact (hm.is y hy).keep h1 h3 (Heap.SameBut.update ..)
    · rw [e1, e2]
      exact hk.keep h1 h3 (Heap.SameBut.update ..)
  nd := storK_nodup hm.nd
theorem few {es : Array DictEntry} (h4 : es.toList = xs.map (ent w)) (hz : xs.length ≤ sizeLine) : es.size ≤ sizeLine := by rw [es_size h4]; exact hz
theorem set_ {v : Value} {Q : Unit → Shared → Prop} (hu : A.units + 8 < cLine) (hk : KIs s.heap k kv) (hm : Mx w s.heap d xs) (hz : xs.length ≤ sizeLine)
    (h : ∀ h', Mx w h' d (storK xs k kv v) → Heap.SameBut d s.heap h' → Q () { drew s k with heap := h' }) : wpAny (model prog w) A (dictSet d kv v) Q E s := by
  unfold dictSet
  try with_reducible refine wpAny_holding ?_
  refine hashed hu hk ?_
  unfold dictSetHashed
  try with_reducible refine wpAny_holding ?_
  refine found hu hk hm fun o es ep h1 h2 h3 h4 => ⟨fun n => ?_, fun i p hp => ?_⟩
  · exact wpAny_bind (wpAny_rule (wpAny_updateDictKeys (s := drew s k) (hz := few h4 hz) h1 h3 (h _ (stored_new v hk hm h1 h2 h3 h4 n) (Heap.SameBut.update ..))))
  · exact wpAny_bind (wpAny_rule (wpAny_bind (wpAny_updateDict (s := drew s k) h1 h3 (wpAny_point (h _ (stored_old v hk hm h1 h2 h3 h4 hp) (Heap.SameBut.update ..))))))
/-! as the program asks it -/
variable (hd : (d == sysModules) = false)
include hd
theorem get1_ {Q : Value → Shared → Prop} (hu : A.units + 16 < cLine) (hk : KIs s.heap k kv) (hm : Mx w s.heap d xs) (h : Q ((atK xs k).getD .none) (drew s k)) : wpAny (model prog w) A (call (.builtin "dict.get") [.ref d, kv]) Q E s :=
  call_meetsIn (S := fun B R s' => B = A ∧ s' = s ∧ R (.ok (.ret ((atK xs k).getD .none))) (drew s k)) F.slot_dict_get hm.typeIs F.entry_dict_get (F.args_dict_get_2 _ _) (.of_wp fun B R s' ⟨eB, es, hq⟩ => by
    subst eB es
    unfold Builtin.«dict.get»
    refine wpAny_bind (wpAny_pure (wpAny_bind (get_ (by simp only [Around.in1_units]; omega) hk hm ?_)))
    cases e : atK xs k with
    | some v =>
      rw [e] at hq
      exact wpAny_pure ⟨_, rfl, hq⟩
    | none =>
      rw [e] at hq
      exact wpAny_bind (wpAny_missed_other hd (wpAny_pure ⟨_, rfl, hq⟩))) ⟨rfl, rfl, h⟩
end
end MX

/-! Dicts of the data layer over the mixed dicts. -/
namespace PD
open PySem PySem.Spec PyProof.Rows L2 MX

/-! ### lists of keys and values -/
def dlook : List DV → List DV → DV → Option DV
  | k :: ks, v :: vs, d => if k.nk = d.nk then some v else dlook ks vs d
  | _, _, _ => none
def dput : List DV → List DV → DV → DV → List DV × List DV
  | k :: ks, v :: vs, d, x => if k.nk = d.nk then (k :: ks, x :: vs) else (k :: (dput ks vs d x).1, v :: (dput ks vs d x).2)
  | _, _, d, x => ([d], [x])
section
variable {X : Cx} {pins : List (Addr × Obj)} {σ : L2.St} {S H : Hp} {s : Shared} {p : Addr} {W : World} {es : List DictEntry} {ks vs : List DV}
mutual
theorem rp_nest (I : Inv X pins σ H s) (e : Ex S H) : ∀ {d : DV} {v : V} {u : Value}, d.isKey = true → Rp X.K S v d → RelV v u → NestedIs s.heap d.nk u
  | _, _, _, _, .non, r => by cases r; exact .none
  | _, _, _, _, .bl b, r => by cases r; exact .bool rfl
  | _, _, _, _, .int i, r => by obtain ⟨t, rfl⟩ := r; exact .int _ _
  | _, _, _, _, .str x, r => by obtain ⟨t, rfl⟩ := r; exact .text _ _
  | _, _, _, k, .tup h ra, r => by
    cases r
    obtain ⟨its, rv, ⟨o, ho, hc, n, hd⟩, _⟩ := I.tuple (ex_t e h)
    exact .tup ho hc hd (by simpa using rpa_nest I e k ra rv)
  | _, _, _, k, .lst _ _, _ => by cases k
  | _, _, _, k, .obj _ _, _ => by cases k
  | _, _, _, k, .frz _ _, _ => by cases k
  | _, _, _, k, .tks _ _, _ => by cases k
  | _, _, _, k, .adr _, _ => by cases k
  | _, _, _, k, .dct _ _ _, _ => by cases k
theorem rpa_nest (I : Inv X pins σ H s) (e : Ex S H) : ∀ {ds : List DV} {xs : List V} {us : List Value}, keyAll ds = true → RpA X.K S xs ds → Vals xs us → NestedAll s.heap (nkAll ds) us
  | _, _, _, _, .nil, .nil => .nil
  | _, _, _, k, .cons h r, .cons a b => by
    have k' : (_ && _) = true := k
    rw [Bool.and_eq_true] at k'
    exact .cons (rp_nest I e k'.1 h a) (rpa_nest I e k'.2 r b)
end
theorem rp_key {d : DV} {v : V} {u : Value} (I : Inv X pins σ H s) (e : Ex S H) (k : d.isKeyD = true) (r : Rp X.K S v d) (rv : RelV v u) : KIs s.heap d.nk u := by
  have k' : (_ && _) = true := k
  rw [Bool.and_eq_true, decide_eq_true_eq] at k'
  exact ⟨rp_nest I e k'.1 r rv, k'.2⟩
/-- the entries as the mixed dicts tell them -/
def entsOf : List DV → List DictEntry → List Ent
  | k :: ks, e :: es => (k.nk, e.key, e.val) :: entsOf ks es
  | _, _ => []
theorem RpD.ents {K : PySem.W.Frag} : ∀ {W : World} {es : List DictEntry} {ks vs : List DV}, RpD K S W es ks vs → es = (entsOf ks es).map (ent W)
  | _, _, _, _, .nil => rfl
  | _, _, _, _, .cons (e := e) a b c d f g r => by
    show _ :: _ = _ :: _
    rw [← RpD.ents r]
    congr 1
    cases e
    show DictEntry.mk _ _ _ = DictEntry.mk _ _ _
    congr 1
theorem RpD.keys {K : PySem.W.Frag} : ∀ {W : World} {es : List DictEntry} {ks vs : List DV}, RpD K S W es ks vs → (entsOf ks es).map (·.1) = nkAll ks
  | _, _, _, _, .nil => rfl
  | _, _, _, _, .cons a b c d f g r => by
    show _ :: _ = _ :: _
    rw [RpD.keys r]
theorem RpD.kis (I : Inv X pins σ H s) (e : Ex S H) : ∀ {W : World} {es : List DictEntry} {ks vs : List DV}, RpD X.K S W es ks vs → ∀ x ∈ entsOf ks es, KIs s.heap x.1 x.2.1
  | _, _, _, _, .nil => fun x hx => by cases hx
  | _, _, _, _, .cons a b c d f g r => fun x hx => by
    rcases List.mem_cons.mp hx with h | h
    · rw [h]
      exact rp_key I e c d a
    · exact RpD.kis I e r x h
theorem RpD.len {K : PySem.W.Frag} : ∀ {W : World} {es : List DictEntry} {ks vs : List DV}, RpD K S W es ks vs → es.length = ks.length ∧ vs.length = ks.length
  | _, _, _, _, .nil => ⟨rfl, rfl⟩
  | _, _, _, _, .cons a b c d f g r => ⟨congrArg (· + 1) r.len.1, congrArg (· + 1) r.len.2⟩
theorem dx_ok {h : Heap} {P : Program} {w : World} (x : ObjOk P w H h p (DxO p es)) : es.length ≤ sizeLine ∧ (p == sysModules) = false ∧ ∃ o a ep, h.get? p = some o ∧ o.ExactDict ∧ o.data = .dict a ep ∧ a.toList = es := x.1
/-- the dict at p -/
theorem mx_of (I : Inv X pins σ H s) (e : Ex S H) (hp : Rd H p (DxO p es)) (r : RpD X.K S W es ks vs) (nd : (nkAll ks).Nodup) : es.length ≤ sizeLine ∧ (p == sysModules) = false ∧ Mx W s.heap p (entsOf ks es) := by
  obtain ⟨a, b, o, ar, ep, h1, h2, h3, h4⟩ := dx_ok (hp.ok I.hok)
  exact ⟨a, b, ⟨o, ar, ep, h1, h2, h3, by rw [h4]; exact r.ents⟩, r.kis I e, by rw [r.keys]; exact nd⟩
theorem RpD.look {K : PySem.W.Frag} : ∀ {W : World} {es : List DictEntry} {ks vs : List DV} (d : DV), RpD K S W es ks vs → (atK (entsOf ks es) d.nk = none ∧ dlook ks vs d = none) ∨ ∃ u v x, atK (entsOf ks es) d.nk = some u ∧ dlook ks vs d = some x ∧ RelV v u ∧ Rp K S v x
  | _, _, _, _, d, .nil => .inl ⟨rfl, rfl⟩
  | _, _, _, _, d, .cons (kd := kd) (ks := ks) (vs := vs) (es := es) (e := e) (vd := vd) a b c h f g r => by
    by_cases q : kd.nk = d.nk
    · refine .inr ⟨_, _, _, ?_, ?_, f, g⟩
      · show (if kd.nk = d.nk then some e.val else _) = _
        rw [if_pos q]
      · show (if kd.nk = d.nk then _ else _) = _
        rw [if_pos q]
    · have e1 : atK (entsOf (kd :: ks) (e :: es)) d.nk = atK (entsOf ks es) d.nk := by
        show (if kd.nk = d.nk then some e.val else _) = _
        rw [if_neg q]
      have e2 : dlook (kd :: ks) (vd :: vs) d = dlook ks vs d := by
        show (if kd.nk = d.nk then _ else _) = _
        rw [if_neg q]
      rw [e1, e2]
      exact RpD.look d r
/-- behind a store -/
theorem RpD.put {K : PySem.W.Frag} {d x : DV} {kv vv : V} {ku vu : Value} (hk : d.isKeyD = true) (rk : Rp K S kv d) (rk' : RelV kv ku) (rv : Rp K S vv x) (rv' : RelV vv vu) : ∀ {W : World} {es : List DictEntry} {ks vs : List DV}, RpD K S W es ks vs →
    RpD K S W ((storK (entsOf ks es) d.nk ku vu).map (ent W)) (dput ks vs d x).1 (dput ks vs d x).2
  | W, _, _, _, .nil => .cons rk' rfl hk rk rv' rv .nil
  | _, _, _, _, .cons (W := W) (kd := kd) (ks := ks) (vs := vs) (es := es) (e := e) (vd := vd) a b c h f g r => by
    have ih := RpD.put hk rk rk' rv rv' r
    show RpD K S W (List.map _ (if kd.nk = d.nk then (kd.nk, e.key, vu) :: entsOf ks es else (kd.nk, e.key, e.val) :: storK (entsOf ks es) d.nk ku vu)) (if kd.nk = d.nk then (kd :: ks, x :: vs) else (kd :: (dput ks vs d x).1, vd :: (dput ks vs d x).2)).1 (if kd.nk = d.nk then (kd :: ks, x :: vs) else (kd :: (dput ks vs d x).1, vd :: (dput ks vs d x).2)).2
    by_cases q : kd.nk = d.nk
    · rw [if_pos q, if_pos q, List.map_cons, ← r.ents]
      exact .cons a rfl c h rv' rv r
    · rw [if_neg q, if_neg q, List.map_cons]
      exact .cons a rfl c h f g ih
theorem storK_len (xs : List Ent) (k : NestedKey) (a b : Value) : (storK xs k a b).length ≤ xs.length + 1 := by
  have e : ∀ l : List Ent, l.length = (l.map (·.1)).length := fun l => (List.length_map _).symm
  rw [e, e xs, storK_keys]
  split
  · exact Nat.le_succ _
  · rw [List.length_append]; exact Nat.le_refl _
end
theorem dput_nk : ∀ (ks vs : List DV) (d x : DV), ks.length = vs.length → nkAll (dput ks vs d x).1 = if d.nk ∈ nkAll ks then nkAll ks else nkAll ks ++ [d.nk]
  | [], [], d, x, _ => rfl
  | [], _ :: _, _, _, h => by cases h
  | _ :: _, [], _, _, h => by cases h
  | k :: ks, v :: vs, d, x, h => by
    have ih := dput_nk ks vs d x (Nat.succ.inj h)
    show nkAll (if k.nk = d.nk then (k :: ks, x :: vs) else (k :: (dput ks vs d x).1, v :: (dput ks vs d x).2)).1 = _
    by_cases q : k.nk = d.nk
    · rw [if_pos q, if_pos (show d.nk ∈ nkAll (k :: ks) from by show d.nk ∈ k.nk :: nkAll ks; rw [q]; exact List.mem_cons_self)]
    · rw [if_neg q]
      show k.nk :: nkAll (dput ks vs d x).1 = _
      rw [ih]
      have e : (d.nk ∈ nkAll (k :: ks)) = (d.nk ∈ nkAll ks) := by
        show (d.nk ∈ k.nk :: nkAll ks) = _
        rw [List.mem_cons]
        exact propext ⟨fun z => z.resolve_left (fun w => q w.symm), .inr⟩
      simp only [e]
      split
      · rfl
      · rfl
theorem dput_nodup {ks vs : List DV} {d x : DV} (h : ks.length = vs.length) (nd : (nkAll ks).Nodup) : (nkAll (dput ks vs d x).1).Nodup := by
  rw [dput_nk ks vs d x h]
  split
  · exact nd
  · rename_i q
    rw [List.nodup_append]
    exact ⟨nd, by simp, fun a ha b hb => by
      rw [List.mem_singleton] at hb
      subst hb
      exact fun z => q (z ▸ ha)⟩
theorem dput_len : ∀ (ks vs : List DV) (d x : DV), ks.length = vs.length → (dput ks vs d x).1.length = (dput ks vs d x).2.length ∧ (dput ks vs d x).1.length ≤ ks.length + 1
  | [], [], d, x, _ => ⟨rfl, Nat.le_refl _⟩
  | [], _ :: _, _, _, h => by cases h
  | _ :: _, [], _, _, h => by cases h
  | k :: ks, v :: vs, d, x, h => by
    have ih := dput_len ks vs d x (Nat.succ.inj h)
    show (if k.nk = d.nk then (k :: ks, x :: vs) else (k :: (dput ks vs d x).1, v :: (dput ks vs d x).2)).1.length = (if k.nk = d.nk then (k :: ks, x :: vs) else (k :: (dput ks vs d x).1, v :: (dput ks vs d x).2)).2.length ∧ _
    by_cases q : k.nk = d.nk
    · rw [if_pos q]
      refine ⟨h, ?_⟩
      show (if k.nk = d.nk then (k :: ks, x :: vs) else (k :: (dput ks vs d x).1, v :: (dput ks vs d x).2)).1.length ≤ _
      rw [if_pos q]
      exact Nat.le_succ _
    · rw [if_neg q]
      refine ⟨congrArg (· + 1) ih.1, ?_⟩
      show (if k.nk = d.nk then (k :: ks, x :: vs) else (k :: (dput ks vs d x).1, v :: (dput ks vs d x).2)).1.length ≤ _
      rw [if_neg q]
      exact Nat.succ_le_succ ih.2
end PD

/-! Dicts of the data layer: what is done with them. -/
namespace PD
open PySem PySem.Spec PyProof.Rows L2 MX

/-- at p a dict is to be read -/
def DAt (K : PySem.W.Frag) (W : World) (S H : Hp) (p : Addr) (ks vs : List DV) : Prop := ∃ es, Rd H p (DxO p es) ∧ RpD K S W es ks vs ∧ (nkAll ks).Nodup
/-- at p stands a dict of one's own -/
def DOw (K : PySem.W.Frag) (W : World) (S H : Hp) (p : Addr) (ks vs : List DV) : Prop := ∃ es, H p = some (DxO p es) ∧ RpD K S W es ks vs ∧ (nkAll ks).Nodup
theorem DAt.up {K : PySem.W.Frag} {W : World} {S S' H H' : Hp} {p : Addr} {ks vs : List DV} (d : DAt K W S H p ks vs) (e : Ex S S') (h : ∀ o, H p = some o → H' p = some o) : DAt K W S' H' p ks vs := by
  obtain ⟨es, a, b, c⟩ := d
  refine ⟨es, ?_, b.up e, c⟩
  rcases a with a | ⟨o, a⟩
  · exact .inl (h _ a)
  · exact .inr ⟨o, h _ a⟩
theorem dct_at {K : PySem.W.Frag} {W : World} {S H : Hp} {v : V} {ks vs : List DV} (e : Ex S H) (r : Rp K S v (.dct W ks vs)) : ∃ p, v = .ref p ∧ DAt K W S H p ks vs := by
  cases r with
  | dct h r n => exact ⟨_, rfl, _, .inr ⟨_, e _ _ h⟩, r, n⟩
section
variable {X : Cx} {pins : List (Addr × Obj)} {σ : L2.St} {S H : Hp} {s : Shared} {p : Addr} {ks vs : List DV} {A : Around} {E : Value → Shared → Prop} {d : DV} {v : V} {u : Value}
theorem x_at (I : Inv X pins σ H s) (e : Ex S H) (g : DAt X.K X.w S H p ks vs) : ∃ es, es.length ≤ sizeLine ∧ (p == sysModules) = false ∧ Mx X.w s.heap p (entsOf ks es) ∧ RpD X.K S X.w es ks vs := by
  obtain ⟨es, a, b, c⟩ := g
  obtain ⟨h1, h2, h3⟩ := mx_of I e a b c
  exact ⟨es, h1, h2, h3, b⟩
theorem x_get1 {Q : Value → Shared → Prop} (hu : A.units + 16 < cLine) (I : Inv X pins σ H s) (e : Ex S H) (g : DAt X.K X.w S H p ks vs) (hk : d.isKeyD = true) (rk : Rp X.K S v d) (ru : RelV v u)
    (h : ∀ w' z s', Inv X pins σ H s' → Rp X.K S z ((dlook ks vs d).getD .non) → RelV z w' → Q w' s') : wpAny (model X.prog X.w) A (call (.builtin "dict.get") [.ref p, u]) Q E s := by
  obtain ⟨es, h1, h2, h3, r⟩ := x_at I e g
  refine get1_ h2 hu (rp_key I e hk rk ru) h3 ?_
  rcases r.look d with ⟨a, z⟩ | ⟨w', z, x', a, b, c, f⟩
  · rw [a]
    exact h _ .non _ (I.tok _) (by rw [z]; exact .non) rfl
  · rw [a]
    exact h _ z _ (I.tok _) (by rw [b]; exact f) c
theorem dx_new {P : Program} {w : World} {H' : Hp} {h' : Heap} {es : List DictEntry} {xs : List Ent} (z : es.length ≤ sizeLine) (hd : (p == sysModules) = false) (hm : Mx w h' p xs) (e : xs.map (ent w) = es) : ObjOk P w H' h' p (DxO p es) := by
  obtain ⟨⟨o, ar, ep, h1, h2, h3, h4⟩, h5, h6⟩ := hm
  refine ⟨⟨z, hd, o, ar, ep, h1, h2, h3, h4.trans e⟩, ⟨o, h1⟩, fun g1 g2 φ st => ?_⟩
  obtain ⟨z, hd, o, a, ep, k1, k2, k3, k4⟩ := φ
  exact ⟨z, hd, o, a, ep, st _ k1, k2, k3, k4⟩
/-- a store, of keys and values that stand -/
theorem x_write {h' : Heap} {t' : Nat} {es es' : List DictEntry} {xs : List Ent} (I : Inv X pins σ H s) (hp : H p = some (DxO p es)) (hs : Heap.SameBut p s.heap h') (z : es'.length ≤ sizeLine) (hd : (p == sysModules) = false) (hm : Mx X.w h' p xs) (e : xs.map (ent X.w) = es') :
    Inv X pins σ (upd H p (DxO p es')) { s with heap := h', toks := t' } :=
  I.write (x := p) (e := p) (by rw [hp]; exact True.intro) (.inl rfl) (fun b q hb z => (hs.2 b hb).trans z) (let ⟨q, _, _, hq, _⟩ := hm.ex; ⟨q, hq⟩) (dx_new z hd hm e)
theorem ents_few {K : PySem.W.Frag} {W : World} {es : List DictEntry} (b : RpD K S W es ks vs) {n : Nat} (hz : ks.length < n) : (entsOf ks es).length < n := by
  rw [← List.length_map (f := ent W), ← b.ents, b.len.1]
  exact hz
theorem x_dictSet {x : DV} {vv : V} {uv : Value} {Q : Unit → Shared → Prop} (hu : A.units + 16 < cLine) (I : Inv X pins σ H s) (e : Ex S H) (g : DOw X.K X.w S H p ks vs) (hz : ks.length < 100000) (hk : d.isKeyD = true) (rk : Rp X.K S v d) (ru : RelV v u) (rx : Rp X.K S vv x) (rv : RelV vv uv)
    (h : ∀ es' s', Inv X pins σ (upd H p (DxO p es')) s' → RpD X.K S X.w es' (dput ks vs d x).1 (dput ks vs d x).2 → Q () s') : wpAny (model X.prog X.w) A (dictSet p u uv) Q E s := by
  obtain ⟨es, a, b, c⟩ := g
  obtain ⟨h1, h2, h3⟩ := mx_of I e (.inl a) b c
  have hl := ents_few b hz
  exact set_ (by omega) (rp_key I e hk rk ru) h3 (by rw [sizeLine_eq]; omega) fun h' hm' hs => h _ _ (x_write (I.tok _) a hs (by rw [List.length_map, sizeLine_eq]; have := storK_len (entsOf ks es) d.nk u uv; omega) h2 hm' rfl) (RpD.put hk rk ru rx rv b)
end
end PD

/-! Dicts of the data layer: comprehensions. -/
namespace PD
open PySem PySem.Spec PyProof.Rows L2 MX
section
variable {X : Cx}
/-- a turn's store into the new dict at D, wherever it then goes on -/
def putsX (K : PySem.W.Frag) (w : World) (D : Addr) (y z : V) (H : Hp) (go : Hp → Prop) : Prop := ∃ S ks vs d x, Ex S H ∧ DOw K w S H D ks vs ∧ ks.length < 100000 ∧ d.isKeyD = true ∧ Rp K S y d ∧ Rp K S z x ∧ ∀ es', RpD K S w es' (dput ks vs d x).1 (dput ks vs d x).2 → go (upd H D (DxO D es'))
/-- the end: the dict is locked for good -/
def endsX (D : Addr) (H : Hp) (Q : VK) : Prop := ∃ es, H D = some (DxO D es) ∧ ∀ od, Q (.ref D) (upd H D (.frz od (DxO D es)))
/-- {k: v for target in iter if ..} -/
def tDcX (K : PySem.W.Frag) (w : World) (wi : TI) (g : TG) (tt : TT) (tk tv : TE) (vs : List Nat) : TE := fun σ H Q => wi σ H fun J H1 => ∀ D, H1 D = none → ∃ P : Nat → Nat → Hp → Prop, (∃ m, P 0 m (upd H1 D (DxO D []))) ∧
  ∀ i m H, P i m H → (J.stop i H ∧ endsX D H Q) ∨ (J.go i H ∧ ∃ Nx : Hp → Prop, (∀ H', Nx H' → ∃ m', m' < m ∧ P (i + 1) m' H') ∧
    ∀ x H', J.yld i H x H' → g x (wipe σ vs) H' fun σ2 H2 => wipe σ2 vs = wipe σ vs ∧ tt σ2 H2 fun b H3 => if b = true then tk σ2 H3 fun y H4 => tv σ2 H4 fun z H5 => putsX K w D y z H5 Nx else Nx H3)
variable {kx vx tg iter : Expr} {ifs : List Expr} {scope : Scope} {own : List (Str × Nat)} {pos : Pos} {wi : TI} {g : TG} {tt : TT} {tk tv : TE}
/-- where the block of a comprehension stands that is entered at s with the heap H: its frame, the iterator's objects fp -/
abbrev blkAt (X : Cx) (scope : Scope) (s : Shared) (H : Hp) (fp : List Addr) : Cx := X.blk s H scope (compEnvC scope (cellsFrom (s.heap.objs.size + 1) scope.names (cloFrom X.env.cells scope.names [])) s.heap.objs.size X.env) fp
/-- every part of the comprehension is read in its block -/
structure InBlk (X : Cx) (scope : Scope) (tg : Expr) (g : TG) (ifs : List Expr) (tt : TT) (kx : Expr) (tk : TE) (vx : Expr) (tv : TE) : Prop where
  tg : ∀ s H fp, PG (blkAt X scope s H fp) tg g
  ifs : ∀ s H fp, PTs (blkAt X scope s H fp) ifs tt
  key : ∀ s H fp, PE (blkAt X scope s H fp) kx tk
  val : ∀ s H fp, PE (blkAt X scope s H fp) vx tv
/-- the loop of the block, from any turn on -/
theorem dcX_loop {pins : List (Addr × Obj)} {σ : L2.St} {s3 : Shared} {H3 : Hp} {ce : Env} {fp : List Addr} {it D : Addr} {J : It} {tn : Nat → Heap → Prop} {Q : VK} {P : Nat → Nat → Hp → Prop} (hu : X.A.units + 16 < cLine) (hc : X.calm = true) (I3 : Inv X pins σ H3 s3)
    (f3 : ∀ b ∈ fp, FpOk X pins H3 b ∧ b < s3.heap.objs.size) (hL : ce.locals = s3.heap.objs.size) (pg : PG (X.blk s3 H3 scope ce fp) tg g) (pt : PTs (X.blk s3 H3 scope ce fp) ifs tt) (pk : PE (X.blk s3 H3 scope ce fp) kx tk) (pv : PE (X.blk s3 H3 scope ce fp) vx tv)
    (T : Turn X.prog X.w X.K tg J fp it tn)
    (turn : ∀ i m H, P i m H → (J.stop i H ∧ endsX D H Q) ∨ (J.go i H ∧ ∃ Nx : Hp → Prop, (∀ H', Nx H' → ∃ m', m' < m ∧ P (i + 1) m' H') ∧
      ∀ x H', J.yld i H x H' → g x (wipe σ (own.map (·.2))) H' fun σ2 H2 => wipe σ2 (own.map (·.2)) = wipe σ (own.map (·.2)) ∧ tt σ2 H2 fun b H3 => if b = true then tk σ2 H3 fun y H4 => tv σ2 H4 fun z H5 => putsX X.K X.w D y z H5 Nx else Nx H3)) :
    ∀ (m i : Nat) (H' : Hp) (s4 : Shared), Inv (X.blk s3 H3 scope ce fp) [] (wipe σ (own.map (·.2))) H' s4 → tn i s4.heap → (∀ b ∈ fp, H' b = none) → P i m H' →
      codeAny (model X.prog X.w) X.A (.compLoop (.DictComp kx vx [⟨tg, iter, ifs, 0⟩] scope pos) 0 (.ref it) (.ref D) ce) (compPost (model X.prog X.w) X.A X.xe none (EP X pins σ Q) (.ref D) s3.heap.objs.size) s4 := fun m i H' s4 I4 st4 n4 p4 => by
  -- the iterator's objects, in the block
  have mine : ∀ {σ' : L2.St} {H : Hp} {s : Shared}, Inv (X.blk s3 H3 scope ce fp) [] σ' H s → (∀ b ∈ fp, H b = none) → ∀ b ∈ fp, FpOk (X.blk s3 H3 scope ce fp) [] H b := fun I n b hb =>
    ⟨n b hb, (I.ok.exf b hb).1, I.ok.exfs b hb, .inl hb, (I.ok.exf b hb).2, fun p hp => nomatch (show p ∈ ([] : List (Addr × Obj)) ++ [] from hp)⟩
  refine compLoop_anyD (fun m s' => ∃ i H, Inv (X.blk s3 H3 scope ce fp) [] (wipe σ (own.map (·.2))) H s' ∧ tn i s'.heap ∧ (∀ b ∈ fp, H b = none) ∧ P i m H) (fun m s5 ⟨i, H5, I5, st5, n5, p5⟩ => ?_) m ⟨i, H', I4, st4, n4, p4⟩
  rcases turn i m H5 p5 with ⟨stop, es, eD, ends⟩ | ⟨go, Nx, hNx, step⟩
  · refine thnF (T.done (X.blk s3 H3 scope ce fp) rfl rfl rfl hc i [] s5 _ H5 (fun _ _ => False) I5 (mine I5 n5) st5 stop) fun r s6 ⟨hr, I6⟩ => ?_
    subst hr
    -- back in the def: the dict is locked
    have I7 : Inv X pins σ H5 s6 := I3.call' (ch := fp) I6.os I6.base I6.hok I6.bare fun b hb => let f := (f3 b hb).1.2; ⟨f.2.2.1, f.1, f.2.2.2.1, f.2.2.2.2⟩
    obtain ⟨od, I8⟩ := I7.lock eD True.intro
    have nL : H5 s3.heap.objs.size = none := by rw [← hL]; exact I6.free
    obtain ⟨mm, hn, _⟩ := I6.loc
    refine ⟨mm, by rw [← hL]; exact hn, fun h9 sb => ?_⟩
    obtain ⟨g0, g1, g2, g3, g4, g5⟩ := I3.fpOk (Nat.le_refl s3.heap.objs.size) (I3.hok.fresh (Nat.le_refl _))
    have nL' : upd H5 D (.frz od (DxO D es)) s3.heap.objs.size = none := by
      rw [upd_ne fun z => by rw [z, eD] at nL; cases nL]
      exact nL
    exact ⟨.ref D, _, I8.turned (t' := s6.toks) (fun b o hb e => (sb.2 b hb).trans e) nL' g1 g3 g4 g5, rfl, ends od⟩
  · refine thnF (T.item (X.blk s3 H3 scope ce fp) rfl rfl rfl hc i [] s5 _ H5 (fun _ _ => False) I5 (mine I5 n5) st5 go) fun r s6 ⟨u, hr, h6⟩ => ?_
    subst hr
    refine thnF h6 fun _ s7 ⟨x, H7, I7, r7, y7, st7, n7⟩ => ?_
    refine thnF (pg.run _ s7 _ H7 x u _ (I7.pinned (mine I7 n7) (T.obj _ _ st7)) r7 (step x H7 y7)) fun _ s8 ⟨σ8, H8, I8, w8, q8⟩ => ?_
    have over : ∀ {s' : Shared} {H : Hp}, Inv (X.blk s3 H3 scope ce fp) ([] ++ pinsAt fp s7.heap) σ8 H s' → Nx H → ∃ m', m' < m ∧ ∃ i H, Inv (X.blk s3 H3 scope ce fp) [] (wipe σ (own.map (·.2))) H s' ∧ tn i s'.heap ∧ (∀ b ∈ fp, H b = none) ∧ P i m' H := fun {s' H} I n => by
      obtain ⟨m', hm, p'⟩ := hNx H n
      have stays : ∀ b ∈ fp, ∀ o, s7.heap.get? b = some o → s'.heap.get? b = some o ∧ H b = none := fun b hb o e =>
        let z := I.pin (b, o) (List.mem_append_right _ (List.mem_append_right _ (mem_pinsAt hb e))); ⟨z.1, z.2.1⟩
      refine ⟨m', hm, i + 1, H, I.unpinned.weak (by rw [← w8, wipe_length]) fun j v e => ?_, T.keep _ _ _ st7 fun b hb o e => (stays b hb o e).1, fun b hb => ?_, p'⟩
      · rw [← w8] at e
        exact (wipe_some e).1
      · obtain ⟨o, e, _⟩ := T.obj _ _ st7 b hb
        exact (stays b hb o e).2
    refine thnF (pt.run _ s8 σ8 H8 _ I8 q8) fun b s9 ⟨H9, I9, q9⟩ => ?_
    cases b with
    | false => exact over I9 q9
    | true =>
      refine thnF (pk.run _ s9 σ8 H9 _ I9 q9) fun kv s10 ⟨yk, H10, I10, r10, q10⟩ => thnF (pv.run _ s10 σ8 H10 _ I10 q10) fun vv s11 ⟨yv, H11, I11, r11, q11⟩ => ?_
      obtain ⟨S, ks, vs, dk, dv, eS, own_, few_, kk, rk, rx, nx⟩ := q11
      exact x_dictSet (X := X.blk s3 H3 scope ce fp) hu I11 eS own_ few_ kk rk r10 rx r11 fun es' s12 I12 rd => over I12 (nx es' rd)
theorem pe_dcX (hu : X.A.units + 16 < cLine) (hc : X.calm = true) (hN : X.N.Nodup) (hi : PI X tg iter wi) (ok : BlkOk X.N X.env.scope scope own) (B : InBlk X scope tg g ifs tt kx tk vx tv) (hs : ∀ x, foldedSetIterable iter X.env x = pure x) :
    PE X (.DictComp kx vx [⟨tg, iter, ifs, 0⟩] scope pos) (tDcX X.K X.w wi g tt tk tv (own.map (·.2))) := by
  refine ⟨fun pins s σ H Q I h => ?_⟩
  rw [arm_eval_DictComp]
  have cells : ∀ y ∈ scope.names, y.2 = .free → ∃ c, X.env.cells.lookup y.1 = some c := fun y hy e => I.ok.has _ (ok.free y hy e)
  refine wpAny_comprehension_free (use := none) rfl hs (closure_ok cells) ok.kind (fun y hy e => by rw [ok.uniq y hy, e]) (thn (hi.run pins s σ H _ I h) fun _ s1 h1 => thn h1 fun _ s2 h2 => ?_)
  obtain ⟨it, fp, tn, J, H2, rfl, I2, T, st2, f2, q⟩ := h2
  refine wpAny_newObj_type (newEnv_comp ?_)
  -- the new dict
  have fresh : H2 s2.heap.objs.size = none := I2.hok.fresh (Nat.le_refl _)
  obtain ⟨P, ⟨m0, p0⟩, turn⟩ := q _ fresh
  have I3 : Inv X pins σ (upd H2 s2.heap.objs.size (DxO s2.heap.objs.size [])) { s2 with heap := s2.heap.push { cls := .type "dict", data := .dict #[] } } :=
    I2.laid (t' := s2.toks) (fun _ _ e => Heap.get?_push_of_some _ e) (Nat.le_refl _) (dx_new (Nat.zero_le _) (beq_eq_false_iff_ne.mpr (Ne.symm (Nat.ne_of_lt I2.big))) (Mx.new s2.heap) rfl)
  have below : ∀ b ∈ fp, b < s2.heap.objs.size := fun b hb => let ⟨_, e, _⟩ := T.obj _ _ st2 b hb; Heap.lt_size e
  have f3 : ∀ b ∈ fp, FpOk X pins (upd H2 s2.heap.objs.size (DxO s2.heap.objs.size [])) b ∧ b < (s2.heap.push { cls := .type "dict", data := .dict #[] }).objs.size := fun b hb =>
    ⟨⟨by rw [upd_ne (Nat.ne_of_lt (below b hb))]; exact (f2 b hb).1, (f2 b hb).2⟩, by rw [Heap.size_push]; exact Nat.lt_succ_of_lt (below b hb)⟩
  have st3 : tn 0 (s2.heap.push { cls := .type "dict", data := .dict #[] }) := T.keep _ _ _ st2 fun _ _ _ e => Heap.get?_push_of_some _ e
  generalize hD : s2.heap.objs.size = D at *
  generalize hh : s2.heap.push { cls := .type "dict", data := .dict #[] } = hp at *
  generalize h3 : upd H2 D (DxO D []) = H3 at *
  -- into the block
  have I4 := block_start I3 ok hN f3
  have pg := B.tg { s2 with heap := hp } H3 fp
  have pt := B.ifs { s2 with heap := hp } H3 fp
  have pk := B.key { s2 with heap := hp } H3 fp
  have pv := B.val { s2 with heap := hp } H3 fp
  have st4 : tn 0 (pushCells (hp.push { cls := .type "dict", data := .dict #[] }) scope.names) := T.keep _ _ _ st3 fun b _ o e => pushCells_keeps _ _ _ _ (Heap.get?_push_of_some _ e)
  have lp := dcX_loop (iter := iter) (pos := pos) hu hc I3 f3 rfl pg pt pk pv T turn m0 0 H3 _ I4 st4 (fun b hb => (f3 b hb).1.1) p0
  exact codeAny_compStart_dict lp (T.self X.A 0 _ _ _ st4 lp)
end
end PD

/-! Dicts of the data layer: walks over a locked dict, the rules by syntax. -/
namespace PD
open PySem PySem.Spec PyProof.Rows L2 MX
section
variable {X : Cx} {pins : List (Addr × Obj)} {σ : L2.St} {H : Hp} {s : Shared} {d : Addr} {od : Obj} {es : List DictEntry}
end
section
variable {P : Program} {w : World} {K : PySem.W.Frag} {tg : Expr} {d : Addr} {od : Obj} {es : List DictEntry} {kvs us : List V} {ar : Array DictEntry} {ep : Nat}
end
section
variable {X : Cx} {tg e : Expr} {td : TE} {apos cpos : Pos}
end
end PD

/-! Data: instances: attributes, properties, methods, len, ==, !=, isinstance, making. -/
namespace PD
open PySem PySem.Spec PyProof.Rows L2
section
variable {g : Gb} {l : Lc} {ρ : Rho} {e a b o : Expr} {es : List Expr} {pos : Pos} {ds : List DV} {d da db : DV} {C : Addr} {gs : List (Str × DV)} {n : Str}
theorem obj_rp {K : PySem.W.Frag} {S : Hp} {v : V} (r : Rp K S v (.obj C gs)) : ∃ a dx fs, v = .ref a ∧ S a = some (.ins C dx fs) ∧ RpF K S fs gs := by
  cases r with
  | obj h q => exact ⟨_, _, _, rfl, h, q⟩
/-- e.n, an attribute -/
theorem ev_fld {K : PySem.W.Frag} {te : TE} (c : Cls K C) (hn : NoAttr K C n) (h : EvD K te ρ (.obj C gs)) (hl : gs.lookup n = some d) : EvD K (tFld K te n) ρ d := fun H0 σ S H ex m Q q =>
  h H0 σ S H ex m _ fun v S1 H1 g1 r1 => by
    obtain ⟨p, dx, fs, rfl, hp, rf⟩ := obj_rp r1
    obtain ⟨u, hu, ru⟩ := rf.look hl
    exact ⟨p, C, dx, fs, u, rfl, g1.sub _ _ hp, c, hn, hu, q u S1 H1 g1 ru⟩
theorem de_fld (c : Cls g.K C) (hn : NoAttr g.K C n) (hl : gs.lookup n = some d) (h : DE g l e ρ (.obj C gs)) (hab : ∀ env, attributeBase e n env (eval e env) = eval e env := by intro _; rfl) : DE g l (.Attribute e n pos) ρ d :=
  DE.by (tFld g.K (UE g l e) n) (fun X o => by have := pe_fld (f := n) (pos := pos) (UE.pe o e) (hab _); rw [o.K] at this; exact this) (ev_fld c hn h hl)
/-- a def that is known, wherever it stands -/
structure Fd (g : Gb) (k : Nat) (f : Addr) (R : List DV → DV → Prop) : Prop where
  ex : ∃ fd ps, FnOk g.P g.w g.K g.mg g.base CX0 k f fd ps (spR g.K R) ∧ Binds g.K fd ps []
/-- e.n, a property -/
structure Pr (g : Gb) (k : Nat) (C : Addr) (n : Str) (R : List DV → DV → Prop) : Prop where
  ex : ∃ p f, PropOf g.K C n p f ∧ Fd g k f R
theorem ev_prop {K : PySem.W.Frag} {te : TE} {R : List DV → DV → Prop} (h : EvD K te ρ (.obj C gs)) (hR : R [.obj C gs] d) : EvD K (tProp C (spR K R) [] E0 te) ρ d := fun H0 σ S H ex m Q q =>
  h H0 σ S H ex m _ fun v S1 H1 g1 r1 => by
    obtain ⟨p, dx, fs, rfl, hp, rf⟩ := obj_rp r1
    exact ⟨p, dx, fs, rfl, g1.sub _ _ hp, S1, _, _, g1.sub, .cons (.obj hp rf) .nil, hR, fun v S2 H2 g2 r2 => q v S2 H2 (g1.tr g2) r2⟩
theorem de_prop {k : Nat} {R : List DV → DV → Prop} (c : Cls g.K C) (P : Pr g k C n R) (hR : R [.obj C gs] d) (h : DE g l e ρ (.obj C gs)) (hk : k + 1 ≤ l.k := by decide) (hab : ∀ env, attributeBase e n env (eval e env) = eval e env := by intro _; rfl) (hcl : l.cb = true := by rfl) : DE g l (.Attribute e n pos) ρ d := by
  obtain ⟨p, f, hp, fd, ps, ok, hb⟩ := P.ex
  exact DE.by (tProp C (spR g.K R) [] E0 (UE g l e)) (fun X o => pe_prop (UE.pe o e) (by rw [o.K]; exact c) (by rw [o.K]; exact hp) (CX := CX0) (k := k) (by rw [o.prog, o.w, o.K, o.mg, o.base]; exact ok) ((o.room hcl).mono hk) (ds := []) (by rw [o.K]; exact hb) .nil pass0 (hab _)) (ev_prop h hR)
end
/-! isinstance(x, C), an own class -/
structure Kl (g : Gb) (C : Addr) (x : Str) : Prop where
  c : Cls g.K C
  ha : PySem.W.findIn g.K (.ref C) "__class__" = some (some (.builtin "object.__class__"))
  hn : PySem.W.specialIn g.K (.builtin "object.__class__") "__get__" = some (some (.builtin "getset_descriptor.__get__"))
  ht : PySem.W.takesIn g.K (.builtin "object.__class__") = some true
  hm : PySem.W.mroIn g.K C (.type "object") = some true
  mg : g.mg x = some (.ref C)
section
variable {g : Gb} {l : Lc} {ρ : Rho} {e a b o : Expr} {es : List Expr} {pos : Pos} {ds : List DV} {d da db : DV} {C : Addr} {gs hs : List (Str × DV)} {n : Str}
theorem de_isOwn {p p2 : Pos} (B : Bt g) (k : Kl g C n) (h : DE g l e ρ (.obj C gs)) (hg : GlN l "isinstance" := by rfl) (hgC : GlN l n := by rfl) (hdb : (n == ("__debug__" : Str)) = false := by decide)
    (hs : ∀ env, starEach (e :: [.Name n p2]) env = (false, eval e env) :: starEach [.Name n p2] env := by intro _; rfl) : DE g l (.Call (.Name "isinstance" p) (e :: [.Name n p2]) [] pos) ρ (.bl true) :=
  DE.by (tCB (rIsi g.K) (tCons (UE g l e) (tCons (tC (.ref C)) tNil))) (fun X o => by
    have := call_isi (X := X)
    rw [o.K] at this
    exact pe_callB this (o.gl hg) (by rw [o.mg]; exact B.isi) (by decide +kernel) (pa_cons (UE.pe o e) (pa_cons (pe_glob (v := .ref C) (o.gl hgC) (by rw [o.mg]; exact k.mg) rfl hdb) pa_nil) (hs _)) (by decide) (by decide) (hs _) (by rfl))
    fun H0 σ S H ex m Q q => h H0 σ S H ex m _ fun v S1 H1 g1 r1 => by
      obtain ⟨p, dx, fs, rfl, hp, rf⟩ := obj_rp r1
      refine ⟨.ref p, .ref C, _, _, true, rfl, .own C, .base (.ins (g1.sub _ _ hp) k.c k.ha k.hn k.ht k.hm), ?_, q _ S1 H1 g1 (.bl _)⟩
      unfold PySem.W.kitOne
      rw [if_pos (by simp)]
/-! a call from within a built-in -/
theorem run1 {X : Cx} {k : Nat} {f : Addr} {fd : FuncData} {ps : List Str} {sp : Sp} {pins : List (Addr × Obj)} {σ : L2.St} {H : Hp} {s : Shared} {Q : VK} {us : List Value} {vs : List V} {E : Value → Shared → Prop} (F : FnOk X.prog X.w X.K X.mg X.base CX0 k f fd ps sp) (hr : Room (k + 1) X.A) (hb : Binds X.K fd ps [])
    (I : Inv X pins σ H s) (r : Vals vs us) (h : sp vs H Q E0) : wpAny (model X.prog X.w) X.A.in1 (call (.ref f) us) (EP X pins σ Q) E s := by
  have hl : us.length = ps.length := by rw [← r.length]; exact F.len _ _ _ _ h
  have hb' := hb s us I.kIn (by rw [List.append_nil]; exact hl)
  rw [List.append_nil] at hb'
  refine wpAny_call (codeAny_mono (F.run X.A.in1 X.stack s H ⟨us, []⟩ us vs Q E0 hr.in1 I.env0.in1 hb' r h) fun r s' hq => ?_)
  cases r with
  | error er => exact hq.elim
  | ok fl => cases fl with
    | ret u => exact I.after hq
    | _ => exact hq.elim
/-- len(x) by an own __len__ -/
theorem call_lenO {X : Cx} {k : Nat} {f : Addr} {fd : FuncData} {ps : List Str} {sp : Sp} (F : FnOk X.prog X.w X.K X.mg X.base CX0 k f fd ps sp) (hr : Room (k + 1) X.A) (hb : Binds X.K fd ps []) (hm : Meth X.K C "__len__" f) :
    CallR X (.builtin "len") (fun xs H Q => ∃ p dx fs, xs = [.ref p] ∧ H p = some (.ins C dx fs) ∧ sp [.ref p] H (fun v H' => ∃ i : Int, v = .int i ∧ 0 ≤ i ∧ i < 2 ^ 63 ∧ Q (.int i) H') E0) := by
  rintro pins s σ H _ us Q I r ⟨p, dx, fs, rfl, hp, h⟩
  obtain ⟨u, rfl, hu⟩ := vals1 r
  cases hu
  obtain ⟨mA, J, _⟩ := ins_get I.hok hp
  obtain ⟨od, J, _⟩ := J.look
  obtain ⟨m, hF⟩ := I.fr
  refine PySem.W.len_K hF I.ok.mod.kin J hm.at_ hm.fn (wpAny_mono (run1 (vs := [.ref p]) (us := [.ref p]) F hr hb I (.cons rfl .nil) h) (fun v s' ⟨w, H', I', rw, i, e, h0, h1, q⟩ => ?_) fun _ _ z => z)
  subst e
  obtain ⟨t, rfl⟩ := rw
  exact ⟨⟨h0, h1⟩, .int i, H', I'.tok _, ⟨_, rfl⟩, q⟩
structure Lo (g : Gb) (k : Nat) (C : Addr) (R : List DV → DV → Prop) : Prop where
  ex : ∃ f, Meth g.K C "__len__" f ∧ Fd g k f R
theorem de_lenO {k : Nat} {p : Pos} {i : Nat} {R : List DV → DV → Prop} (B : Bt g) (M : Lo g k C R) (hR : R [.obj C gs] (.int i)) (hi : i ≤ 100000) (h : DE g l e ρ (.obj C gs)) (hk : k + 1 ≤ l.k := by decide) (hg : GlN l "len" := by rfl) (hs : ∀ env, starEach [e] env = [(false, eval e env)] := by intro _; rfl) (hcl : l.cb = true := by rfl) : DE g l (.Call (.Name "len" p) [e] [] pos) ρ (.int i) := by
  obtain ⟨f, hm, fd, ps, ok, hb⟩ := M.ex
  refine DE.by (tCB (fun xs H Q => ∃ p dx fs, xs = [.ref p] ∧ H p = some (.ins C dx fs) ∧ (spR g.K R) [.ref p] H (fun v H' => ∃ i : Int, v = .int i ∧ 0 ≤ i ∧ i < 2 ^ 63 ∧ Q (.int i) H') E0) (tCons (UE g l e) tNil)) (fun X o => ?_) ?_
  · refine pe_callB (call_lenO (k := k) (fd := fd) (ps := ps) (by rw [o.prog, o.w, o.K, o.mg, o.base]; exact ok) ((o.room hcl).mono hk) (by rw [o.K]; exact hb) (by rw [o.K]; exact hm)) (o.gl hg) (by rw [o.mg]; exact B.len) boot_len (pa_cons (UE.pe o e) pa_nil (by rw [hs]; rfl)) (by decide) (by decide) (by rw [hs]; rfl) (by rfl)
  · exact fun H0 σ S H ex m Q q => h H0 σ S H ex m _ fun v S1 H1 g1 r1 => by
      obtain ⟨p, dx, fs, rfl, hp, rf⟩ := obj_rp r1
      refine ⟨p, dx, fs, rfl, g1.sub _ _ hp, S1, _, _, g1.sub, .cons (.obj hp rf) .nil, hR, fun v S2 H2 g2 r2 => ?_⟩
      cases r2
      exact ⟨(i : Int), rfl, by omega, by omega, q _ S2 H2 (g1.tr g2) (.int _)⟩
def rNeO (C : Addr) (sp : Sp) : R2 := fun x y H Q => ∃ p q dx dy fs hs, x = .ref p ∧ y = .ref q ∧ H p = some (.ins C dx fs) ∧ H q = some (.ins C dy hs) ∧ sp [.ref p, .ref q] H (fun v H' => ∃ b : Bool, v = .bl b ∧ Q (.bl (!b)) H') E0
open PySem.W in
theorem ne_own {prog : Program} {w : World} {A : Around} {E : Value → Shared → Prop} {s : Shared} {K : Frag} {x y C L f : Addr} {h₀ : Heap} {m : Str → Option Value} {ox oy : Obj} {od oe : Option Obj} {Q : Value → Shared → Prop} (hu : A.units + 1 < cLine) (Fr' : Fr h₀ L s.heap m) (X₀ : K.In h₀) (I : InstAt s.heap x ox C od) (J : InstAt s.heap y oy C oe)
    (hn : findIn K (.ref C) "__ne__" = some (some (.builtin "object.__ne__"))) (hs : findIn K (.ref C) "__eq__" = some (some (.ref f))) (hf : isFn K (.ref f) = true) (hsub : subIn K (.ref C) (.type "object") = some true)
    (h : wpAny (model prog w) A.in1 (call (.ref f) [.ref x, .ref y]) (fun v s' => ∃ b, v = .bool b ∧ Q (.bool (!b)) s') E s) : wpAny (model prog w) A (richCompare .NotEq (.ref x) (.ref y)) Q E s := by
  have X := X₀.keeps Fr'.keep
  have slot := F.cmp_object.ne
  have body : wpAny (model prog w) A.in1 (Builtin.«object.__ne__» ⟨[.ref x, .ref y], []⟩) (fun fin s' => ∃ b, fin = .done (.ret (.bool (!b))) ∧ Q (.bool (!b)) s') E s := by
    unfold Builtin.«object.__ne__»
    refine wpAny_bind (m := slotArgs "__ne__" 1 _) (wpAny_pure ?_)
    refine wpAny_bind (wpAny_cRoomFor hu ?_)
    refine wpAny_bind (m := callSpecialIfBound? (.ref x) (Str.ofString "__eq__") [.ref y]) (ifBound_K X I hs hf (wpAny_mono h (fun v s' ⟨b, e, q⟩ => ?_) fun _ _ z => z))
    subst e
    refine wpAny_bind (m := truthy (.bool b)) (wpAny_truthy_bool ?_)
    exact wpAny_pure ⟨b, rfl, q⟩
  have one : wpAny (model prog w) A (tryCompare (.ref x) "__ne__" (.ref y)) (fun r s' => ∃ v, r = some v ∧ Q v s') E s := by
    unfold tryCompare
    refine wpAny_bind ?_
    simp only [callSpecialIfBound?, bindSpecialIfBound?]
    refine wpAny_holding (wpAny_bind (wpAny_bind (wpAny_bind (I.type.here ((looks_findIn X hn).here ?_)))))
    simp only [slot.bind]
    refine wpAny_bind (wpAny_askSetting (wpAny_ite ?_))
    have chk : wpAny (model prog w) A.in1 (checkBuiltinCall "object.__ne__" ⟨[.ref x, .ref y], []⟩) (fun _ s₁ => s₁ = s) E s := by
      simp only [checkBuiltinCall, F.cmpKind_ne, F.cmpSplit_ne]
      refine wpAny_bind ?_
      unfold isInstance
      refine wpAny_bind (I.type.here ((looks_subIn X hsub).here ?_))
      have ha := F.cmpArgs_ne (.ref x) (.ref y)
      cases hsig : Manifest.signature? "object.__ne__" with
      | none => exact wpAny_pure rfl
      | some sig =>
        simp only [argsOk, hsig] at ha
        show wpAny _ _ (Bind.checkArgs _ sig _) _ _ _
        rw [show Bind.checkArgs "object.__ne__" sig ⟨[.ref x, .ref y], []⟩ = pure () from ha]
        exact wpAny_pure rfl
    have fin : wpAny (model prog w) A (call (.builtin "object.__ne__") ([.ref x] ++ [.ref y]) >>= fun v => pure (some v)) (fun r s' => ∃ b, r = some (.bool b) ∧ Q (.bool b) s') E s := by
      refine wpAny_bind (wpAny_call (codeAny_call_builtin slot.plain F.cmpEntry_ne (wpAny_mono chk (fun _ s₁ e => ?_) fun _ _ z => z)))
      rw [e]
      refine wpAny_mono body (fun fin s' ⟨b, e2, q⟩ => ?_) fun _ _ z => z
      rw [e2]
      exact wpAny_pure ⟨_, rfl, q⟩
    have fin2 := wpAny_mono (Q' := fun r s' => wpAny (model prog w) A (match r with | some Value.notImplemented => pure none | none => pure none | some v => pure (some v)) (fun r s' => ∃ v, r = some v ∧ Q v s') E s') fin (fun r s' ⟨b, e, q⟩ => by subst e; exact wpAny_pure ⟨_, rfl, q⟩) fun _ _ z => z
    split
    · exact wpAny_bind (wpAny_pure (wpAny_pure (by exact fin2)))
    · exact wpAny_tryCatch (wpAny_bind (wpAny_pure (wpAny_pure (by exact fin2))))
  unfold richCompare
  simp only [oneThing_ref]
  refine wpAny_holding (wpAny_bind (wpAny_cRoomFor (Nat.lt_of_succ_lt hu) ?_))
  refine wpAny_bind (I.type.here (wpAny_bind (J.type.here ?_)))
  rw [show (Value.ref C != Value.ref C) = false by simp]
  simp only [Bool.false_eq_true, if_false]
  refine wpAny_bind (wpAny_pure ?_)
  simp only [Bool.false_eq_true, if_false]
  refine wpAny_bind (wpAny_mono one (fun r s' ⟨v, e, q⟩ => ?_) fun _ _ z => z)
  rw [e]
  exact wpAny_pure q
end
end PD

/-! Data: == and != of instances; an instance is made. -/
namespace PD
open PySem PySem.Spec PyProof.Rows L2
section
variable {g : Gb} {l : Lc} {ρ : Rho} {e a b o : Expr} {es : List Expr} {pos : Pos} {ds : List DV} {d da db : DV} {C : Addr} {gs hs : List (Str × DV)} {n : Str}
theorem op_neO {X : Cx} {k : Nat} {f : Addr} {fd : FuncData} {ps : List Str} {sp : Sp} (F : FnOk X.prog X.w X.K X.mg X.base CX0 k f fd ps sp) (hr : Room (k + 1) X.A) (hb : Binds X.K fd ps []) (hm : Meth X.K C "__eq__" f)
    (hn : PySem.W.findIn X.K (.ref C) "__ne__" = some (some (.builtin "object.__ne__"))) (hsub : PySem.W.subIn X.K (.ref C) (.type "object") = some true) : OpR X (compareOp .NotEq) (rNeO C sp) := by
  rintro pins s σ H _ _ v u Q I rx ry ⟨p, q, dx, dy, fs, hs, rfl, rfl, hp, hq, h⟩
  cases rx; cases ry
  obtain ⟨mA, J, _⟩ := ins_get I.hok hp
  obtain ⟨mB, J', _⟩ := ins_get I.hok hq
  obtain ⟨od, J, _⟩ := J.look
  obtain ⟨od', J', _⟩ := J'.look
  obtain ⟨m, hF⟩ := I.fr
  have hu : X.A.units + 1 < cLine := by
    have := hr.un
    omega
  show wpAny _ _ (richCompare .NotEq _ _) _ _ _
  refine ne_own hu hF I.ok.mod.kin J J' hn hm.at_ hm.fn hsub (wpAny_mono (run1 (vs := [.ref p, .ref q]) (us := [.ref p, .ref q]) F hr hb I (.cons rfl (.cons rfl .nil)) h) (fun w s' ⟨z, H', I', rz, b, e, k⟩ => ?_) fun _ _ z => z)
  subst e; cases rz
  exact ⟨b, rfl, .bl (!b), H', I', rfl, k⟩
structure Eo (g : Gb) (k : Nat) (C : Addr) (R : List DV → DV → Prop) : Prop where
  ex : ∃ f, Meth g.K C "__eq__" f ∧ Fd g k f R
  hn : PySem.W.findIn g.K (.ref C) "__ne__" = some (some (.builtin "object.__ne__"))
  hs : PySem.W.subIn g.K (.ref C) (.type "object") = some true
theorem od_neO {K : PySem.W.Frag} {R : List DV → DV → Prop} {x : Bool} (hR : R [.obj C gs, .obj C hs] (.bl x)) : OpD K (rNeO C (spR K R)) (.obj C gs) (.obj C hs) (.bl (!x)) := fun S H v w ex r1 r2 Q q => by
  obtain ⟨p, dx, fs, rfl, hp, rf⟩ := obj_rp r1
  obtain ⟨p', dx', fs', rfl, hp', rf'⟩ := obj_rp r2
  refine ⟨p, p', dx, dx', fs, fs', rfl, rfl, ex _ _ hp, ex _ _ hp', S, _, _, ex, .cons (.obj hp rf) (.cons (.obj hp' rf') .nil), hR, fun v S2 H2 g2 r2 => ?_⟩
  cases r2
  exact ⟨x, rfl, q _ S2 H2 g2 (.bl _)⟩
theorem dt_neO {k : Nat} {R : List DV → DV → Prop} {x : Bool} (M : Eo g k C R) (hR : R [.obj C gs, .obj C hs] (.bl x)) (ha : DE g l a ρ (.obj C gs)) (hb : DE g l b ρ (.obj C hs)) (hk : k + 1 ≤ l.k := by decide) (hcl : l.cb = true := by rfl) : DT g l (.Compare a [.NotEq] [b] pos) ρ (!x) := by
  obtain ⟨⟨f, hm, fd, ps, ok, hb'⟩, h1, h2⟩ := M
  exact dt_cmp (fun X o => op_neO (k := k) (fd := fd) (ps := ps) (by rw [o.prog, o.w, o.K, o.mg, o.base]; exact ok) ((o.room hcl).mono hk) (by rw [o.K]; exact hb') (by rw [o.K]; exact hm) (by rw [o.K]; exact h1) (by rw [o.K]; exact h2)) (od_neO hR) ha hb (nomark _)
end
/-! keywords -/
def UK (g : Gb) (l : Lc) (kws : List Keyword) : TA := fun σ H Q => ∃ t, (∀ X, Of g l X → PK X kws t) ∧ t σ H Q
theorem UK.pk {g : Gb} {l : Lc} {X : Cx} (o : Of g l X) (kws : List Keyword) : PK X kws (UK g l kws) := ⟨fun pos pins s σ H Q I ⟨t, h, q⟩ => (h X o).run pos pins s σ H Q I q⟩
def DK (g : Gb) (l : Lc) (kws : List Keyword) (ρ : Rho) (ds : List DV) : Prop := EvA g.K (UK g l kws) ρ ds
section
variable {g : Gb} {l : Lc} {ρ : Rho} {e : Expr} {es : List Expr} {pos : Pos} {ds es' : List DV} {d : DV} {C : Addr} {gs : List (Str × DV)} {n : Str} {kws : List Keyword}
theorem dk_nil : DK g l [] ρ [] := fun H0 σ S H ex m Q q => ⟨_, fun X o => pk_nil, ea_nil H0 σ S H ex m Q q⟩
theorem dk_cons {nm : Option Str} {kp : Pos} (h : DE g l e ρ d) (hr : DK g l kws ρ ds) : DK g l (⟨nm, e, kp⟩ :: kws) ρ (d :: ds) := fun H0 σ S H ex m Q q => ⟨_, fun X o => pk_cons (UE.pe o e) (UK.pk o kws), ea_cons h hr H0 σ S H ex m Q q⟩
/-- the promise of an __init__: from ds the attributes gs -/
def spI (K : PySem.W.Frag) (C : Addr) (R : List DV → List (Str × DV) → Prop) : Sp := fun vs H Q _ => ∃ (x dx : Addr) (vs' : List V) (S : Hp) (ds : List DV) (gs : List (Str × DV)), vs = .ref x :: vs' ∧ H x = some (.ins C dx []) ∧ Ex S H ∧ S x = none ∧ RpA K S vs' ds ∧ R ds gs ∧
  ∀ S' H' fs, Go S (fun a => if a = x then none else H a) S' H' → S' x = none → H' x = some (.ins C dx fs) → RpF K S' fs gs → Q .non H'
structure Mf (g : Gb) (k n : Nat) (ks : List Str) (C : Addr) (x : Str) (ms : List DV) (R : List DV → List (Str × DV) → Prop) : Prop where
  mg : g.mg x = some (.ref C)
  ex : ∃ f fd ps gg gV mv, Mk g.K C f ∧ FnOk g.P g.w g.K g.mg g.base CX0 k f fd ps (spI g.K C R) ∧ KBn g.K fd ps (n + 1) ks gg gV ∧ (∀ (v : V) (vs zs : List V), gV (v :: vs) zs = v :: (vs ++ zs ++ mv)) ∧ ∀ S, RpA g.K S mv ms
theorem ev_make {K : PySem.W.Frag} {ta tk : TA} {k m : Nat} {gV : List V → List V → List V} {mv : List V} {ms : List DV} {R : List DV → List (Str × DV) → Prop} (ha : EvA K ta ρ ds) (hk : EvA K tk ρ es') (hm : ∀ S, RpA K S mv ms) (hg : ∀ (v : V) (vs zs : List V), gV (v :: vs) zs = v :: (vs ++ zs ++ mv)) (l1 : ds.length = k) (l2 : es'.length = m) (hR : R (ds ++ es' ++ ms) gs) :
    EvD K (tMakeK C k m (spI K C R) gV E0 ta tk) ρ (.obj C gs) := fun H0 σ S H ex n Q q =>
  ha H0 σ S H ex n _ fun vs S1 H1 g1 r1 => hk H0 σ S1 H1 g1.sub (n.go g1) _ fun zs S2 H2 g2 r2 => ⟨by rw [r1.len, l1], by rw [r2.len, l2], fun x dx nx ndx nex => by
    have sx : S2 x = none := g2.sub.free nx
    have e1 : Ex H2 (upd (upd H2 dx (.own x)) x (.ins C dx [])) := fun a u z => by
      rw [upd_ne (ne_of_none z nx), upd_ne (ne_of_none z ndx)]
      exact z
    refine ⟨x, dx, vs ++ zs ++ mv, S2, _, gs, hg _ _ _, upd_same, g2.sub.tr e1, sx, ((r1.up g2.s).append r2).append (hm S2), hR, fun S3 H3 fs g3 n3 hx rf => ⟨rfl, ?_⟩⟩
    have e3 : Ex H2 H3 := fun a u z => g3.h a u (by
      have ne := ne_of_none z nx
      show (if a = x then none else (upd (upd H2 dx (.own x)) x (.ins C dx [])) a) = some u
      rw [if_neg ne]
      exact e1 a u z)
    have g4 : Go S2 H2 S3 H3 := ⟨g3.s, e3, g3.sub, fun p u a b => by
      have z := g3.new p u a b
      by_cases w : p = x
      · rw [w]; exact nx
      · have z' : (upd (upd H2 dx (.own x)) x (.ins C dx [])) p = none := by
          have : (if p = x then none else (upd (upd H2 dx (.own x)) x (.ins C dx [])) p) = none := z
          rwa [if_neg w] at this
        exact e1.free z'⟩
    exact q _ _ H3 (((g1.tr g2).tr g4).frz n3 ((g1.tr g2).h.free nx) hx) (.obj upd_same (rf.up (Ex.new n3)))⟩
theorem de_make {k m : Nat} {ks : List Str} {p : Pos} {ms : List DV} {R : List DV → List (Str × DV) → Prop} (M : Mf g k m ks C n ms R) (ha : DA g l (e :: es) ρ ds) (hkw : DK g l kws ρ es') (hR : R (ds ++ es' ++ ms) gs) (l1 : ds.length = m := by rfl) (l2 : es'.length = ks.length := by rfl) (hk : k + 1 ≤ l.k := by decide) (hg : GlN l n := by rfl)
    (hall : ∀ env, (backToKw pos (keywordEach kws env)).all (·.1.isSome) = true := by intro _; rfl) (hks : ∀ env, (backToKw pos (keywordEach kws env)).filterMap (·.1) = ks := by intro _; rfl) (hdb : (n == ("__debug__" : Str)) = false := by decide)
    (he : ∀ env, starEach (e :: es) env = (false, eval e env) :: starEach es env := by intro _; rfl) (hpl : ∀ env, ((backTo pos (starEach (e :: es) env)).any (·.1) || (backToKw pos (keywordEach kws env)).any (·.1.isNone)) = false := by intro _; rfl) (hcl : l.cb = true := by rfl) :
    DE g l (.Call (.Name n p) (e :: es) kws pos) ρ (.obj C gs) := by
  obtain ⟨hmg, f, fd, ps, gg, gV, mv, mk, ok, kb, hgV, hmv⟩ := M
  exact DE.by (tMakeK C m ks.length (spI g.K C R) gV E0 (UA g l (e :: es)) (UK g l kws)) (fun X o => pe_makeK (CX := CX0) (k := k) (by rw [o.K]; exact mk) (by rw [o.prog, o.w, o.K, o.mg, o.base]; exact ok) ((o.room hcl).mono hk) (o.gl hg) (by rw [o.mg]; exact hmg) (by rw [o.K]; exact kb) pass0 (UA.pa o _) (UK.pk o kws) (hall _) (hks _) hdb (he _) (hpl _)) (ev_make ha hkw hmv hgV l1 l2 hR)
end
end PD

/-! Data: a, b = x, y; list(range(n)). -/
namespace PD
open PySem PySem.Spec PyProof.Rows L2
section
variable {g : Gb} {l : Lc} {ρ : Rho} {a b c e : Expr} {pos px py pz pt pt2 : Pos} {kt k2 : Nat} {d1 d2 d3 : DV} {ds : List DV} {E : Po} {x y z : Str}
theorem ds_par (i j : Nat) (nd : l.N.Nodup) (ha : DE g l a ρ d1) (hb : DE g l b ρ d2) (q : E.nx ((ρ.set i (.val d1)).set j (.val d2))) (hi : l.N[i]? = some x := by rfl) (hj : l.N[j]? = some y := by rfl) (hij : i ≠ j := by decide)
    (hx : l.sc.names.lookup x = some .local := by rfl) (hy : l.sc.names.lookup y = some .local := by rfl) (hs : ∀ env, starEach [a, b] env = (false, eval a env) :: starEach [b] env := by intro _; rfl) (hs2 : ∀ env, starEach [b] env = (false, eval b env) :: starEach [] env := by intro _; rfl)
    (hw : ∀ env, env.scope = l.sc → swappedStores [.Tuple [.Name x px, .Name y py] kt pt] (.Tuple [a, b] k2 pt2) env = pure (some [x, y]) := by intro env h; cases env; cases h; rfl)
    (hsw : ∀ env, swapsWithSole [.Tuple [.Name x px, .Name y py] kt pt] (.Tuple [a, b] k2 pt2) pos.line env = pure false := by intro _; rfl) (hcl : l.cb = true := by rfl) : DS g l (.Assign [.Tuple [.Name x px, .Name y py] kt pt] (.Tuple [a, b] k2 pt2) pos) ρ E :=
  DS.by (tPar i j (tCons (UE g l a) (tCons (UE g l b) tNil))) (fun X o => ps_par (o.calm hcl) (by rw [o.N]; exact nd) (by rw [o.N]; exact hi) (by rw [o.N]; exact hj) hij (by rw [o.sc]; exact hx) (by rw [o.sc]; exact hy) (pa_cons (UE.pe o a) (pa_cons (UE.pe o b) pa_nil (hs2 _)) (hs _)) (hw _ o.sc) (hsw _))
    fun S0 H0 B σ S H D g0 bb n o => ha H0 σ S H g0.sub n _ fun v1 S1 H1 g1 r1 => hb H0 σ S1 H1 g1.sub (n.go g1) _ fun v2 S2 H2 g2 r2 =>
      ⟨v1, v2, rfl, o.nx _ _ S2 H2 q ((g0.tr g1).tr g2) (bb.tr (g1.s.tr g2.s)) ((((n.go g1).go g2).set (r1.up g2.s)).set r2)⟩
/-- a target of any form, where the scope decides about the order of the stores -/
theorem ds_asgS {is : List Nat} {tg : Expr} {ρ' : Rho} {d : DV} (h : DE g l e ρ d) (hg : DG g l tg is d ρ ρ') (q : E.nx ρ') (hs : ∀ env, swapsWithSole [tg] e pos.line env = pure false := by intro _; rfl) (hw : ∀ env, env.scope = l.sc → swappedStores [tg] e env = pure none := by intro env h; cases env; cases h; rfl)
    (h1 : ∀ env, (assignEach [tg] env).map (·.2) = [assign tg env] := by intro _; rfl) : DS g l (.Assign [tg] e pos) ρ E :=
  DS.by _ (fun X o => ps_asg (UE.pe o e) (UG.pg o tg) (hs _) (hw _ o.sc) (h1 _)) (st_asgG h hg.tg q)
def rgD (n : Nat) : List DV := (List.range n).map fun (i : Nat) => DV.int (i : Int)
theorem rg_rgD (n : Nat) : rangeD 0 n = rgD n := by
  unfold rangeD rgD
  refine List.map_congr_left fun i _ => ?_
  rw [Int.zero_add]
theorem rgD_len (n : Nat) : (rgD n).length = n := by unfold rgD; rw [List.length_map, List.length_range]
theorem rgD_at {n i : Nat} {d : DV} (h : (rgD n)[i]? = some d) : i < n ∧ d = .int (i : Int) := by
  unfold rgD at h
  rw [List.getElem?_map] at h
  cases q : (List.range n)[i]? with
  | none => rw [q] at h; cases h
  | some j =>
    rw [q] at h
    obtain ⟨z1, z2⟩ := List.getElem?_eq_some_iff.mp q
    rw [List.getElem_range] at z2
    rw [List.length_range] at z1
    subst z2
    cases h
    exact ⟨z1, rfl⟩
end
end PD

/-! Dicts of the data layer: the rules by syntax. -/
namespace PD
open PySem PySem.Spec PyProof.Rows L2 MX
/-! d[k], k in d, d.get(k), d.get(k, x) by values -/
def tGet1X (K : PySem.W.Frag) (w : World) (td ty : TE) : TE := fun σ H Q => td σ H fun x H1 => ∃ p, x = .ref p ∧ (∃ S ks vs, Ex S H1 ∧ DAt K w S H1 p ks vs) ∧ ty σ H1 fun y H2 => ∃ S ks vs d, Ex S H2 ∧ DAt K w S H2 p ks vs ∧ d.isKeyD = true ∧ Rp K S y d ∧ ∀ z, Rp K S z ((dlook ks vs d).getD .non) → Q z H2
section
variable {X : Cx} {o i e f : Expr} {pos apos cpos : Pos} {td ty tx : TE}
theorem mx_type {pins : List (Addr × Obj)} {σ : L2.St} {S H : Hp} {s : Shared} {p : Addr} {ks vs : List DV} (I : Inv X pins σ H s) (e : Ex S H) (g : DAt X.K X.w S H p ks vs) : s.TypeIs (.ref p) "dict" ∧ ∀ b, Value.ref p = .ref b → ∃ ob, s.heap.get? b = some ob ∧ ob.dict = none := by
  obtain ⟨es, _, _, hm, _⟩ := x_at I e g
  refine ⟨hm.typeIs, fun b z => ?_⟩
  cases z
  obtain ⟨ob, _, _, h1, h2, _⟩ := hm.ex
  exact ⟨ob, h1, h2.2.1⟩
theorem pe_get1X (hu : X.A.units + 16 < cLine) (ho : PE X o td) (he : PE X e ty) (m : M1 X o "get" apos e cpos) : PE X (.Call (.Attribute o "get" apos) [e] [] cpos) (tGet1X X.K X.w td ty) := by
  refine ⟨fun pins s σ H Q I h => wpAny_Call_method m.base m.few m.line PySem.F.plainAttrs_dict PySem.F.slot_dict_get PySem.F.type_dict_get (thn (ho.run pins s σ H _ I h) fun u s1 ⟨x, H1, I1, rx, p, ex, ⟨S, ks, vs, eS, g⟩, q1⟩ => ?_)⟩
  subst ex
  cases rx
  obtain ⟨t1, t2⟩ := mx_type I1 eS g
  refine ⟨t1, t2, ?_⟩
  rw [m.trees]
  refine Calls.callWith_builtin rfl (Calls.evalArgs_plain (Calls.spliced_cons (thn (he.run pins s1 σ H1 _ I1 q1) fun iv s2 ⟨y, H2, I2, ry, S, ks, vs, d, eS, g, hk, rk, q2⟩ => Calls.spliced_nil ?_)))
  exact x_get1 hu I2 eS g hk rk ry fun w' z s3 I3 rz rv => ⟨z, H2, I3, rv, q2 z rz⟩
end
/-! .. as data -/
section
variable {K : PySem.W.Frag} {w : World} {ρ : Rho} {td ty tx : TE} {ks vs : List DV} {d dx v : DV}
theorem ev_get1X (h : EvD K td ρ (.dct w ks vs)) (h2 : EvD K ty ρ d) (hk : d.isKeyD = true) : EvD K (tGet1X K w td ty) ρ ((dlook ks vs d).getD .non) := fun H0 σ S H e n Q q =>
  h H0 σ S H e n _ fun x S1 H1 g1 r1 => by
    obtain ⟨p, ex, g⟩ := dct_at g1.sub r1
    refine ⟨p, ex, ⟨S1, ks, vs, g1.sub, g⟩, h2 H0 σ S1 H1 g1.sub (n.go g1) _ fun y S2 H2 g2 r2 => ⟨S2, ks, vs, d, g2.sub, ?_, hk, r2, fun z rz => q z S2 H2 (g1.tr g2) rz⟩⟩
    exact g.up g2.s fun o z => g2.h _ _ z
/-- a comprehension: the pairs put in, from the left -/
def dputs (p : DV → Bool) (fk fv : DV → DV) : List DV → List DV × List DV → List DV × List DV
  | [], a => a
  | d :: ds, a => dputs p fk fv ds (if p d = true then dput a.1 a.2 (fk d) (fv d) else a)
theorem dputs_snoc {p : DV → Bool} {fk fv : DV → DV} : ∀ {ds : List DV} {a : List DV × List DV} {d : DV}, dputs p fk fv (ds ++ [d]) a = (if p d = true then dput (dputs p fk fv ds a).1 (dputs p fk fv ds a).2 (fk d) (fv d) else dputs p fk fv ds a)
  | [], a, d => rfl
  | _ :: ds, a, d => dputs_snoc (ds := ds)
theorem ev_dcX {wi : TI} {g : TG} {tt : TT} {tk tv : TE} {is vs : List Nat} {ds : List DV} (hi : IvD K wi ρ ds) (hlen : ds.length ≤ 50000) (his : ∀ j ∈ is, j ∈ vs) (ρ1 : DV → Rho) (p : DV → Bool) (fk fv : DV → DV)
    (hg : ∀ d ∈ ds, TgD K g is d (wipeR ρ vs) (ρ1 d)) (ht : ∀ d ∈ ds, EvB K tt (ρ1 d) (p d)) (hk : ∀ d ∈ ds, p d = true → EvD K tk (ρ1 d) (fk d) ∧ (fk d).isKeyD = true) (hv : ∀ d ∈ ds, p d = true → EvD K tv (ρ1 d) (fv d)) :
    EvD K (tDcX K w wi g tt tk tv vs) ρ (.dct w (dputs p fk fv ds ([], [])).1 (dputs p fk fv ds ([], [])).2) := fun H0 σ S H e n Q q =>
  hi H0 σ S H e n _ fun J S1 H1 g1 w1 => fun D hD => by
    have hDH : H D = none := g1.h.free hD
    refine ⟨fun i m H2 => m = ds.length - i ∧ i ≤ ds.length ∧ ∃ S2 es, Go S1 H1 S2 H2 ∧ S2 D = none ∧ H2 D = some (DxO D es) ∧ RpD K S2 w es (dputs p fk fv (ds.take i) ([], [])).1 (dputs p fk fv (ds.take i) ([], [])).2 ∧ (nkAll (dputs p fk fv (ds.take i) ([], [])).1).Nodup ∧ (dputs p fk fv (ds.take i) ([], [])).1.length ≤ i,
      ⟨_, rfl, Nat.zero_le _, S1, [], Go.side g1.sub (Ex.new hD), g1.sub.free hD, upd_same, .nil, List.nodup_nil, Nat.le_refl _⟩, ?_⟩
    rintro i m H2 ⟨rfl, hile, S2, es, g2, nD, hD2, ra, nd, few⟩
    by_cases hlt : i < ds.length
    · have hdi : ds[i]? = some ds[i] := List.getElem?_eq_getElem hlt
      have hmem : ds[i] ∈ ds := List.getElem_mem hlt
      have tk1 := take_more hdi
      refine .inr ⟨w1.go i H2 (g2.s.tr g2.sub) hlt, fun H' => ∃ S3 es, Go S1 H1 S3 H' ∧ S3 D = none ∧ H' D = some (DxO D es) ∧ RpD K S3 w es (dputs p fk fv (ds.take (i + 1)) ([], [])).1 (dputs p fk fv (ds.take (i + 1)) ([], [])).2 ∧ (nkAll (dputs p fk fv (ds.take (i + 1)) ([], [])).1).Nodup ∧ (dputs p fk fv (ds.take (i + 1)) ([], [])).1.length ≤ i + 1,
        fun H' ⟨S3, es', a, b, c, d, l, k⟩ => ⟨ds.length - (i + 1), by omega, rfl, hlt, S3, es', a, b, c, d, l, k⟩, fun x H' y => ?_⟩
      obtain ⟨S3, g3, rx⟩ := w1.yld i H2 x H' y _ hdi S2 g2.s g2.sub
      have n3 := (((n.go g1).go g2).go g3).wipe vs
      refine hg _ hmem H0 (wipe σ vs) S3 H' x g3.sub n3 rx _ fun σ2 n2 l2 f2 => ⟨wipe_eq l2 f2 his, ?_⟩
      refine ht _ hmem H0 σ2 S3 H' g3.sub n2 _ fun S4 H4 g4 => ?_
      have hD4 : H4 D = some (DxO D es) := g4.h _ _ (g3.h _ _ hD2)
      have nD4 : S4 D = none := (g3.tr g4).off nD hD2
      rw [tk1, dputs_snoc]
      cases hp : p ds[i] with
      | true =>
        obtain ⟨hk1, hk2⟩ := hk _ hmem hp
        have hll := ra.len
        rw [if_pos rfl, if_pos rfl]
        refine hk1 H0 σ2 S4 H4 g4.sub (n2.go g4) _ fun y S5 H5 g5 r5 => hv _ hmem hp H0 σ2 S5 H5 g5.sub ((n2.go g4).go g5) _ fun z S6 H6 g6 r6 => ?_
        have hD6 : H6 D = some (DxO D es) := g6.h _ _ (g5.h _ _ hD4)
        have nD6 : S6 D = none := (g5.tr g6).off nD4 hD4
        refine ⟨S6, _, _, fk ds[i], fv ds[i], g6.sub, ⟨es, hD6, (((ra.up g3.s).up g4.s).up g5.s).up g6.s, nd⟩, by omega, hk2, r5.up g6.s, r6, fun es' rd => ⟨S6, es', ?_, nD6, upd_same, rd, dput_nodup hll.2.symm nd, ?_⟩⟩
        · exact (g2.tr ((g3.tr g4).tr (g5.tr g6))).chg nD6 hD
        · have := (dput_len _ _ (fk ds[i]) (fv ds[i]) hll.2.symm).2
          omega
      | false =>
        rw [if_neg (by decide), if_neg (by decide)]
        exact ⟨S4, es, g2.tr (g3.tr g4), nD4, hD4, (ra.up g3.s).up g4.s, nd, by omega⟩
    · have e' : i = ds.length := by omega
      subst e'
      rw [List.take_length] at ra nd
      refine .inl ⟨w1.stop H2 (g2.s.tr g2.sub), es, hD2, fun od => ?_⟩
      have g9 : Go S H S2 (upd H2 D (.frz od (DxO D es))) := (g1.tr g2).chg nD hDH
      exact q _ _ _ (g9.frz nD hDH upd_same) (.dct upd_same (ra.up (Ex.new nD)) nd)
end
end PD

/-! Dicts made: {}, {k: v}, dict(zip(a, b)); list(d). -/
namespace PD
open PySem PySem.Spec PyProof.Rows L2 MX
section
variable {X : Cx} {pos p p2 pos2 : Pos}
end
end PD

/-! dict(zip(a, b)), a a list of tuples that are keys. -/
namespace PD
open PySem PySem.Spec PyProof.Rows L2 MX
section
variable {K : PySem.W.Frag} {S : Hp}
end
end PD

/-! Dicts: the rules by syntax. -/
namespace PD
open PySem PySem.Spec PyProof.Rows L2 MX
section
variable {g : Gb} {l : Lc} {ρ : Rho} {a b e f x y kx vx tg iter : Expr} {ifs : List Expr} {pos p p2 pos2 apos cpos : Pos} {ks vs : List DV} {d dx v : DV} {scope : Scope} {own : List (Str × Nat)} {ds : List DV}
theorem Of.u16 {X : Cx} (o : Of g l X) : X.A.units + 16 < cLine := by have := o.u64; omega
theorem de_dget1 (hk : d.isKeyD = true) (ha : DE g l a ρ (.dct g.w ks vs)) (he : DE g l e ρ d) (m : ∀ X, Of g l X → M1 X a "get" apos e cpos := by exact fun _ _ => ⟨rfl, rfl, rfl, rfl⟩) : DE g l (.Call (.Attribute a "get" apos) [e] [] cpos) ρ ((dlook ks vs d).getD .non) :=
  DE.by _ (fun X o => by have := pe_get1X o.u16 (UE.pe o a) (UE.pe o e) (m X o); rw [o.K, o.w] at this; exact this) (ev_get1X ha he hk)
/-- {k: v for tg in iter if ..} -/
def rD (g : Gb) (l : Lc) (kx vx tg iter : Expr) (ifs : List Expr) (scope : Scope) (own : List (Str × Nat)) : TE := tDcX g.K g.w (UI g l tg iter) (UG g (inn l scope) tg) (UTs g (inn l scope) ifs) (UE g (inn l scope) kx) (UE g (inn l scope) vx) (own.map (·.2))
theorem rD.pe {X : Cx} (o : Of g l X) (nd : l.N.Nodup) (ok : blkC l.N l.sc scope own = true) (hs : ∀ env x, foldedSetIterable iter env x = pure x) (hcl : l.cb = true := by rfl) : PE X (.DictComp kx vx [⟨tg, iter, ifs, 0⟩] scope pos) (rD g l kx vx tg iter ifs scope own) := by
  have := pe_dcX (pos := pos) (own := own) (kx := kx) (vx := vx) o.u16 (o.calm hcl) (by rw [o.N]; exact nd) (UI.pi o tg iter) (blkOk_by (by rw [o.N, o.sc]; exact ok))
    ⟨fun s H fp => UG.pg (o.blk scope s H _ _ fp) tg, fun s H fp => UTs.pts (o.blk scope s H _ _ fp) ifs, fun s H fp => UE.pe (o.blk scope s H _ _ fp) kx, fun s H fp => UE.pe (o.blk scope s H _ _ fp) vx⟩ (hs _)
  rw [o.K, o.w] at this
  exact this
theorem de_dc {is : List Nat} (nd : l.N.Nodup) (ok : blkC l.N l.sc scope own = true) (hi : DI g l tg iter ρ ds) (hlen : ds.length ≤ 50000) (his : ∀ j ∈ is, j ∈ own.map (·.2)) (ρ1 : DV → Rho) (p : DV → Bool) (fk fv : DV → DV)
    (hg : ∀ d ∈ ds, DG g (inn l scope) tg is d (wipeR ρ (own.map (·.2))) (ρ1 d)) (ht : ∀ d ∈ ds, DTs g (inn l scope) ifs (ρ1 d) (p d)) (hk : ∀ d ∈ ds, p d = true → DE g (inn l scope) kx (ρ1 d) (fk d) ∧ (fk d).isKeyD = true) (hv : ∀ d ∈ ds, p d = true → DE g (inn l scope) vx (ρ1 d) (fv d))
    (hs : ∀ env x, foldedSetIterable iter env x = pure x := by intro _ _; rfl) (hcl : l.cb = true := by rfl) : DE g l (.DictComp kx vx [⟨tg, iter, ifs, 0⟩] scope pos) ρ (.dct g.w (dputs p fk fv ds ([], [])).1 (dputs p fk fv ds ([], [])).2) :=
  DE.by _ (fun X o => rD.pe (hcl := hcl) o nd ok hs) (ev_dcX hi hlen his ρ1 p fk fv (fun d hd => (hg d hd).tg) ht hk hv)
end
end PD

/-! A text replaced by each item of a list whose texts' identities are known: {x: y.replace(G, x) for x in ..}. -/
namespace PD
open PySem PySem.Spec PyProof.Rows L2 MX
open Sem (wp)
section
variable {X : Cx} {pins : List (Addr × Obj)} {σ : L2.St} {H : Hp} {s : Shared}
end
section
variable {X : Cx} {iter : Expr} {scope : Scope} {own : List (Str × Nat)} {x y G : Str} {ix j : Nat} {c : Str} {tc : Tok} {ti : TE} {px py pg pk pt apos cpos pos : Pos}
end
end PD

/-! The same by syntax; dicts whose keys are unlike. -/
namespace PD
open PySem PySem.Spec PyProof.Rows L2 MX
section
variable {g : Gb} {l : Lc} {ρ : Rho} {iter : Expr} {scope : Scope} {own : List (Str × Nat)} {x y G : Str} {ix j n : Nat} {c q : Str} {zs : List Str} {tc : Tok} {px py pg pk pt apos cpos pos : Pos}
/-! unlike keys -/
theorem dput_new : ∀ {ks vs : List DV} {d x : DV}, ks.length = vs.length → d.nk ∉ nkAll ks → dput ks vs d x = (ks ++ [d], vs ++ [x])
  | [], [], d, x, _, _ => rfl
  | [], _ :: _, _, _, h, _ => by cases h
  | _ :: _, [], _, _, h, _ => by cases h
  | k :: ks, v :: vs, d, x, h, n => by
    have n1 : ¬ k.nk = d.nk := fun e => n (by show d.nk ∈ k.nk :: nkAll ks; rw [e]; exact List.mem_cons_self ..)
    have n2 : d.nk ∉ nkAll ks := fun e => n (by show d.nk ∈ k.nk :: nkAll ks; exact List.mem_cons_of_mem _ e)
    show (if k.nk = d.nk then (k :: ks, x :: vs) else (k :: (dput ks vs d x).1, v :: (dput ks vs d x).2)) = _
    rw [if_neg n1, dput_new (by simpa using h) n2]
    rfl
theorem nkAll_map : ∀ ds : List DV, nkAll ds = ds.map DV.nk
  | [] => by simp [nkAll]
  | d :: ds => by rw [nkAll, nkAll_map ds]; rfl
theorem dputs_all {fk fv : DV → DV} : ∀ (ds ks vs : List DV), ks.length = vs.length → (nkAll (ks ++ ds.map fk)).Nodup → dputs (fun _ => true) fk fv ds (ks, vs) = (ks ++ ds.map fk, vs ++ ds.map fv)
  | [], ks, vs, _, _ => by rw [List.map_nil, List.map_nil, List.append_nil, List.append_nil]; rfl
  | d :: ds, ks, vs, h, nd => by
    have n1 : (fk d).nk ∉ nkAll ks := by
      rw [nkAll_map, List.map_append, List.nodup_append] at nd
      rw [nkAll_map]
      exact fun e => nd.2.2 _ e _ (by rw [List.map_cons, List.map_cons]; exact List.mem_cons_self ..) rfl
    show dputs (fun _ => true) fk fv ds (if true = true then dput ks vs (fk d) (fv d) else (ks, vs)) = _
    rw [if_pos rfl, dput_new h n1, dputs_all ds _ _ (by simp [h]) (by rw [List.append_assoc]; exact nd), List.append_assoc, List.append_assoc]
    rfl
end
end PD

/-! One's own list of texts whose identities are all from n on. -/
namespace PD
open PySem PySem.Spec PyProof.Rows L2
section
variable {X : Cx} {pins : List (Addr × Obj)} {σ : L2.St} {H : Hp} {s : Shared} {p : Addr} {n : Nat} {zs : List Str}
end
end PD

/-! [c + d for c in zs for d in ys], texts whose identities are from n on. -/
namespace PD
open PySem PySem.Spec PyProof.Rows L2
section
variable {X : Cx} {scope : Scope} {own : List (Str × Nat)} {c d : Str} {ic id n : Nat} {p1 p2 p3 p4 p5 p6 p7 pos : Pos} {iter0 : Expr} {it2 : Str}
end
end PD

namespace PD
open PySem PySem.Spec PyProof.Rows L2
section
variable {X : Cx} {pins : List (Addr × Obj)} {σ : L2.St} {H : Hp} {s : Shared} {p : Addr} {n : Nat} {zs : List Str}
end
end PD

/-! Statements from states in which at least n identities have been given out. -/
namespace PD
open PySem PySem.Spec PyProof.Rows L2
theorem thnN {α : Type} {t : Sem α} {Q Q' : α → Shared → Prop} {M : Model} {A : Around} {E : Value → Shared → Prop} {s : Shared} {n : Nat} (hn : n ≤ s.toks) (h : wpAny M A t Q E s) (k : ∀ a s', n ≤ s'.toks → Q a s' → Q' a s') : wpAny M A t Q' E s :=
  wpAny_mono (wpAny_toks_of hn h) (fun a s' q => k a s' q.1 q.2) fun _ _ q => q.2
structure SN (X : Cx) (n : Nat) (st : Stmt) (t : TS) : Prop where
  run : ∀ (pins : List (Addr × Obj)) (s : Shared) (σ : L2.St) (H : Hp) (D : Ends), n ≤ s.toks → Inv X pins σ H s → t D σ H → wpAny (model X.prog X.w) X.A (exec st X.env) (SP X pins D) X.xe s
structure SsN (X : Cx) (n : Nat) (sts : List Stmt) (t : TS) : Prop where
  run : ∀ (pins : List (Addr × Obj)) (s : Shared) (σ : L2.St) (H : Hp) (D : Ends), n ≤ s.toks → Inv X pins σ H s → t D σ H → wpAny (model X.prog X.w) X.A (execs sts X.env) (SP X pins D) X.xe s
section
variable {X : Cx} {n : Nat} {st : Stmt} {rest : List Stmt} {t u : TS}
theorem SN.of (h : PS X st t) : SN X n st t := ⟨fun pins s σ H D _ I q => h.run pins s σ H D I q⟩
theorem SsN.of (h : PSs X rest t) : SsN X n rest t := ⟨fun pins s σ H D _ I q => h.run pins s σ H D I q⟩
theorem sn_cons (a : SN X n st t) (b : SsN X n rest u) : SsN X n (st :: rest) (tSeq t u) := ⟨fun pins s σ H D ht I q =>
  wpAny_execs_cons (thnN ht (a.run pins s σ H { D with nx := u D } ht I q) fun f s1 ht1 w => by
    cases f with
    | next =>
      obtain ⟨σ1, H1, I1, q1⟩ := w
      exact b.run pins s1 σ1 H1 D ht1 I1 q1
    | ret v => exact w
    | brk => exact w
    | cont => exact w)⟩
/-- for, the bound kept -/
theorem sn_for {tg iter : Expr} {body : List Stmt} {wi : TI} {g : TG} {tb : TS} {pos : Pos} (hp : PassesOwn (model X.prog X.w) X.A X.env X.xe) (hc : X.calm = true) (hi : PI X tg iter wi) (hg : PG X tg g) (hb : SsN X n body tb) (hs : ∀ x, foldedSetIterable iter X.env x = pure x := by intro _; rfl) :
    SN X n (.For tg iter body [] pos) (tFor wi g tb) := by
  refine ⟨fun pins s σ H D ht I h => ?_⟩
  refine wpAny_For (thnN ht (hi.run pins s σ H _ I h) fun v s1 ht1 w1 => thnN ht1 w1 fun itv s2 ht2 w2 => ?_) hs
  obtain ⟨it, fp, tn, J, H2, rfl, I2, T, st2, free2, W, ⟨m0, w0⟩, turn⟩ := w2
  have mine : ∀ {H' : Hp}, (∀ b ∈ fp, H' b = none) → ∀ b ∈ fp, FpOk X pins H' b := fun z b hb => ⟨z b hb, (free2 b hb).2⟩
  refine codeAny_forLoop_any (fun m s' => n ≤ s'.toks ∧ ∃ i σ' H', Inv X pins σ' H' s' ∧ tn i s'.heap ∧ (∀ b ∈ fp, H' b = none) ∧ W i m σ' H') (fun m s3 ⟨ht3, i, σ3, H3, I3, st3, z3, w3⟩ => ?_) m0 ⟨ht2, 0, σ, H2, I2, st2, fun b hb => (free2 b hb).1, w0⟩
  rcases turn i m σ3 H3 w3 with ⟨stop, qn⟩ | ⟨go, Nx, hNx, step⟩
  · refine wpAny_passesOwn hp (thnN ht3 (T.done X rfl rfl rfl hc i pins s3 σ3 H3 X.xe I3 (mine z3) st3 stop) fun r s4 ht4 ⟨er, I4⟩ => ?_)
    subst er
    exact wpAny_execs_nil ⟨σ3, H3, I4, qn⟩
  · refine wpAny_passesOwn hp (thnN ht3 (T.item X rfl rfl rfl hc i pins s3 σ3 H3 X.xe I3 (mine z3) st3 go) fun r s4 ht4 ⟨u, er, w4⟩ => ?_)
    subst er
    refine wpAny_passesOwn hp (thnN ht4 w4 fun _ s5 ht5 ⟨x, H5, I5, r5, y5, st5, z5⟩ => ?_)
    refine wpAny_passesOwn hp (thnN ht5 (hg.run _ s5 σ3 H5 x u _ (I5.pinned (mine z5) (T.obj _ _ st5)) r5 (step x H5 y5)) fun _ s6 ht6 ⟨σ6, H6, I6, q6⟩ => ?_)
    refine wpAny_passesOwn hp (thnN ht6 (hb.run _ s6 σ6 H6 _ ht6 I6 q6) fun f s7 ht7 q7 => ?_)
    have over : ∀ {σ7 : L2.St} {H7 : Hp}, Inv X (pins ++ pinsAt fp s5.heap) σ7 H7 s7 → Nx σ7 H7 → ∃ k, k < m ∧ n ≤ s7.toks ∧ ∃ i σ' H', Inv X pins σ' H' s7 ∧ tn i s7.heap ∧ (∀ b ∈ fp, H' b = none) ∧ W i k σ' H' := fun {σ7 H7} I7 n7 => by
      obtain ⟨k, hk, w7⟩ := hNx σ7 H7 n7
      have kept : ∀ b ∈ fp, ∀ o, s5.heap.get? b = some o → s7.heap.get? b = some o ∧ H7 b = none := fun b hb o e =>
        let z := I7.pin (b, o) (List.mem_append_right _ (List.mem_append_right _ (mem_pinsAt hb e)))
        ⟨z.1, z.2.1⟩
      exact ⟨k, hk, ht7, i + 1, σ7, H7, I7.unpinned, T.keep _ _ _ st5 fun b hb o e => (kept b hb o e).1, fun b hb => let ⟨o, e, _⟩ := T.obj _ _ st5 b hb; (kept b hb o e).2, w7⟩
    cases f with
    | next => obtain ⟨σ7, H7, I7, n7⟩ := q7; exact over I7 n7
    | cont => obtain ⟨σ7, H7, I7, n7⟩ := q7; exact over I7 n7
    | brk => obtain ⟨σ7, H7, I7, q7⟩ := q7; exact ⟨σ7, H7, I7.unpinned, q7⟩
    | ret v => obtain ⟨x7, σ7, H7, I7, r7, q7⟩ := q7; exact ⟨x7, σ7, H7, I7.unpinned, r7, q7⟩
end
end PD

namespace SP
open PySem PySem.Spec PyProof.Rows L2 PD
/-- the module's numbers -/
structure Cs (g : Gb) : Prop where
  pl : ∃ t, g.mg "PIECE_LETTERS" = some (.int 2 t)
  ob : ∃ t, g.mg "ORDER_BLOCKS" = some (.int 3 t)
variable {g : Gb}
theorem scNumber : FnScope ["value"] ["value"] (defScope sNumber) := ⟨rfl, rfl, rfl, by decide +kernel, rfl, by decide +kernel, by decide +kernel⟩
def R_number : List DV → DV → Prop := fun ds d => ∃ v, ds = [v] ∧ v.isObj = false ∧ d = .bl (isNum v)
theorem ok_number (B : Bt g) {f : Addr} {fd : FuncData} (F : Fun g.K "is_number" "is_number" sNumber f fd) : FnOk g.P g.w g.K g.mg g.base CX0 1 f fd ["value"] (spR g.K R_number) := by
  refine fn_ok F scNumber (fun ds d ⟨v, e, _⟩ => by rw [e]; rfl) fun ds d ⟨v, e, hk, ed⟩ => ?_
  subst e ed
  refine dss_one (ds_ret (de_and (de_isInt B hk (de_v 0)) fun _ => de_one (de_not (de_isBool B hk (de_v 0)))) ?_)
  cases v <;> rfl
theorem scWord : FnScope ["letters", "most", "value", "letter"] ["letters", "most", "value"] (defScope sWord) := ⟨rfl, rfl, rfl, by decide +kernel, rfl, by decide +kernel, by decide +kernel⟩
def R_word : List DV → DV → Prop := fun ds d => ∃ (ls : Str) (m : Nat) (v : DV), ds = [.str ls, .int m, v] ∧ fit v = true ∧ d = .bl (isWord ls m v)
theorem ok_word (B : Bt g) {f : Addr} {fd : FuncData} (F : Fun g.K "is_word" "is_word" sWord f fd) : FnOk g.P g.w g.K g.mg g.base CX0 1 f fd ["letters", "most", "value"] (spR g.K R_word) := by
  refine fn_ok F scWord (fun ds d ⟨ls, m, v, e, _⟩ => by rw [e]; rfl) fun ds d ⟨ls, m, v, e, hf, ed⟩ => ?_
  subst e ed
  have hk := fit_obj hf
  cases v with
  | str z =>
    have hz := fit_str hf
    refine dss_one (ds_ret (de_and (x := true) (de_isStr B hk (de_v 2)) fun _ => de_and (de_leI (de_lenS B.len hz (de_v 2)) (de_v 1)) fun _ => de_one (de_all (bs := z.cps.toList.map (codeOk ls)) B.all (DE.is (dl_rL (own := [("letter", 3)]) scWord.nd (by decide +kernel) (rL.ev (is := [3]) (di_s (de_v 2)) ?_ (by decide)
      (fun d => [.val (.str ls), .val (.int m), .val (.str z), .val d]) (fun _ => true) (fun d => match d with | .str x => .bl (codeOk ls x.cps[0]!) | _ => .non) (fun d hd => dg_n 3 scWord.nd) (fun d hd => dts_nil) (fun d hd _ => ?_))).de ?_))) ?_)
    · unfold signD
      rw [List.length_map, Array.length_toList]
      exact hz
    · unfold signD at hd
      rw [List.mem_map] at hd
      obtain ⟨c, hc, rfl⟩ := hd
      exact de_inSign (de_v 3) (de_v 0)
    · unfold signD
      rw [filt, List.map_map, List.map_map]
      rfl
    · show DV.bl _ = DV.bl _
      congr 1
      show (true && (decide ((z.length : Int) ≤ (m : Int)) && ((z.cps.toList.map (codeOk ls)).all id))) = wordOk ls m z
      unfold wordOk
      rw [List.all_map, Bool.true_and]
      congr 1
      exact decide_eq_decide.mpr (by omega)
  | _ => exact dss_one (ds_ret (de_and (x := false) (y := true) (de_isStr B hk (de_v 2)) fun z => by cases z) rfl)
theorem scPiece : FnScope ["letters", "value"] ["letters", "value"] (defScope sPiece) := ⟨rfl, rfl, rfl, by decide +kernel, rfl, by decide +kernel, by decide +kernel⟩
def R_piece : List DV → DV → Prop := fun ds d => ∃ (ls : Str) (v : DV), ds = [.str ls, v] ∧ fit v = true ∧ d = .bl (isWord ls 2 v)
theorem ok_piece (C : Cs g) (W : Fn g 1 "is_word" R_word) {f : Addr} {fd : FuncData} (F : Fun g.K "is_piece" "is_piece" sPiece f fd) : FnOk g.P g.w g.K g.mg g.base CX0 2 f fd ["letters", "value"] (spR g.K R_piece) := by
  refine fn_ok F scPiece (fun ds d ⟨ls, v, e, _⟩ => by rw [e]; rfl) fun ds d ⟨ls, v, e, hf, ed⟩ => ?_
  subst e ed
  obtain ⟨t, ht⟩ := C.pl
  exact dss_one (ds_ret (de_call W (da_cons (de_v 0) (da_cons (de_gl (v := .int 2) ht ⟨t, rfl⟩ fun S => .int 2) (da_cons (de_v 1) da_nil))) ⟨ls, 2, v, rfl, hf, rfl⟩) rfl)
theorem scBlock : FnScope ["blocks", "value"] ["blocks", "value"] (defScope sBlock) := ⟨rfl, rfl, rfl, by decide +kernel, rfl, by decide +kernel, by decide +kernel⟩
def R_block : List DV → DV → Prop := fun ds d => ∃ (n : Nat) (v : DV), ds = [.int n, v] ∧ fit v = true ∧ d = .bl (isBlock n v)
theorem ok_block (N : Fn g 1 "is_number" R_number) {f : Addr} {fd : FuncData} (F : Fun g.K "is_block" "is_block" sBlock f fd) : FnOk g.P g.w g.K g.mg g.base CX0 2 f fd ["blocks", "value"] (spR g.K R_block) := by
  refine fn_ok F scBlock (fun ds d ⟨n, v, e, _⟩ => by rw [e]; rfl) fun ds d ⟨n, v, e, hf, ed⟩ => ?_
  subst e ed
  have hk := fit_obj hf
  cases v with
  | int i => exact dss_one (ds_ret (de_and (x := true) (de_call N (da_cons (de_v 1) da_nil) ⟨_, rfl, hk, rfl⟩) fun _ => de_one (de_leLt de_int (de_v 1) (de_v 0))) rfl)
  | _ => exact dss_one (ds_ret (de_and (x := false) (y := true) (de_call N (da_cons (de_v 1) da_nil) ⟨_, rfl, hk, rfl⟩) fun z => by cases z) rfl)
theorem scOrder : FnScope ["blocks", "value", "block"] ["blocks", "value"] (defScope sOrder) := ⟨rfl, rfl, rfl, by decide +kernel, rfl, by decide +kernel, by decide +kernel⟩
def R_order : List DV → DV → Prop := fun ds d => ∃ (n : Nat) (v : DV), ds = [.int n, v] ∧ fit v = true ∧ d = .bl (isOrder n v)
theorem ok_order (B : Bt g) (C : Cs g) (Bl : Fn g 2 "is_block" R_block) {f : Addr} {fd : FuncData} (F : Fun g.K "is_order" "is_order" sOrder f fd) : FnOk g.P g.w g.K g.mg g.base CX0 3 f fd ["blocks", "value"] (spR g.K R_order) := by
  refine fn_ok F scOrder (fun ds d ⟨n, v, e, _⟩ => by rw [e]; rfl) fun ds d ⟨n, v, e, hf, ed⟩ => ?_
  subst e ed
  have hk := fit_obj hf
  obtain ⟨t, ht⟩ := C.ob
  cases v with
  | tup xs =>
    obtain ⟨hl, hfs⟩ := fit_tup hf
    refine dss_cons (ds_if (x := decide (3 < xs.length)) (DT.is (dt_w (dw_or (dt_not (dt_e (de_isTup B hk (de_v 1)))) fun _ => dw_or1 (dt_gtI (de_len B.len rfl (de_v 1)) (de_gl (v := .int 3) ht ⟨t, rfl⟩ fun S => .int 3)))) ?_) (fun h => dss_one (ds_ret de_bl ?_)) fun h => dss_nil ?_)
    · show (false || decide ((3 : Int) < (xs.length : Int))) = _
      rw [Bool.false_or]
      exact decide_eq_decide.mpr (by omega)
    · have := of_decide_eq_true h
      show DV.bl false = .bl (decide (xs.length ≤ 3) && _)
      rw [decide_eq_false (by omega)]
      rfl
    · refine dss_one (ds_ret (de_all (bs := xs.map (isBlock n)) B.all (DE.is (dl_rL (own := [("block", 2)]) scOrder.nd (by decide +kernel) (rL.ev (is := [2]) (di_t (de_v 1)) hl (by decide)
        (fun d => [.val (.int n), .val (.tup xs), .val d]) (fun _ => true) (fun d => .bl (isBlock n d)) (fun d hd => dg_n 2 scOrder.nd) (fun d hd => dts_nil) (fun d hd _ => de_call Bl (da_cons (de_v 0) (da_cons (de_v 2) da_nil)) ⟨n, d, rfl, fits_mem hfs hd, rfl⟩))).de ?_)) ?_)
      · rw [filt, List.map_map]
        rfl
      · have := of_decide_eq_false h
        show DV.bl _ = .bl (decide (xs.length ≤ 3) && _)
        rw [decide_eq_true (by omega), List.all_map]
        rfl
  | _ => exact dss_cons (ds_if (x := true) (dt_w (dw_or (x := true) (y := true) (dt_not (dt_e (de_isTup B hk (de_v 1)))) fun z => by cases z)) (fun h => dss_one (ds_ret de_bl rfl)) fun h => by cases h)
end SP

namespace SP
open PySem PySem.Spec PyProof.Rows L2 PD
variable {g : Gb}
theorem _root_.PD.EvL.is {K : PySem.W.Frag} {te : TE} {ρ : Rho} {ds ds' : List DV} (h : EvL K te ρ ds) (e : ds = ds') : EvL K te ρ ds' := by rw [← e]; exact h
theorem shortS_mono {m n : Nat} {d : DV} (h : m ≤ n) (q : shortS m d = true) : shortS n d = true := by
  cases d <;> first | cases q | exact decide_eq_true (Nat.le_trans (of_decide_eq_true q) h)
theorem shortT_mono {m n : Nat} {d : DV} (h : m ≤ n) (q : shortT m d = true) : shortT n d = true := by
  cases d <;> first | cases q | exact decide_eq_true (Nat.le_trans (of_decide_eq_true q) h)
/-- two letters an item -/
theorem nthS2 {e : DV} {is : List DV} (he : shortS 0 e = true) (hi : is.all (shortS 2) = true) : ∀ n, ∀ d ∈ nthC e is n, shortS (2 * n) d = true
  | 0, d, hd => by
    have : d = e := by simpa [nthC] using hd
    subst this
    exact he
  | n + 1, d, hd => by
    unfold nthC stepC at hd
    rw [List.mem_flatMap] at hd
    obtain ⟨c, hc, hd⟩ := hd
    rw [List.mem_map] at hd
    obtain ⟨i, hi', rfl⟩ := hd
    exact addS (m := 2 * n) (n := 2) (nthS2 he hi n c hc) (List.all_eq_true.mp hi i hi')
theorem scContents : FnScope ["empty", "items", "most", "found", "longest", "_", "content", "item"] ["empty", "items", "most"] (defScope sContents) := ⟨rfl, rfl, rfl, by decide +kernel, rfl, by decide +kernel, by decide +kernel⟩
def R_contents : List DV → DV → Prop := fun ds d => ∃ (e : DV) (is : List DV) (m : Nat), ds = [e, .lst is, .int m] ∧ m ≤ 3 ∧ is.length ≤ 4 ∧ ((shortS 0 e = true ∧ is.all (shortS 2) = true) ∨ (shortT 0 e = true ∧ is.all (shortT 1) = true)) ∧ d = .lst (contC e is m)
theorem de_addC {l : Lc} {ρ : Rho} {a b : Expr} {pos : Pos} {da db : DV} {m n : Nat} (hm : m + n ≤ 100000) (h : (shortS m da = true ∧ shortS n db = true) ∨ (shortT m da = true ∧ shortT n db = true)) (ha : DE g l a ρ da) (hb : DE g l b ρ db) : DE g l (.BinOp a .Add b pos) ρ (addD da db) := by
  rcases h with ⟨h1, h2⟩ | ⟨h1, h2⟩
  · cases da <;> first | cases h1 | skip
    cases db <;> first | cases h2 | skip
    have := of_decide_eq_true h1
    have := of_decide_eq_true h2
    exact de_addS (by omega) ha hb
  · cases da <;> first | cases h1 | skip
    cases db <;> first | cases h2 | skip
    have := of_decide_eq_true h1
    have := of_decide_eq_true h2
    exact de_catT (by omega) ha hb
theorem ok_contents (B : Bt g) {f : Addr} {fd : FuncData} (F : Fun g.K "contents" "contents" sContents f fd) : FnOk g.P g.w g.K g.mg g.base CX0 1 f fd ["empty", "items", "most"] (spR g.K R_contents) := by
  refine fn_ok F scContents (fun ds d ⟨e, is, m, q, _⟩ => by rw [q]; rfl) fun ds d ⟨e, is, m, q, hm, hi, hk, ed⟩ => ?_
  subst q ed
  refine dss_cons (ds_setL 3 scContents.nd (dl_lst (da_cons (de_v 0) da_nil)) (dss_cons (ds_set 4 scContents.nd (dl_lst (da_cons (de_v 0) da_nil)).de (dss_cons (ds_for (is := [5]) (di_r (n := m) B.range (by omega) (de_v 2))
    (fun i ρ => ∃ x5 : EV, ρ = [.val e, .val (.lst is), .val (.int m), .own (contC e is i), .val (.lst (nthC e is i)), x5, .un, .un]) ⟨_, rfl⟩ ?_ ?_)))))
  · rintro i d ρ hd ⟨x5, rfl⟩
    have hi' : i < m := by
      have := (List.getElem?_eq_some_iff.mp hd).1
      rwa [rangeD_len] at this
    refine ⟨_, dg_n 5 scContents.nd, dss_cons (ds_lc2V (own := [("content", 6), ("item", 7)]) (vs1 := [7]) 4 scContents.nd (by decide +kernel) (by decide) (ds := nthC e is (i + 1)) (el_only [0, 1, 2, 4] ?_) ?_)⟩
    · refine EvL.is (rL2.ev (is := [6]) (is1 := [7]) (ds := nthC e is i) (di_l (de_v 4)) (by decide) (by decide)
        (fun d => [.val e, .val (.lst is), .val (.int m), .un, .val (.lst (nthC e is i)), .un, .val d, .un]) (fun _ => true) (fun _ => is) (fun d c => [.val e, .val (.lst is), .val (.int m), .un, .val (.lst (nthC e is i)), .un, .val d, .val c]) (fun _ _ => true) addD
        (fun d hd => rfl) ?_ (fun d hd => dg_n 6 scContents.nd) (fun d hd => dts_nil) (fun d hd _ => di_l (de_v 1)) (fun d hd _ c hc => dg_n 7 scContents.nd) (fun d hd _ c hc => dts_nil) (fun d hd _ c hc _ => de_addC (m := 2 * i) (n := 2) (by omega) ?_ (de_v 6) (de_v 7))) ?_
      · rw [filt, filt]
        exact Nat.le_trans (nthC_le (e := e) hi (show i + 1 ≤ 3 by omega)) (by decide)
      · rcases hk with ⟨h1, h2⟩ | ⟨h1, h2⟩
        · exact .inl ⟨nthS2 h1 h2 i d hd, List.all_eq_true.mp h2 c hc⟩
        · exact .inr ⟨shortT_mono (by omega) (nthT h1 h2 i d hd), shortT_mono (by omega) (List.all_eq_true.mp h2 c hc)⟩
      · rw [filt, filt]
        rfl
    · refine dss_one (ds_extend 3 rfl (de_v 4) ?_ ⟨_, rfl⟩)
      have h1 := contC_le (e := e) hi (show i ≤ 3 by omega)
      have h2 := nthC_le (e := e) hi (show i + 1 ≤ 3 by omega)
      omega
  · rintro ρ ⟨x5, rfl⟩
    rw [rangeD_len]
    exact dss_freeze 3 rfl (dss_one (ds_ret (de_v 3) rfl))
theorem scAllPieces : FnScope ["letters"] ["letters"] (defScope sAllPieces) := ⟨rfl, rfl, rfl, by decide +kernel, rfl, by decide +kernel, by decide +kernel⟩
def R_allp : List DV → DV → Prop := fun ds d => ∃ ls : Str, letterSet ls ∧ ds = [.str ls] ∧ d = .lst (psD (piecesOf ls))
theorem ok_allp (B : Bt g) (C : Cs g) (Co : Fn g 1 "contents" R_contents) {f : Addr} {fd : FuncData} (F : Fun g.K "all_pieces" "all_pieces" sAllPieces f fd) : FnOk g.P g.w g.K g.mg g.base CX0 2 f fd ["letters"] (spR g.K R_allp) := by
  refine fn_ok F scAllPieces (fun ds d ⟨ls, _, e, _⟩ => by rw [e]; rfl) fun ds d ⟨ls, hls, e, ed⟩ => ?_
  subst e ed
  obtain ⟨t, ht⟩ := C.pl
  have hz : ls.length ≤ 100000 := by rcases hls with rfl | rfl <;> decide
  refine dss_one (ds_ret (de_call Co (da_cons de_str (da_cons (de_listS B.list hz (de_v 0)) (da_cons (de_gl (v := .int 2) ht ⟨t, rfl⟩ fun S => .int 2) da_nil))) ⟨.str ⟨#[]⟩, signD ls, 2, rfl, by decide, ?_, .inl ⟨rfl, ?_⟩, rfl⟩) ?_)
  · rw [signD_ones, psD_len]
    exact Nat.le_trans (onesS_len hls) (by decide)
  · rw [signD_ones]
    rw [List.all_eq_true]
    exact fun d hd => shortS_mono (by omega) (List.all_eq_true.mp (shortS_ones ls) d hd)
  · show DV.lst _ = DV.lst _
    rw [signD_ones, cont_pieces]
theorem scAllOrders : FnScope ["blocks", "block"] ["blocks"] (defScope sAllOrders) := ⟨rfl, rfl, rfl, by decide +kernel, rfl, by decide +kernel, by decide +kernel⟩
def R_allo : List DV → DV → Prop := fun ds d => ∃ n : Nat, n ≤ 4 ∧ ds = [.int n] ∧ d = .lst ((ordersOf n).map oD)
theorem ok_allo (B : Bt g) (C : Cs g) (Co : Fn g 1 "contents" R_contents) {f : Addr} {fd : FuncData} (F : Fun g.K "all_orders" "all_orders" sAllOrders f fd) : FnOk g.P g.w g.K g.mg g.base CX0 2 f fd ["blocks"] (spR g.K R_allo) := by
  refine fn_ok F scAllOrders (fun ds d ⟨n, _, e, _⟩ => by rw [e]; rfl) fun ds d ⟨n, hn, e, ed⟩ => ?_
  subst e ed
  obtain ⟨t, ht⟩ := C.ob
  have e1 : (rangeD 0 n).map (fun d => DV.tup [d]) = (onesO n).map oD := by
    unfold rangeD onesO
    rw [List.map_map, List.map_map]
    refine List.map_congr_left fun i _ => ?_
    show DV.tup [.int (0 + (i : Int))] = DV.tup [.int (i : Int)]
    rw [Int.zero_add]
  refine dss_one (ds_ret (de_call Co (da_cons (de_tup da_nil) (da_cons (DE.is (dl_rL (own := [("block", 1)]) scAllOrders.nd (by decide +kernel) (rL.ev (is := [1]) (di_r B.range (by omega) (de_v 0)) (by rw [rangeD_len]; omega) (by decide)
    (fun d => [.val (.int n), .val d]) (fun _ => true) (fun d => .tup [d]) (fun d hd => dg_n 1 scAllOrders.nd) (fun d hd => dts_nil) (fun d hd _ => de_tup (da_cons (de_v 1) da_nil)))).de (congrArg DV.lst ((congrArg (List.map _) (filt _)).trans e1))) (da_cons (de_gl (v := .int 3) ht ⟨t, rfl⟩ fun S => .int 3) da_nil))) ⟨oD [], (onesO n).map oD, 3, rfl, by decide, ?_, .inr ⟨rfl, shortT_ones n⟩, rfl⟩) ?_)
  · unfold onesO
    rw [List.length_map, List.length_map, List.length_range]
    exact hn
  · show DV.lst _ = DV.lst _
    rw [cont_orders]
def wrsD (ws : List Wr) : DV := .lst (ws.map Wr.d)
/-- every write, also those that change nothing -/
def everyOf (ls : Str) (n : Nat) : List Wr := ((List.range n).flatMap fun b => (piecesOf ls).map (Wr.piece b)) ++ (ordersOf n).map Wr.order
def everyWr (d c : DV) : DV := .tup [.str "piece", d, c]
theorem every_pieces (ls : Str) (n : Nat) : ((rangeD 0 n).flatMap fun d => (psD (piecesOf ls)).map (everyWr d)) = ((List.range n).flatMap fun b => (piecesOf ls).map (Wr.piece b)).map Wr.d := by
  unfold rangeD
  rw [List.flatMap_map, List.map_flatMap]
  congr 1
  funext b
  unfold psD
  rw [List.map_map, List.map_map]
  refine List.map_congr_left fun p _ => ?_
  show DV.tup [.str "piece", .int (0 + (b : Int)), .str p] = DV.tup [.str "piece", .int (b : Int), .str p]
  rw [Int.zero_add]
theorem every_len1 {ls : Str} (hls : letterSet ls) {n : Nat} (hn : n ≤ 4) : (((List.range n).flatMap fun b => (piecesOf ls).map (Wr.piece b)).map Wr.d).length ≤ 52 := by
  rw [List.length_map, List.length_flatMap]
  refine Nat.le_trans (sum_le (m := 13) fun x hx => ?_) ?_
  · rw [List.mem_map] at hx
    obtain ⟨b, _, rfl⟩ := hx
    rw [List.length_map]
    exact piecesOf_len hls
  · rw [List.length_map, List.length_range]
    omega
theorem scEvery : FnScope ["letters", "blocks", "choices", "found", "block", "new"] ["letters", "blocks"] (defScope sEvery) := ⟨rfl, rfl, rfl, by decide +kernel, rfl, by decide +kernel, by decide +kernel⟩
def R_every : List DV → DV → Prop := fun ds d => ∃ (ls : Str) (n : Nat), letterSet ls ∧ n ≤ 4 ∧ ds = [.str ls, .int n] ∧ d = wrsD (everyOf ls n)
theorem ok_every (B : Bt g) (Ap : Fn g 2 "all_pieces" R_allp) (Ao : Fn g 2 "all_orders" R_allo) {f : Addr} {fd : FuncData} (F : Fun g.K "every_write" "every_write" sEvery f fd) : FnOk g.P g.w g.K g.mg g.base CX0 3 f fd ["letters", "blocks"] (spR g.K R_every) := by
  refine fn_ok F scEvery (fun ds d ⟨ls, n, _, _, e, _⟩ => by rw [e]; rfl) fun ds d ⟨ls, n, hls, hn, e, ed⟩ => ?_
  subst e ed
  have l1 := every_len1 hls hn
  refine dss_cons (ds_set 2 scEvery.nd (de_call Ap (da_cons (de_v 0) da_nil) ⟨ls, hls, rfl, rfl⟩)
    (dss_cons (ds_lc2O (own := [("block", 4), ("new", 5)]) (vs1 := [5]) 3 scEvery.nd (by decide +kernel) (by decide) (ds := ((List.range n).flatMap fun b => (piecesOf ls).map (Wr.piece b)).map Wr.d) ?_ ?_)))
  · refine EvL.is (rL2.ev (is := [4]) (is1 := [5]) (ds := rangeD 0 n) (di_r B.range (by omega) (de_v 1)) (by decide) (by decide)
      (fun d => [.val (.str ls), .val (.int n), .val (.lst (psD (piecesOf ls))), .un, .val d, .un]) (fun _ => true) (fun _ => psD (piecesOf ls)) (fun d c => [.val (.str ls), .val (.int n), .val (.lst (psD (piecesOf ls))), .un, .val d, .val c]) (fun _ _ => true) everyWr
      (fun d hd => rfl) ?_ (fun d hd => dg_n 4 scEvery.nd) (fun d hd => dts_nil) (fun d hd _ => di_l (de_v 2)) (fun d hd _ c hc => dg_n 5 scEvery.nd) (fun d hd _ c hc => dts_nil) (fun d hd _ c hc _ => de_tup (da_cons de_str (da_cons (de_v 4) (da_cons (de_v 5) da_nil))))) ?_
    · simp only [filt]
      rw [every_pieces]
      omega
    · simp only [filt]
      exact every_pieces ls n
  · refine dss_cons (ds_extend 3 rfl (DE.is (dl_rL (own := [("new", 5)]) scEvery.nd (by decide +kernel) (rL.ev (is := [5]) (ds := (ordersOf n).map oD) (di_l (de_call Ao (da_cons (de_v 1) da_nil) ⟨n, hn, rfl, rfl⟩)) ?_ (by decide)
      (fun d => [.val (.str ls), .val (.int n), .val (.lst (psD (piecesOf ls))), .own _, .un, .val d]) (fun _ => true) orderWr (fun d hd => dg_n 5 scEvery.nd) (fun d hd => dts_nil) (fun d hd _ => de_tup (da_cons de_str (da_cons (de_v 5) da_nil))))).de rfl) ?_ (dss_freeze 3 rfl (dss_one (ds_ret (de_v 3) ?_))))
    · rw [List.length_map]
      exact Nat.le_trans (ordersOf_len hn) (by decide)
    · have h2 : ((((ordersOf n).map oD).filter fun _ => true).map orderWr).length ≤ 85 := by
        rw [filt, List.length_map, List.length_map]
        exact ordersOf_len hn
      omega
    · show DV.lst _ = DV.lst _
      rw [filt]
      unfold everyOf
      rw [List.map_append, List.map_map, List.map_map]
      rfl
end SP

/-! A def's body from the state of its call, its parameters known as they are. -/
namespace PD
open PySem PySem.Spec PyProof.Rows L2
theorem fn_raw {CX : CXT} {P : Program} {w : World} {K : PySem.W.Frag} {mg : Str → Option Value} {base : Heap} {k n : Nat} {f : Addr} {fd : FuncData} {x qual : Str} {st : Stmt} {N ps : List Str} {A : Around} {outer : List Env} {s : Shared} {H : Hp} {args : Args} {us : List Value} {vs : List V} {Q : VK} {E : XK}
    (F : Fun K x qual st f fd) (S : FnScope N ps (defScope st)) (hl : vs.length = ps.length) (hr : Room (k + 1) A) (e0 : Env0 P w K mg base A outer s H) (hb : BindsTo s fd args (ps.zip us)) (r : Vals vs us) (ht : n ≤ s.toks)
    (body : ∀ cdv s1, Room k (A.deeper (envOfC qual (defScope st) s.heap.objs.size f cdv)) → Inv (cxOf CX P w K mg base N qual (defScope st) f cdv A outer s H E) [] (start N vs) H s1 → n ≤ s1.toks →
      s1.heap.Ns (cxOf CX P w K mg base N qual (defScope st) f cdv A outer s H E).env.locals (bindL (envOfC qual (defScope st) s.heap.objs.size f cdv).kindOf (ps.zip us) fun _ => none) →
      wpAny (model P w) (cxOf CX P w K mg base N qual (defScope st) f cdv A outer s H E).A (execs (defBody st) (cxOf CX P w K mg base N qual (defScope st) f cdv A outer s H E).env) (SP (cxOf CX P w K mg base N qual (defScope st) f cdv A outer s H E) [] { nx := fun _ H' => Q .non H', rt := Q }) (cxOf CX P w K mg base N qual (defScope st) f cdv A outer s H E).xe s1) :
    codeAny (model P w) A (.call (.ref f) args) (CR CX outer P w H s Q E) s := by
  obtain ⟨oc, od, kV, doc, pm, an, cdv, ct, osl, rfl, lk, hcd⟩ := F.ex
  have KX : K.In s.heap := e0.mod.kin.keeps fun b o e => (e0.bs b o e).1
  have lim : s.heap.NoLimit := e0.mod.nolimit.keeps fun b o e => (e0.bs b o e).1
  have kinds : ∀ y ∈ ps.zip us, (defScope st).names.lookup y.1 = some .local ∨ ((defScope st).names.lookup y.1 = some .cell ∧ ((cellsFrom (s.heap.objs.size + 1) (defScope st).names []).lookup y.1).isSome = true) := fun ⟨m, v⟩ hy => by
    rcases S.par m (List.of_mem_zip hy).1 with q | q
    · exact .inl q
    · exact .inr ⟨q, PySem.W.cellsFrom_some _ _ _ (.inl q)⟩
  refine codeAny_call_function hr.depth (KX _ _ lk) rfl S.co S.gen rfl (PySem.W.codeRec_of KX hcd) (hb _ _ _ _ ?_)
  refine thnN ht (wpAny_newFunctionEnv_cells (Q := fun env s1 => env = newEnv (defScope st) s.heap.objs.size mainGlobals (cellsFrom (s.heap.objs.size + 1) (defScope st).names []) (qual ++ ".<locals>.") (some f) cdv none builtinsNs ∧ InCallC s env.locals (bindL env.kindOf (ps.zip us) fun _ => none) env.cells (bindC env.kindOf (ps.zip us) fun _ => none) s1) S.kind kinds fun env he s1 q => ⟨he, q⟩) fun env s1 t1 ⟨he, q⟩ => ?_
  subst he
  refine ⟨lim.keeps q.toInCall.keep, codeAny_func ?_⟩
  have I : Inv (cxOf CX P w K mg base N qual (defScope st) f cdv A outer s H E) [] (start N vs) H s1 := inv_start S hr.hd e0 hl r q
  refine wpAny_mono (body cdv s1 (hr.deeper _) I t1 q.toInCall.ns) (fun fl s' hs => ?_) fun e s' hs => hs
  have fin : ∀ {σ' : L2.St} {H' : Hp} {v : V} {u : Value}, Inv (cxOf CX P w K mg base N qual (defScope st) f cdv A outer s H E) [] σ' H' s' → RelV v u → Q v H' → CE outer P w H s Q u s' :=
    fun {σ' H' v u} J rv z => ⟨v, H', J.os, J.bare, J.base, J.hok, rv, z⟩
  cases fl with
  | ret u =>
    obtain ⟨v, σ', H', J, rv, z⟩ := hs
    exact fin J rv z
  | next =>
    obtain ⟨σ', H', J, z⟩ := hs
    exact fin (v := V.non) (u := Value.none) J rfl z
  | brk =>
    obtain ⟨_, _, _, z⟩ := hs
    exact False.elim z
  | cont =>
    obtain ⟨_, _, _, z⟩ := hs
    exact False.elim z
end PD

/-! contents("", ys, 2): the texts that come back are young. -/
namespace SP
open PySem PySem.Spec PyProof.Rows L2 PD
section
variable {X : Cx} {n : Nat} {b p : Addr} {o2 : Obj} {ys : List Str}
end
end SP

/-! list(text): the letters' identities are given out anew. -/
namespace PD
open PySem PySem.Spec PyProof.Rows L2
open Sem (wp)
section
variable {prog : Program} {w : World} {A : Around} {E : Value → Shared → Prop} {s : Shared} {n : Nat}
end
end PD

/-! all_pieces: the list that comes back is young. -/
namespace SP
open PySem PySem.Spec PyProof.Rows L2 PD
end SP

/-! Readings and promises from states in which at least n identities have been given out. -/
namespace PD
open PySem PySem.Spec PyProof.Rows L2
structure PN (X : Cx) (n : Nat) (e : Expr) (t : TE) : Prop where
  run : ∀ (pins : List (Addr × Obj)) (s : Shared) (σ : L2.St) (H : Hp) (Q : VK), n ≤ s.toks → Inv X pins σ H s → t σ H Q → wpAny (model X.prog X.w) X.A (eval e X.env) (EP X pins σ Q) X.xe s
theorem PN.of {X : Cx} {n : Nat} {e : Expr} {t : TE} (h : PE X e t) : PN X n e t := ⟨fun pins s σ H Q _ I q => h.run pins s σ H Q I q⟩
structure FnOkN (P : Program) (w : World) (K : PySem.W.Frag) (mg : Str → Option Value) (base : Heap) (CX : CXT) (k n : Nat) (f : Addr) (fd : FuncData) (ps : List Str) (sp : Sp) : Prop where
  len : ∀ vs H Q E, sp vs H Q E → vs.length = ps.length
  run : ∀ (A : Around) (outer : List Env) (s : Shared) (H : Hp) (args : Args) (us : List Value) (vs : List V) (Q : VK) (E : XK), Room k A → Env0 P w K mg base A outer s H → n ≤ s.toks → BindsTo s fd args (ps.zip us) → Vals vs us → sp vs H Q E →
    codeAny (model P w) A (.call (.ref f) args) (CR CX outer P w H s Q E) s
section
variable {X : Cx} {CX : CXT} {k n : Nat} {f : Addr} {fd : FuncData} {ps : List Str} {sp : Sp} {E : XK} {x : Str} {p pos : Pos} {e : Expr} {es : List Expr} {t : TA}
theorem run_fnN {pins : List (Addr × Obj)} {σ : L2.St} {H : Hp} {s : Shared} {Q : VK} {us : List Value} {vs : List V} (F : FnOkN X.prog X.w X.K X.mg X.base CX k n f fd ps sp) (hr : Room k X.A) (hb : Binds X.K fd ps []) (hx : Passes CX X E) (ht : n ≤ s.toks)
    (I : Inv X pins σ H s) (r : Vals vs us) (h : sp vs H Q E) : wpAny (model X.prog X.w) X.A (call (.ref f) us) (EP X pins σ Q) X.xe s := by
  have hl : (us ++ ([] : List Value)).length = ps.length := by rw [List.append_nil, ← r.length]; exact F.len _ _ _ _ h
  have bt := hb s us I.kIn hl
  rw [List.append_nil] at bt
  refine wpAny_call (codeAny_mono (F.run X.A X.stack s H ⟨us, []⟩ us vs Q E hr I.env0 ht bt r h) fun o s' hq => ?_)
  cases o with
  | error e => exact hx pins σ H s e s' I hq
  | ok fl =>
    cases fl with
    | ret u => exact I.after hq
    | next => exact False.elim hq
    | brk => exact False.elim hq
    | cont => exact False.elim hq
/-- f(e, ..), f's promise bounded -/
theorem pn_call (F : FnOkN X.prog X.w X.K X.mg X.base CX k n f fd ps sp) (hr : Room k X.A) (hg : Gl X x) (hm : X.mg x = some (.ref f)) (hk : PySem.W.keepIn X.K (.ref f) = true) (hb : Binds X.K fd ps []) (hx : Passes CX X E) (ha : PA X (e :: es) t)
    (hdb : (x == ("__debug__" : Str)) = false := by decide) (he : starEach (e :: es) X.env = (false, eval e X.env) :: starEach es X.env := by rfl) (hpl : (backTo pos (starEach es X.env)).any (·.1) = false := by rfl) : PN X n (.Call (.Name x p) (e :: es) [] pos) (tCall sp [] E t) :=
  ⟨fun pins s σ H Q ht I h => wpAny_Call_Name_kw (ld_glob I hg hm (PySem.W.callWith_K (h₀ := X.base) I.ok.mod.kin hk (thnN ht (ha.run pos pins s σ H _ I h) fun us s1 ht1 ⟨vs, H1, I1, r, q⟩ => ⟨I1.kIn, run_fnN F hr hb hx ht1 I1 r (by have q' : sp (vs ++ []) H1 Q E := q; rw [List.append_nil] at q'; exact q')⟩) he hpl) hdb)⟩
end
section
variable (g : Gb) (n : Nat) (l : Lc)
def UEN (e : Expr) : TE := fun σ H Q => ∃ t, (∀ X, Of g l X → PN X n e t) ∧ t σ H Q
def DEN (e : Expr) (ρ : Rho) (d : DV) : Prop := EvD g.K (UEN g n l e) ρ d
end
theorem UEN.pn {g : Gb} {n : Nat} {l : Lc} {X : Cx} (o : Of g l X) (e : Expr) : PN X n e (UEN g n l e) := ⟨fun pins s σ H Q ht I ⟨t, h, q⟩ => (h X o).run pins s σ H Q ht I q⟩
section
variable {g : Gb} {n : Nat} {l : Lc} {ρ : Rho} {e : Expr} {es : List Expr} {ds : List DV} {d : DV} {x : Str} {p pos : Pos} {k : Nat} {R : List DV → DV → Prop}
theorem DEN.of (h : DE g l e ρ d) : DEN g n l e ρ d := fun H0 σ S H ex m Q q => by
  obtain ⟨t, a, b⟩ := h H0 σ S H ex m Q q
  exact ⟨t, fun X o => .of (a X o), b⟩
theorem DEN.by (t : TE) (h : ∀ X, Of g l X → PN X n e t) (q : EvD g.K t ρ d) : DEN g n l e ρ d := fun H0 σ S H ex m Q k => ⟨t, h, q H0 σ S H ex m Q k⟩
/-- a def that is known from enough identities on -/
structure FnN (g : Gb) (k n : Nat) (x : Str) (R : List DV → DV → Prop) : Prop where
  ex : ∃ f fd ps, FnOkN g.P g.w g.K g.mg g.base CX0 k n f fd ps (spR g.K R) ∧ g.mg x = some (.ref f) ∧ PySem.W.keepIn g.K (.ref f) = true ∧ Binds g.K fd ps []
theorem den_call (F : FnN g k n x R) (ha : DA g l (e :: es) ρ ds) (hR : R ds d) (hk : k ≤ l.k := by decide) (hg : GlN l x := by rfl) (hdb : (x == ("__debug__" : Str)) = false := by decide) (he : ∀ env, starEach (e :: es) env = (false, eval e env) :: starEach es env := by intro _; rfl) (hpl : ∀ env, (backTo pos (starEach es env)).any (·.1) = false := by intro _; rfl) (hcl : l.cb = true := by rfl) : DEN g n l (.Call (.Name x p) (e :: es) [] pos) ρ d := by
  obtain ⟨f, fd, ps, ok, hm, kp, hb⟩ := F
  exact DEN.by (tCall (spR g.K R) [] E0 (UA g l (e :: es))) (fun X o => pn_call (CX := CX0) (k := k) (by rw [o.prog, o.w, o.K, o.mg, o.base]; exact ok) ((o.room hcl).mono hk) (o.gl hg) (by rw [o.mg]; exact hm) (by rw [o.K]; exact kp) (by rw [o.K]; exact hb) pass0 (UA.pa o _) hdb (he _) (hpl _)) (ev_call ha hR)
end
end PD
namespace SP
open PySem PySem.Spec PyProof.Rows L2 PD
variable {g : Gb}
end SP

/-! A law's call where the law's promise is bounded: how many identities the top has given out. -/
namespace PD
open PySem PySem.Spec PyProof.Rows L2
/-- nothing but the script is tracked, and that only where it is none of the module's own -/
def scrH (K : PySem.W.Frag) (a : Addr) (vs : List Value) (ns : List Int) : Hp := fun b =>
  if b = a ∧ (K.lookup a).isNone = true then some (.frz { cls := .type "list", data := .seq vs.toArray } (.lst (ns.map V.int))) else none
theorem scrH_some {K : PySem.W.Frag} {a b : Addr} {vs : List Value} {ns : List Int} {u : HO} (h : scrH K a vs ns b = some u) : b = a ∧ K.lookup a = none ∧ u = .frz { cls := .type "list", data := .seq vs.toArray } (.lst (ns.map V.int)) := by
  unfold scrH at h
  split at h
  · rename_i c
    cases h
    exact ⟨c.1, Option.isNone_iff_eq_none.mp c.2, rfl⟩
  · cases h
end PD
namespace PD
open PySem PySem.Spec PyProof.Rows L2 PySem.W PySem.W.X
theorem ofPys_ints : ∀ ns : List Int, ofPys (ns.map PyData.int) = ns.map WData.int
  | [] => by simp [ofPys]
  | n :: ns => by simp only [List.map_cons, ofPys, ofPy, ofPys_ints ns]
theorem ofPy_ints (ns : List Int) : ofPy (PyData.list (ns.map PyData.int)) = WData.list (ns.map WData.int) := by
  rw [ofPy, ofPys_ints]
end PD

/-! What is raised, over data: a reading or a statement ends with a value or with an exception of an own class. -/
namespace PD
open PySem PySem.Spec PyProof.Rows L2
/-- an exception as it lies behind a call: its class, its own attributes (none: no dict) -/
def ExD (K : PySem.W.Frag) (S : Hp) (C : Addr) (gs : List (Str × DV)) (cls : Value) (d : Option Addr) : Prop := cls = .ref C ∧ ((gs = [] ∧ d = none) ∨ ∃ dx fs, d = some dx ∧ S dx = some (.xd fs) ∧ RpF K S fs gs)
inductive Out where
  | val (d : DV)
  | exc (C : Addr) (gs : List (Str × DV))
/-- what is raised, and what the slots hold then -/
abbrev Zo := Rho → Addr → List (Str × DV) → Prop
def OkZ (K : PySem.W.Frag) (S0 H0 B : Hp) (W : WX) (Z : Zo) : Prop := ∀ ρ C gs cls d σ S H, Z ρ C gs → Go S0 H0 S H → Ex B S → En K H0 S H σ ρ → ExD K S C gs cls d → W cls d σ H
def StZ (K : PySem.W.Frag) (tz : WX → TS) (ρ : Rho) (E : Po) (Z : Zo) : Prop := ∀ S0 H0 B σ S H D W, Go S0 H0 S H → Ex B S → En K H0 S H σ ρ → Ok K S0 H0 B D E → OkZ K S0 H0 B W Z → tz W D σ H
def EvZ (K : PySem.W.Frag) (tz : WX → TE) (ρ : Rho) (o : Out) : Prop := ∀ H0 σ S H W, Ex S H → En K H0 S H σ ρ → ∀ Q : VK, (∀ d, o = .val d → Rs K S H d Q) → (∀ C gs cls d S' H', o = .exc C gs → Go S H S' H' → ExD K S' C gs cls d → W cls d σ H') → tz W σ H Q
section
variable {K : PySem.W.Frag} {ρ : Rho} {te : TE} {tz : WX → TE} {ts : TS} {tu tw : WX → TS} {tt : TT} {E : Po} {Z : Zo} {o : Out} {d : DV} {x : Bool}
theorem StZ.of (h : StD K ts ρ E) : StZ K (fun _ => ts) ρ E Z := fun S0 H0 B σ S H D W g b n o _ => h S0 H0 B σ S H D g b n o
theorem st_seqZ (h : StZ K tu ρ { E with nx := fun ρ' => StZ K tw ρ' E Z } Z) : StZ K (fun W => tSeq (tu W) (tw W)) ρ E Z := fun S0 H0 B σ S H D W g b n o z =>
  h S0 H0 B σ S H { D with nx := tw W D } W g b n ⟨fun ρ' σ' S' H' q g' b' n' => q S0 H0 B σ' S' H' D W g' b' n' o z, o.rt, o.bk, o.ct⟩ z
theorem st_dropZ (h : EvZ K tz ρ o) (q : ∀ d, o = .val d → E.nx ρ) (qz : ∀ C gs, o = .exc C gs → Z ρ C gs) : StZ K (fun W => tDrop (tz W)) ρ E Z := fun S0 H0 B σ S H D W g b n k z =>
  h H0 σ S H W g.sub n _ (fun d e v S1 H1 g1 r1 => k.nx _ _ S1 H1 (q d e) (g.tr g1) (b.tr g1.s) (n.go g1)) fun C gs cls d S1 H1 e g1 x1 => z ρ C gs cls d σ S1 H1 (qz C gs e) (g.tr g1) (b.tr g1.s) (n.go g1) x1
/-- a promise over data: on ds it ends with o (R ds o) -/
def spZ (K : PySem.W.Frag) (R : List DV → Out → Prop) : Sp := fun vs H Q E => ∃ S ds o, Ex S H ∧ RpA K S vs ds ∧ R ds o ∧ (∀ d, o = .val d → Rs K S H d Q) ∧ ∀ C gs cls d S' H', o = .exc C gs → Go S H S' H' → ExD K S' C gs cls d → E cls d H'
theorem ev_callZ {R : List DV → Out → Prop} {tx : TA} {ds : List DV} (h : EvA K tx ρ ds) (hR : R ds o) : EvZ K (fun W => tCallS (spZ K R) (WE W) tx) ρ o := fun H0 σ S H W e n Q q z =>
  h H0 σ S H e n _ fun vs S1 H1 g1 r1 => ⟨S1, ds, o, g1.sub, r1, hR, fun d e v S2 H2 g2 r2 => q d e v S2 H2 (g1.tr g2) r2, fun C gs cls d S2 H2 e g2 x2 => z C gs cls d S2 H2 e (g1.tr g2) x2⟩
end
/-- where one stands, with a wish about what is raised -/
structure OfZ (g : Gb) (l : Lc) (X : Cx) (W : WX) : Prop where
  o : Of g l X
  tk : Takes X W
  hs : X.stack = X.env :: X.outer
  hf : X.env.frame = some X.env.locals
section
variable (g : Gb) (l : Lc)
def UEZ (e : Expr) : WX → TE := fun W σ H Q => ∃ t, (∀ X, OfZ g l X W → PE X e t) ∧ t σ H Q
def USZ (st : Stmt) : WX → TS := fun W D σ H => ∃ t, (∀ X, OfZ g l X W → PS X st t) ∧ t D σ H
def USsZ (st : List Stmt) : WX → TS := fun W D σ H => ∃ t, (∀ X, OfZ g l X W → PSs X st t) ∧ t D σ H
def DEZ (e : Expr) (ρ : Rho) (o : Out) : Prop := EvZ g.K (UEZ g l e) ρ o
def DSZ (st : Stmt) (ρ : Rho) (E : Po) (Z : Zo) : Prop := StZ g.K (USZ g l st) ρ E Z
def DSsZ (st : List Stmt) (ρ : Rho) (E : Po) (Z : Zo) : Prop := StZ g.K (USsZ g l st) ρ E Z
end
section
variable {g : Gb} {l : Lc} {X : Cx} {W : WX} {ρ : Rho} {e c : Expr} {es : List Expr} {st : Stmt} {sts body orelse : List Stmt} {E : Po} {Z : Zo} {o : Out} {d : DV} {ds : List DV} {pos p p2 py : Pos} {x : Bool} {n : Str}
theorem UEZ.pe (o : OfZ g l X W) (e : Expr) : PE X e (UEZ g l e W) := ⟨fun pins s σ H Q I ⟨t, h, q⟩ => (h X o).run pins s σ H Q I q⟩
theorem USZ.ps (o : OfZ g l X W) (st : Stmt) : PS X st (USZ g l st W) := ⟨fun pins s σ H D I ⟨t, h, q⟩ => (h X o).run pins s σ H D I q⟩
theorem USsZ.pss (o : OfZ g l X W) (st : List Stmt) : PSs X st (USsZ g l st W) := ⟨fun pins s σ H D I ⟨t, h, q⟩ => (h X o).run pins s σ H D I q⟩
theorem DEZ.by (t : WX → TE) (h : ∀ X W, OfZ g l X W → PE X e (t W)) (v : EvZ g.K t ρ o) : DEZ g l e ρ o := fun H0 σ S H W ex n Q q z => ⟨t W, fun X ok => h X W ok, v H0 σ S H W ex n Q q z⟩
theorem DSZ.by (t : WX → TS) (h : ∀ X W, OfZ g l X W → PS X st (t W)) (v : StZ g.K t ρ E Z) : DSZ g l st ρ E Z := fun S0 H0 B σ S H D W g0 b n k z => ⟨t W, fun X ok => h X W ok, v S0 H0 B σ S H D W g0 b n k z⟩
theorem DSsZ.by (t : WX → TS) (h : ∀ X W, OfZ g l X W → PSs X sts (t W)) (v : StZ g.K t ρ E Z) : DSsZ g l sts ρ E Z := fun S0 H0 B σ S H D W g0 b n k z => ⟨t W, fun X ok => h X W ok, v S0 H0 B σ S H D W g0 b n k z⟩
theorem DSZ.of (h : DS g l st ρ E) : DSZ g l st ρ E Z := DSZ.by _ (fun X W o => US.ps o.o st) (StZ.of h)
theorem dssz_cons (h : DSZ g l st ρ { E with nx := fun ρ' => DSsZ g l sts ρ' E Z } Z) : DSsZ g l (st :: sts) ρ E Z := DSsZ.by _ (fun X W o => pss_cons (USZ.ps o st) (USsZ.pss o sts)) (st_seqZ h)
theorem dssz_one (h : DSZ g l st ρ E Z) : DSsZ g l [st] ρ E Z := DSsZ.by _ (fun X W o => pss_one (USZ.ps o st)) h
theorem dsz_ex (h : DEZ g l e ρ o) (q : ∀ d, o = .val d → E.nx ρ) (qz : ∀ C gs, o = .exc C gs → Z ρ C gs) (hs : ∀ env, swapsWith e none pos.line env = pure false := by intro _; rfl) : DSZ g l (.Expr e pos) ρ E Z := DSZ.by _ (fun X W o => ps_expr (UEZ.pe o e) (hs _)) (st_dropZ h q qz)
/-- a def that may raise -/
structure FnZ (g : Gb) (k : Nat) (n : Str) (R : List DV → Out → Prop) : Prop where
  ex : ∃ f fd ps, FnOk g.P g.w g.K g.mg g.base (L2.CX g.P g.w) k f fd ps (spZ g.K R) ∧ g.mg n = some (.ref f) ∧ PySem.W.keepIn g.K (.ref f) = true ∧ Binds g.K fd ps []
theorem dez_call {k : Nat} {R : List DV → Out → Prop} (F : FnZ g k n R) (ha : DA g l (e :: es) ρ ds) (hR : R ds o) (hk : k ≤ l.k := by decide) (hg : GlN l n := by rfl) (hdb : (n == ("__debug__" : Str)) = false := by decide)
    (he : ∀ env, starEach (e :: es) env = (false, eval e env) :: starEach es env := by intro _; rfl) (hpl : ∀ env, (backTo pos (starEach es env)).any (·.1) = false := by intro _; rfl) (hcl : l.cb = true := by rfl) : DEZ g l (.Call (.Name n p) (e :: es) [] pos) ρ o := by
  obtain ⟨f, fd, ps, ok, hm, hkp, hb⟩ := F.ex
  exact DEZ.by (fun W => tCallS (spZ g.K R) (WE W) (UA g l (e :: es))) (fun X W oz => have o := oz.o; pe_callS (CX := L2.CX X.prog X.w) (k := k) (E := WE W) (by rw [o.prog, o.w, o.K, o.mg, o.base]; exact ok) ((o.room hcl).mono hk) (o.gl hg) (by rw [o.mg]; exact hm) (by rw [o.K]; exact hkp) (by rw [o.K]; exact hb) (fun σ => passAt oz.tk σ) (UA.pa o _) hdb (he _) (hpl _)) (ev_callZ ha hR)
end
/-- what a body must do for the def to end with o -/
def poO : Out → Po
  | .val d => { nx := fun _ => d = .non, rt := fun r => r = d }
  | .exc _ _ => { nx := fun _ => False }
def zoO : Out → Zo
  | .val _ => fun _ _ _ => False
  | .exc C gs => fun _ C' gs' => C' = C ∧ gs' = gs
theorem fn_okZ {g : Gb} {x qual : Str} {st : Stmt} {f : Addr} {fd : FuncData} {N ps : List Str} {k : Nat} {R : List DV → Out → Prop} (F : Fun g.K x qual st f fd) (S : FnScope N ps (defScope st)) (len : ∀ ds o, R ds o → ds.length = ps.length)
    (body : ∀ ds o, R ds o → DSsZ g ⟨k, N, defScope st, fun _ => true, true, none⟩ (defBody st) (rho0 N ds) (poO o) (zoO o)) : FnOk g.P g.w g.K g.mg g.base (L2.CX g.P g.w) (k + 1) f fd ps (spZ g.K R) := by
  refine F.okX S (fun vs H Q E ⟨S0, ds, o, e, ra, hR, _⟩ => by rw [ra.len]; exact len ds o hR) (fun cdv A outer s H vs Q E hr ⟨S0, ds, o, e, ra, hR, q, z⟩ => ?_)
  refine ⟨USsZ g ⟨k, N, defScope st, fun _ => true, true, none⟩ (defBody st) (fun cls d _ H => E cls d H), USsZ.pss ⟨⟨rfl, rfl, rfl, rfl, rfl, rfl, rfl, fun _ _ => rfl, fun _ => rfl, fun _ => hr, hr.un, fun _ => passes_of rfl, fun _ _ _ h => by cases h⟩, takes_of rfl rfl rfl rfl, rfl, rfl⟩ _, ?_⟩
  refine body ds o hR S0 H S0 _ S0 H _ _ (Go.rf e) (Ex.rf _) (en_start ra) ⟨fun ρ σ S1 H1 h g1 _ n1 => ?_, fun r v S1 H1 h g1 r1 => ?_, fun _ _ _ _ h => ?_, fun _ _ _ _ h => ?_⟩ (fun ρ C gs cls d σ S1 H1 h g1 _ _ x1 => ?_)
  · cases o with
    | val d =>
      have h' : d = .non := h
      subst h'
      exact q _ rfl .non S1 H1 g1 .non
    | exc C gs => exact False.elim h
  · cases o with
    | val d =>
      have h' : r = d := h
      subst h'
      exact q _ rfl v S1 H1 g1 r1
    | exc C gs => exact False.elim h
  · cases o <;> exact False.elim h
  · cases o <;> exact False.elim h
  · cases o with
    | val d => exact False.elim h
    | exc C' gs' =>
      obtain ⟨h1, h2⟩ : C = C' ∧ gs = gs' := h
      subst h1 h2
      exact z C gs cls d S1 H1 rfl g1 x1
end PD

/-! try .. except X: return a truth value. -/
namespace PD
open PySem PySem.Spec PyProof.Rows L2
section
variable {g : Gb} {l : Lc} {X : Cx} {W : WX} {ρ : Rho} {e c : Expr} {es : List Expr} {st : Stmt} {sts body orelse : List Stmt} {E : Po} {Z : Zo} {o : Out} {d : DV} {ds : List DV} {pos np pos' p p2 p3 py : Pos} {x : Bool} {n : Str}
theorem OfZ.tr (o : OfZ g l X W) {W' : WX} {pn : List (Addr × Obj)} {xe : Value → Shared → Prop} (tk : Takes (X.tr pn xe) W') (po : PassesOwn (model X.prog X.w) X.A X.env xe) (hex : l.ex = none) : OfZ g l (X.tr pn xe) W' :=
  ⟨⟨o.o.prog, o.o.w, o.o.K, o.o.mg, o.o.base, o.o.N, o.o.sc, o.o.fn, o.o.calm, o.o.room, o.o.un, fun _ => po, fun _ _ _ h => by rw [hex] at h; cases h⟩, tk, o.hs, o.hf⟩
/-- what is raised in the body: caught (then b is the end), or on its way -/
def zTry (g : Gb) (cl : Value) (E : Po) (Z : Zo) (q : Rho → Addr → List (Str × DV) → Prop) : Zo := fun ρ C gs => (PySem.W.exmOne g.K (.ref C) cl = some true ∧ q ρ C gs) ∨ (PySem.W.exmOne g.K (.ref C) cl = some false ∧ Z ρ C gs)
end
end PD

/-! try .. except X as e: a suite that uses e. -/
namespace PD
open PySem PySem.Spec PyProof.Rows L2
/-- the description of an except suite: a the exception, cls its class, d its dict -/
def Lc.sui (l : Lc) (a : Addr) (cls : Value) (d : Option Addr) : Lc := ⟨l.k, l.N, l.sc, l.fn, false, some (a, cls, d)⟩
section
variable {g : Gb} {l : Lc} {X : Cx} {W : WX} {ρ : Rho} {e c : Expr} {es : List Expr} {st b₀ : Stmt} {sts body sts' : List Stmt} {E : Po} {Z : Zo} {o : Out} {dv : DV} {ds : List DV} {pos np pos' : Pos} {n en part : Str} {cls : Value} {d : Option Addr} {a dd C : Addr} {gs : List (Str × DV)} {i : Nat}
theorem Of.suite {oe : Obj} {pn : List (Addr × Obj)} (o : Of g l X) (hz : Zc cls d oe) (hf : ∃ vs, oe.data = .fields vs) : Of g (l.sui a cls d) (X.suite a ((a, oe) :: pn)) :=
  ⟨o.prog, o.w, o.K, o.mg, o.base, o.N, o.sc, o.fn, fun h => absurd (show false = true from h) Bool.false_ne_true, fun h => absurd (show false = true from h) Bool.false_ne_true, o.un, fun h => absurd (show false = true from h) Bool.false_ne_true, fun a' c' d' h => by
    have h : some (a, cls, d) = some (a', c', d') := h
    cases h
    exact ⟨X, oe, pn, rfl, hz, hf⟩⟩
theorem En.setV {K : PySem.W.Frag} {H0 S H : Hp} {σ : L2.St} {v : Option V} {ev : EV} (n : En K H0 S H σ ρ) (q : EnE K H0 S H v ev) (hn : ∀ d, ev ≠ .ownD d) : En K H0 S H (σ.set i v) (ρ.set i ev) where
  len := by rw [List.length_set, List.length_set]; exact n.len
  at_ := fun j u x h1 h2 => by
    rcases set_get h1 with ⟨e1, e2⟩ | ⟨h3, h4⟩
    · subst e1 e2
      rcases set_get h2 with ⟨_, e3⟩ | ⟨h5, _⟩
      · subst e3; exact q
      · exact absurd rfl h5
    · rcases set_get h2 with ⟨e1, _⟩ | ⟨_, h6⟩
      · exact absurd e1 h3
      · exact n.at_ j u x h4 h6
  sep := fun j k p p' ds es hjk h1 h2 h3 h4 => by
    have f : ∀ {m : Nat} {x : DV}, (ρ.set i ev)[m]? = some (.ownD x) → m ≠ i ∧ ρ[m]? = some (.ownD x) := fun {m x} h => by
      rcases set_get h with ⟨_, e⟩ | ⟨h5, h6⟩
      · exact absurd e (by intro z; exact hn x z.symm)
      · exact ⟨fun z => h5 z.symm, h6⟩
    have s : ∀ {m : Nat} {x : V}, m ≠ i → (σ.set i v)[m]? = some (some x) → σ[m]? = some (some x) := fun {m x} hm h => by
      rcases set_get h with ⟨e, _⟩ | ⟨_, h6⟩
      · exact absurd e.symm hm
      · exact h6
    obtain ⟨m1, f1⟩ := f h1
    obtain ⟨m2, f2⟩ := f h2
    exact n.sep j k p p' ds es hjk f1 f2 (s m1 h3) (s m2 h4)
/-- the slot of the caught exception -/
def Xev (d : Option Addr) (gs : List (Str × DV)) (a : Addr) (ev : EV) : Prop := (gs = [] ∧ d = none ∧ ev = .val (.adr a)) ∨ ∃ dd, d = some dd ∧ ev = .exo a dd gs
def Po.gone (E : Po) (i : Nat) : Po := { nx := fun r => E.nx (r.set i .un), rt := E.rt, bk := fun r => E.bk (r.set i .un), ct := fun r => E.ct (r.set i .un) }
theorem dsz_try_as {cl : Value} {q : Rho → Addr → List (Str × DV) → Prop} (hm : g.mg n = some cl) (hi : l.N[i]? = some en) (nd : l.N.Nodup) (h : DSsZ g l body ρ E (zTry g cl E Z q))
    (hs : ∀ ρ' C gs a d ev, q ρ' C gs → Xev d gs a ev → DSs g (l.sui a (.ref C) d) (b₀ :: sts') (ρ'.set i ev) (E.gone i))
    (hln : l.sc.names.lookup en = some .local := by rfl) (hg : GlN l n := by rfl) (hdb : (n == ("__debug__" : Str)) = false := by decide) (hex : l.ex = none := by rfl) :
    DSZ g l (.Try body [.ExceptHandler (some (.Name n np)) (some en) (b₀ :: sts') pos'] [] [] pos) ρ E Z :=
  DSZ.by (fun W D σ H => USsZ g l body (wAs g.K cl i (fun a cls d => USs g (l.sui a cls d) (b₀ :: sts')) W D) D σ H) (fun X W o => by
    have := ps_try_as (X := X) (x := n) (n := en) (c := cl) (i := i) (body := body) (b₀ := b₀) (suite := sts') (np := np) (pos := pos) (pos' := pos') (tb := USsZ g l body) (ts := fun a cls d => USs g (l.sui a cls d) (b₀ :: sts')) (Wout := W) o.hs o.hf (by rw [o.o.N]; exact nd) (by rw [o.o.N]; exact hi)
      (by show X.env.scope.names.lookup en = _; rw [o.o.sc]; exact hln) ⟨o.o.gl hg, hdb, .inl (by rw [o.o.mg]; exact hm)⟩ o.tk (fun W' pn xe tk po => USsZ.pss (o.tr tk po hex) body) (fun a oe cls d pn hz hf => USs.pss (o.o.suite hz hf) _)
    rw [o.o.K] at this
    exact this) fun S0 H0 B σ S H D W g0 b0 n0 k z => h S0 H0 B σ S H D _ g0 b0 n0 k fun ρ' C gs cls d σ' S' H' hz g' b' n' x' => by
      obtain ⟨rfl, x2⟩ := x'
      rcases hz with ⟨e1, e2⟩ | ⟨e1, e2⟩
      · refine ⟨true, e1, fun _ a na => ?_, fun y => by cases y⟩
        have ok : Ok g.K S0 H0 B { nx := fun σ' H' => D.nx (σ'.set i none) H', rt := D.rt, bk := fun σ' H' => D.bk (σ'.set i none) H', ct := fun σ' H' => D.ct (σ'.set i none) H' } (E.gone i) :=
          ⟨fun r s1 S1 H1 q1 g1 b1 n1 => k.nx _ _ S1 H1 q1 g1 b1 (n1.setV (ev := .un) trivial (fun _ z => by cases z)), k.rt, fun r s1 S1 H1 q1 g1 b1 n1 => k.bk _ _ S1 H1 q1 g1 b1 (n1.setV (ev := .un) trivial (fun _ z => by cases z)), fun r s1 S1 H1 q1 g1 b1 n1 => k.ct _ _ S1 H1 q1 g1 b1 (n1.setV (ev := .un) trivial (fun _ z => by cases z))⟩
        rcases x2 with ⟨rfl, rfl⟩ | ⟨dx, fs, rfl, hx, rf⟩
        · exact hs ρ' C [] a none (.val (.adr a)) e2 (.inl ⟨rfl, rfl, rfl⟩) S0 H0 B _ S' H' _ g' b' (n'.setV (ev := .val (.adr a)) ⟨.ref a, rfl, .adr a⟩ (fun _ z => by cases z)) ok
        · exact hs ρ' C gs a (some dx) (.exo a dx gs) e2 (.inr ⟨dx, rfl, rfl⟩) S0 H0 B _ S' H' _ g' b' (n'.setV (ev := .exo a dx gs) ⟨rfl, fs, hx, rf⟩ (fun _ z => by cases z)) ok
      · exact ⟨false, e1, (fun y => by cases y), fun _ => z ρ' C gs _ d σ' S' H' e2 g' b' n' ⟨rfl, x2⟩⟩
end
end PD

/-! In an except suite: e.f; isinstance(e, C) where e has no dict. -/
namespace PD
open PySem PySem.Spec PyProof.Rows L2
section
variable {g : Gb} {l : Lc} {ρ : Rho} {pos np fp : Pos} {en part f C' : Str} {dv : DV} {a dd C : Addr} {gs : List (Str × DV)} {i : Nat}
theorem de_xf (T : XfC g.K C) (hno : PySem.W.findIn g.K (.ref C) part = some none) (hρ : ρ[i]? = some (.exo a dd gs)) (hgs : gs.lookup part = some dv) (hx : l.ex = some (a, .ref C, some dd) := by rfl) (hN : l.N[i]? = some en := by rfl)
    (hv : Vis l.sc en := by first | exact Or.inl rfl | exact Or.inr (Or.inl rfl) | exact Or.inr (Or.inr rfl)) (hd : (en == ("__debug__" : Str)) = false := by decide) (hcd : (en == ("__classdict__" : Str)) = false := by decide)
    (hb : ∀ env, attributeBase (.Name en np) part env (eval (.Name en np) env) = eval (.Name en np) env := by intro _; rfl) : DE g l (.Attribute (.Name en np) part pos) ρ dv :=
  DE.by (tXf a (.ref C) (some dd) C part (tVar i)) (fun X o => by
    obtain ⟨Y, oe, pn, rfl, hz, hf⟩ := o.ex _ _ _ hx
    exact pe_xf (X := Y) (by have := o.K; rw [show Y.K = g.K from this]; exact T) (by have := o.K; rw [show Y.K = g.K from this]; exact hno) hz hf (pe_var (by rw [o.N]; exact hN) (o.vis hv) hd hcd) (hb _)) fun H0 σ S H ex n Q q => by
      have hi : i < σ.length := by rw [n.len]; exact (List.getElem?_eq_some_iff.mp hρ).1
      obtain ⟨e1, fs, e2, e3⟩ := n.at_ i σ[i] _ (List.getElem?_eq_getElem hi) hρ
      obtain ⟨v, e4, e5⟩ := e3.look hgs
      exact ⟨.ref a, by rw [List.getElem?_eq_getElem hi, e1], rfl, rfl, dd, fs, v, rfl, ex _ _ e2, e4, q v S H (Go.rf ex) e5⟩
end
end PD

/-! In an except suite: isinstance(e, C), also where e has a dict of its own. -/
namespace PD
open PySem PySem.Spec PyProof.Rows L2
section
variable {g : Gb} {l : Lc} {ρ : Rho} {p p1 p2 pos : Pos} {en cn : Str} {a D : Addr} {d : Option Addr} {gs : List (Str × DV)} {i : Nat} {ev : EV} {vc : V} {cv : Value} {b : Bool}
end
end PD

/-! Lists of truth values: e.count(k), e.index(k). -/
namespace PD
open PySem PySem.Spec PyProof.Rows L2
section
variable {K : PySem.W.Frag} {S : Hp} {te : TE} {ρ : Rho} {bs : List Bool} {k : Bool}
end
section
variable {g : Gb} {l : Lc} {ρ : Rho} {o : Expr} {bs : List Bool} {k : Bool} {apos pos cp : Pos} {i : Nat}
end
end PD

/-! The suite of _law_raised: which sort the error is of. -/
namespace SP
open PySem PySem.Spec PyProof.Rows L2 PD
section
variable {g : Gb} {C0 C1 C2 C3 C4 C5 D a : Addr} {j k : Nat} {d : Option Addr} {gs : List (Str × DV)} {ev : EV} {E : Po} {c : EV}
end
end SP

/-! for and while where a turn may raise; raise C(e) of a class without an own __init__. -/
namespace PD
open PySem PySem.Spec PyProof.Rows L2
section
variable {K : PySem.W.Frag} {ρ : Rho} {tt : TT} {tu ts : WX → TS} {ds : List DV} {E : Po} {Z : Zo}
end
section
variable {g : Gb} {l : Lc} {ρ : Rho} {tg iter c : Expr} {is : List Nat} {ds : List DV} {body : List Stmt} {E : Po} {Z : Zo} {pos : Pos}
end
end PD

/-! An exception from within: of a part of an expression, of an argument. -/
namespace PD
open PySem PySem.Spec PyProof.Rows L2
section
variable {K : PySem.W.Frag} {ρ : Rho} {te : TE} {tz : WX → TE} {ta : TA} {taz : WX → TA} {C : Addr} {gs : List (Str × DV)} {d : DV}
end
section
variable (g : Gb) (l : Lc)
end
section
variable {g : Gb} {l : Lc} {X : Cx} {W : WX} {ρ : Rho} {e a b : Expr} {es : List Expr} {o : Out} {d : DV} {ds : List DV} {pos p : Pos} {n : Str} {C : Addr} {gs : List (Str × DV)}
end
end PD

namespace SP
open PySem L2 PD
/-! slices -/
theorem cutG_to {α : Type} {xs : List α} {k : Nat} (h : k ≤ xs.length) : cutG xs none (some (k : Int)) = xs.take k := by
  unfold cutG
  rw [HT.sIx_none, HT.sIx_nat, List.drop_zero, Nat.sub_zero, Nat.min_eq_left h]
theorem cutG_from {α : Type} {xs : List α} {k : Nat} : cutG xs (some (k : Int)) none = xs.drop k := by
  unfold cutG
  rw [HT.sIx_none, HT.sIx_nat]
  by_cases h : k ≤ xs.length
  · rw [Nat.min_eq_left h, List.take_of_length_le (by rw [List.length_drop]; exact Nat.le_refl _)]
  · rw [Nat.min_eq_right (by omega), List.drop_length, List.drop_of_length_le (by omega)]
    simp
theorem set_cut {α : Type} {xs : List α} {b : Nat} {c : α} (h : b < xs.length) : xs.take b ++ [c] ++ xs.drop (b + 1) = xs.set b c := by
  rw [List.set_eq_take_append_cons_drop, if_pos h, List.append_assoc]
  rfl
theorem len_toList (x : Str) : x.cps.toList.length = x.length := by rw [Array.length_toList]; rfl
/-! torn writes -/
def oldP (ps : List Str) (b : Nat) : Str := ps.getD b ⟨#[]⟩
def oldC (ps : List Str) (od : List Nat) : Wr → DV
  | .piece b _ => .str (oldP ps b) | .order _ => .tup (odD od)
def afterP (ps : List Str) : Wr → List Str
  | .piece b p => ps.set b p | .order _ => ps
def afterO (od : List Nat) : Wr → List Nat
  | .piece _ _ => od | .order o => o
/-! bounds -/
structure VS (ls : Str) (ps : List Str) (od : List Nat) : Prop where
  hls : letterSet ls
  hps1 : 1 ≤ ps.length
  hps : ps.length ≤ 4
  hp : ∀ p ∈ ps, wordOk ls 2 p = true
  hod : od.length ≤ 3
  hb : ∀ b ∈ od, b < ps.length
def VW (ls : Str) (n : Nat) : Wr → Prop
  | .piece b p => b < n ∧ wordOk ls 2 p = true | .order o => o.length ≤ 3 ∧ ∀ b ∈ o, b < n
theorem wordOk_len {ls z : Str} {m : Nat} (h : wordOk ls m z = true) : z.length ≤ m := by
  unfold wordOk at h
  rw [Bool.and_eq_true] at h
  exact of_decide_eq_true h.1
theorem VS.after {ls : Str} {ps : List Str} {od : List Nat} {w : Wr} (v : VS ls ps od) (h : VW ls ps.length w) : VS ls (afterP ps w) (afterO od w) := by
  cases w with
  | piece b p =>
    refine ⟨v.hls, by show 1 ≤ (ps.set b p).length; rw [List.length_set]; exact v.hps1, by show (ps.set b p).length ≤ 4; rw [List.length_set]; exact v.hps, fun q hq => ?_, v.hod, fun c hc => by show c < (ps.set b p).length; rw [List.length_set]; exact v.hb c hc⟩
    rcases List.mem_or_eq_of_mem_set hq with hq | rfl
    · exact v.hp q hq
    · exact h.2
  | order o => exact ⟨v.hls, v.hps1, v.hps, v.hp, h.1, h.2⟩
theorem get_piece {ps : List Str} {b : Nat} (h : b < ps.length) : ps[b]? = some (oldP ps b) := by
  unfold oldP
  rw [List.getD_eq_getElem?_getD, List.getElem?_eq_getElem h]
  rfl
end SP

namespace SP
open PySem PySem.Spec PyProof.Rows L2 PD
variable {g : Gb}
def okW (n : Nat) : Wr → Prop
  | .piece b _ => b < n | .order _ => True
theorem VW.ok {ls : Str} {n : Nat} {w : Wr} (h : VW ls n w) : okW n w := by
  cases w with
  | piece b p => exact h.1
  | order o => trivial
theorem scPut : FnScope ["state", "write", "content", "pieces", "order", "block"] ["state", "write", "content"] (defScope sPut) := ⟨rfl, rfl, rfl, by decide +kernel, rfl, by decide +kernel, by decide +kernel⟩
def R_put : List DV → DV → Prop := fun ds d => (∃ ps od b p c, b < ps.length ∧ ps.length ≤ 4 ∧ ds = [stD ps od, Wr.d (.piece b p), .str c] ∧ d = stD (ps.set b c) od) ∨ ∃ ps od o c, ds = [stD ps od, Wr.d (.order o), .tup (odD c)] ∧ d = stD ps c
theorem ok_put {f : Addr} {fd : FuncData} (F : Fun g.K "put_content" "put_content" sPut f fd) : FnOk g.P g.w g.K g.mg g.base CX0 1 f fd ["state", "write", "content"] (spR g.K R_put) := by
  refine fn_ok F scPut (fun ds d h => ?_) fun ds d h => ?_
  · rcases h with ⟨_, _, _, _, _, _, _, e, _⟩ | ⟨_, _, _, _, e, _⟩ <;> rw [e] <;> rfl
  · rcases h with ⟨ps, od, b, p, c, hb, hps, e, ed⟩ | ⟨ps, od, o, c, e, ed⟩
    · subst e ed
      have e1 : (1 : Int) + (b : Int) = ((b + 1 : Nat) : Int) := by omega
      refine dss_cons (ds_asg (de_v 0) (dg_tup (dgs_cons (dg_n 3 scPut.nd) (dgs_cons (dg_n 4 scPut.nd) dgs_nil))) (dss_cons (ds_if (x := false) (DT.is (dt_eqS (de_ixT (xs := [.str "piece", .int b, .str p]) (i := 0) (d := .str "piece") rfl (de_v 1) de_int) de_str) (by decide +kernel)) (fun h => by cases h) fun _ => dss_nil
        (dss_cons (ds_set 5 scPut.nd (de_ixT (xs := [.str "piece", .int b, .str p]) (i := 1) (d := .int b) rfl (de_v 1) de_int) (dss_one (ds_ret (de_tup (da_cons (DE.is (de_catT ?_ (de_catT ?_ (de_slT (de_v 3) dp_none (dp_some (de_v 5))) (de_tup (da_cons (de_v 2) da_nil))) (de_slT (j := none) (i := some ((b + 1 : Nat) : Int)) (de_v 3) (dp_some (DE.is (de_add (de_v 5) de_int) ?_)) dp_none)) ?_) (da_cons (de_v 4) da_nil))) rfl)))))))
      · rw [cutG_to (by rw [psD_len]; omega), cutG_from, List.length_append, List.length_take, List.length_drop, psD_len]
        show min b ps.length + 1 + (ps.length - (b + 1)) ≤ 100000
        omega
      · rw [cutG_to (by rw [psD_len]; omega), List.length_take, psD_len]
        show min b ps.length + 1 ≤ 100000
        omega
      · show DV.int ((b : Int) + 1) = DV.int ((b + 1 : Nat) : Int)
        congr 1
      · rw [cutG_to (by rw [psD_len]; omega), cutG_from, set_cut (by rw [psD_len]; exact hb)]
        unfold psD
        rw [List.map_set]
    · subst e ed
      exact dss_cons (ds_asg (de_v 0) (dg_tup (dgs_cons (dg_n 3 scPut.nd) (dgs_cons (dg_n 4 scPut.nd) dgs_nil))) (dss_cons (ds_if (x := true) (DT.is (dt_eqS (de_ixT (xs := [.str "order", .tup (odD o)]) (i := 0) (d := .str "order") rfl (de_v 1) de_int) de_str) (by decide +kernel)) (fun _ => dss_one (ds_ret (de_tup (da_cons (de_v 3) (da_cons (de_v 2) da_nil))) rfl)) fun h => by cases h)))
theorem scSAfter : FnScope ["state", "write"] ["state", "write"] (defScope sSAfter) := ⟨rfl, rfl, rfl, by decide +kernel, rfl, by decide +kernel, by decide +kernel⟩
def R_safter : List DV → DV → Prop := fun ds d => ∃ ps od w, okW ps.length w ∧ ps.length ≤ 4 ∧ ds = [stD ps od, Wr.d w] ∧ d = stD (afterP ps w) (afterO od w)
theorem ok_safter (Pu : Fn g 1 "put_content" R_put) {f : Addr} {fd : FuncData} (F : Fun g.K "state_after" "state_after" sSAfter f fd) : FnOk g.P g.w g.K g.mg g.base CX0 2 f fd ["state", "write"] (spR g.K R_safter) := by
  refine fn_ok F scSAfter (fun ds d ⟨ps, od, w, _, _, e, _⟩ => by rw [e]; rfl) fun ds d ⟨ps, od, w, h, hps, e, ed⟩ => ?_
  subst e ed
  cases w with
  | piece b p => exact dss_one (ds_ret (de_call Pu (da_cons (de_v 0) (da_cons (de_v 1) (da_cons (de_ixT (xs := [.str "piece", .int b, .str p]) (i := -1) (d := .str p) rfl (de_v 1) (de_neg de_int)) da_nil))) (.inl ⟨ps, od, b, p, p, h, hps, rfl, rfl⟩)) rfl)
  | order o => exact dss_one (ds_ret (de_call Pu (da_cons (de_v 0) (da_cons (de_v 1) (da_cons (de_ixT (xs := [.str "order", .tup (odD o)]) (i := -1) (d := .tup (odD o)) rfl (de_v 1) (de_neg de_int)) da_nil))) (.inr ⟨ps, od, o, o, rfl, rfl⟩)) rfl)
end SP

namespace SP
open PySem PySem.Spec PyProof.Rows L2 PD
variable {g : Gb}
theorem scSWrite : FnScope ["letters", "state", "value", "pieces", "order"] ["letters", "state", "value"] (defScope sSWrite) := ⟨rfl, rfl, rfl, by decide +kernel, rfl, by decide +kernel, by decide +kernel⟩
def R_swrite : List DV → DV → Prop := fun ds d => ∃ (ls : Str) (ps : List Str) (od : List Nat) (v : DV), ps.length ≤ 4 ∧ fit v = true ∧ ds = [.str ls, stD ps od, v] ∧ d = .bl (isWr ls ps od v)
theorem fits2 {a b : DV} (h : fits [a, b] = true) : fit a = true ∧ fit b = true := ⟨fits_mem h (by simp), fits_mem h (by simp)⟩
theorem fits3 {a b c : DV} (h : fits [a, b, c] = true) : fit a = true ∧ fit b = true ∧ fit c = true := ⟨fits_mem h (by simp), fits_mem h (by simp), fits_mem h (by simp)⟩
theorem ok_swrite (B : Bt g) (Pi : Fn g 2 "is_piece" R_piece) (Bl : Fn g 2 "is_block" R_block) (Od : Fn g 3 "is_order" R_order) {f : Addr} {fd : FuncData} (F : Fun g.K "is_state_write" "is_state_write" sSWrite f fd) : FnOk g.P g.w g.K g.mg g.base CX0 4 f fd ["letters", "state", "value"] (spR g.K R_swrite) := by
  refine fn_ok F scSWrite (fun ds d ⟨ls, ps, od, v, _, _, e, _⟩ => by rw [e]; rfl) fun ds d ⟨ls, ps, od, v, hps, hf, e, ed⟩ => ?_
  subst e ed
  have hk := fit_obj hf
  refine dss_cons (ds_asg (de_v 1) (dg_tup (dgs_cons (dg_n 3 scSWrite.nd) (dgs_cons (dg_n 4 scSWrite.nd) dgs_nil))) ?_)
  cases v with
  | tup xs =>
    obtain ⟨hl, hfs⟩ := fit_tup hf
    have stop : ∀ (E : Po), E.rt (.bl false) → (!inD (.int xs.length) [.int 2, .int 3]) = true → DSs g ⟨3, ["letters", "state", "value", "pieces", "order"], defScope sSWrite, fun _ => true, true, none⟩ ((defBody sSWrite).drop 1) [.val (.str ls), .val (stD ps od), .val (.tup xs), .val (.tup (psD ps)), .val (.tup (odD od))] E := fun E hE hn =>
      dss_cons (ds_if (x := true) (dt_w (dw_or (x := false) (y := true) (dt_not (dt_e (de_isTup B hk (de_v 2)))) fun _ => dw_or (x := true) (y := true) (DT.is (dt_notIn rfl rfl rfl (de_len B.len rfl (de_v 2)) (de_tup (da_cons de_int (da_cons de_int da_nil)))) hn) fun z => by cases z)) (fun h => dss_one (ds_ret de_bl hE)) fun h => by cases h)
    have go : ∀ (E : Po) (a : DV) (r : List DV), xs = a :: r → (!inD (.int xs.length) [.int 2, .int 3]) = false → (a.isStr = false → E.rt (.bl false)) → (a.isStr = true → DSs g ⟨3, ["letters", "state", "value", "pieces", "order"], defScope sSWrite, fun _ => true, true, none⟩ ((defBody sSWrite).drop 2) [.val (.str ls), .val (stD ps od), .val (.tup xs), .val (.tup (psD ps)), .val (.tup (odD od))] E) →
        DSs g ⟨3, ["letters", "state", "value", "pieces", "order"], defScope sSWrite, fun _ => true, true, none⟩ ((defBody sSWrite).drop 1) [.val (.str ls), .val (stD ps od), .val (.tup xs), .val (.tup (psD ps)), .val (.tup (odD od))] E := fun E a r ex hn h1 h2 => by
      have ha : fit a = true := fits_mem hfs (by rw [ex]; exact List.mem_cons_self ..)
      refine dss_cons (ds_if (x := !a.isStr) (DT.is (dt_w (dw_or (x := false) (y := !a.isStr) (dt_not (dt_e (de_isTup B hk (de_v 2)))) fun _ => dw_or (x := false) (y := !a.isStr) (DT.is (dt_notIn rfl rfl rfl (de_len B.len rfl (de_v 2)) (de_tup (da_cons de_int (da_cons de_int da_nil)))) hn) fun _ => dw_or1 (dt_not (dt_e (de_isStr B (fit_obj ha) (de_ixT (xs := xs) (i := 0) (d := a) (by rw [ex]; exact atI_nat (j := 0) rfl) (de_v 2) de_int)))))) (by simp)) (fun h => dss_one (ds_ret de_bl (h1 (by simpa using h)))) fun h => dss_nil (h2 (by simpa using h)))
    match xs, hfs, hf, stop, go with
    | [], _, _, stop, _ => exact stop _ rfl rfl
    | [a], _, _, stop, _ => exact stop _ (by show DV.bl false = DV.bl (isWr ls ps od (.tup [a])); cases a <;> rfl) rfl
    | [a, b], hfs, hf, _, go =>
      refine go _ a [b] rfl rfl (fun h => ?_) fun h => ?_
      · show DV.bl false = DV.bl (isWr ls ps od (.tup [a, b]))
        cases a <;> first | rfl | cases h
      · obtain ⟨s, rfl⟩ : ∃ s, a = .str s := by cases a <;> first | exact ⟨_, rfl⟩ | cases h
        obtain ⟨h1, h2⟩ := fits2 hfs
        refine dss_cons (ds_if (x := true) (DT.is (dt_eqI (de_len (ds := [.str s, b]) B.len rfl (de_v 2)) de_int) (show decide ((2 : Int) = 2) = true by decide)) (fun _ => dss_one (ds_ret (d := .bl (isWr ls ps od (.tup [.str s, b]))) (DE.is (de_and (x := decide (s = "order")) (y := isOrder ps.length b && !b.eqv (.tup (odD od))) (de_eqS (de_ixT (xs := [.str s, b]) (i := 0) (d := .str s) rfl (de_v 2) de_int) de_str) fun _ => de_and (x := isOrder ps.length b)
          (de_call Od (da_cons (de_len B.len rfl (de_v 3)) (da_cons (de_ixT (xs := [.str s, b]) (i := 1) (d := b) rfl (de_v 2) de_int) da_nil)) ⟨ps.length, b, by rw [psD_len], h2, rfl⟩) fun ho => de_one ?_) ?_) rfl)) fun h => by cases h)
        · obtain ⟨o, rfl, _, _⟩ := isOrder_form ho
          exact de_neD (ok_odD _) (ok_odD _) (de_ixT (xs := [.str s, .tup (odD o)]) (i := 1) (d := .tup (odD o)) rfl (de_v 2) de_int) (de_v 4)
        · show DV.bl _ = DV.bl (decide (s = "order") && isOrder ps.length b && !b.eqv (.tup (odD od)))
          rw [Bool.and_assoc]
    | [a, b, c], hfs, hf, _, go =>
      refine go _ a [b, c] rfl rfl (fun h => ?_) fun h => ?_
      · show DV.bl false = DV.bl (isWr ls ps od (.tup [a, b, c]))
        cases a <;> first | rfl | cases h
      · obtain ⟨s, rfl⟩ : ∃ s, a = .str s := by cases a <;> first | exact ⟨_, rfl⟩ | cases h
        obtain ⟨h1, h2, h3⟩ := fits3 hfs
        refine dss_cons (ds_if (x := false) (DT.is (dt_eqI (de_len (ds := [.str s, b, c]) B.len rfl (de_v 2)) de_int) (show decide ((3 : Int) = 2) = false by decide)) (fun h => by cases h) fun _ => dss_nil (dss_cons (ds_if (x := !decide (s = "piece") || !isBlock ps.length b) (dt_w (dw_or (y := !isBlock ps.length b) (dt_neS (de_ixT (xs := [.str s, b, c]) (i := 0) (d := .str s) rfl (de_v 2) de_int) de_str) fun _ => dw_or1 (dt_not (dt_e
          (de_call Bl (da_cons (de_len B.len rfl (de_v 3)) (da_cons (de_ixT (xs := [.str s, b, c]) (i := 1) (d := b) rfl (de_v 2) de_int) da_nil)) ⟨ps.length, b, by rw [psD_len], h2, rfl⟩))))) (fun h => dss_one (ds_ret de_bl ?_)) fun h => dss_nil ?_)))
        · show DV.bl false = DV.bl (decide (s = "piece") && isBlock ps.length b && isWord ls 2 c && _)
          congr 1
          cases q1 : decide (s = "piece") <;> cases q2 : isBlock ps.length b <;> rw [q1, q2] at h <;> first | rfl | cases h
        · have hs : decide (s = "piece") = true ∧ isBlock ps.length b = true := by
            cases q1 : decide (s = "piece") <;> cases q2 : isBlock ps.length b <;> rw [q1, q2] at h <;> first | exact ⟨rfl, rfl⟩ | cases h
          obtain ⟨i, rfl⟩ : ∃ i, b = .int i := by cases b <;> first | exact ⟨_, rfl⟩ | exact absurd hs.2 (by simp [isBlock])
          have hb := hs.2
          unfold isBlock at hb
          rw [Bool.and_eq_true, decide_eq_true_eq, decide_eq_true_eq] at hb
          obtain ⟨k, rfl⟩ : ∃ k : Nat, i = (k : Int) := ⟨i.toNat, by omega⟩
          have hk' : k < ps.length := by omega
          refine dss_one (ds_ret (d := .bl (isWr ls ps od (.tup [.str s, .int k, c]))) (DE.is (de_and (x := isWord ls 2 c) (y := !(match c with | .str z => decide (z = oldP ps k) | _ => false)) (de_call Pi (da_cons (de_v 0) (da_cons (de_ixT (xs := [.str s, .int k, c]) (i := 2) (d := c) rfl (de_v 2) de_int) da_nil)) ⟨ls, c, rfl, h3, rfl⟩) fun hw => de_one ?_) ?_) rfl)
          · cases c <;> first | cases hw | skip
            exact de_neS (de_ixT (xs := [.str s, .int k, .str _]) (i := 2) (d := .str _) rfl (de_v 2) de_int) (de_ixT (atI_nat (psD_get (get_piece hk'))) (de_v 3) (de_ixT (xs := [.str s, .int k, .str _]) (i := 1) (d := .int k) rfl (de_v 2) de_int))
          · show DV.bl _ = DV.bl (decide (s = "piece") && isBlock ps.length (.int k) && isWord ls 2 c && !_)
            rw [hs.1, hs.2]
            cases c <;> rfl
    | a :: b :: c :: d :: r, _, _, stop, _ =>
      refine stop _ ?_ ?_
      · show DV.bl false = DV.bl (isWr ls ps od (.tup (a :: b :: c :: d :: r)))
        cases a <;> rfl
      · have e : ∀ n : Int, 4 ≤ n → inD (.int n) [.int 2, .int 3] = false := fun n hn => by
          show ((2 : Int) == n || ((3 : Int) == n || false)) = false
          rw [Bool.or_false, Bool.or_eq_false_iff, beq_eq_false_iff_ne, beq_eq_false_iff_ne]
          constructor <;> omega
        rw [e _ (by simp only [List.length_cons]; omega)]
        rfl
  | _ => exact dss_cons (ds_if (x := true) (dt_w (dw_or (x := true) (y := true) (dt_not (dt_e (de_isTup B hk (de_v 2)))) fun z => by cases z)) (fun h => dss_one (ds_ret de_bl rfl)) fun h => by cases h)
end SP

namespace SP
open PySem L2 PD
/-- a write that changes something -/
def chg (ps : List Str) (od : List Nat) : Wr → Bool
  | .piece b p => !decide (p = oldP ps b) | .order o => !decide (o = od)
theorem isWr_d {ls : Str} {ps : List Str} {od : List Nat} {w : Wr} (h : VW ls ps.length w) : isWr ls ps od w.d = chg ps od w := by
  cases w with
  | piece b p =>
    show (decide (("piece" : Str) = "piece") && isBlock ps.length (.int b) && isWord ls 2 (.str p) && !decide (p = oldP ps (b : Int).toNat)) = _
    have e1 : isBlock ps.length (.int b) = true := by
      show (decide ((0 : Int) ≤ b) && decide ((b : Int) < ps.length)) = true
      have := h.1
      rw [decide_eq_true (by omega), decide_eq_true (by omega)]
      rfl
    have e2 : isWord ls 2 (.str p) = true := h.2
    rw [e1, e2, Int.toNat_natCast, decide_eq_true rfl]
    rfl
  | order o =>
    show (decide (("order" : Str) = "order") && isOrder ps.length (.tup (odD o)) && !(DV.tup (odD o)).eqv (.tup (odD od))) = _
    rw [isOrder_of h.1 h.2, eqv_odD, decide_eq_true rfl]
    rfl
theorem pieces_word {ls : Str} (h : letterSet ls) : ∀ p ∈ piecesOf ls, wordOk ls 2 p = true := by rcases h with rfl | rfl <;> decide +kernel
theorem orders_ok {n : Nat} (h : n ≤ 4) : ∀ o ∈ ordersOf n, o.length ≤ 3 ∧ ∀ b ∈ o, b < n := by
  have z : ∀ n ≤ 4, ∀ o ∈ ordersOf n, o.length ≤ 3 ∧ ∀ b ∈ o, b < n := by decide +kernel
  exact z n h
theorem writes_ok {ls : Str} {ps : List Str} {od : List Nat} (v : VS ls ps od) : ∀ w ∈ writesOf ls ps od, VW ls ps.length w ∧ chg ps od w = true := by
  intro w hw
  unfold writesOf at hw
  rcases List.mem_append.mp hw with hw | hw
  · rw [List.mem_flatMap] at hw
    obtain ⟨q, hq, hw⟩ := hw
    rw [List.mem_map] at hw
    obtain ⟨p, hp, rfl⟩ := hw
    rw [List.mem_filter] at hp
    obtain ⟨q1, b⟩ := q
    have hb := List.mem_zipIdx_iff_getElem?.mp hq
    obtain ⟨hb1, hb2⟩ := List.getElem?_eq_some_iff.mp hb
    refine ⟨⟨hb1, pieces_word v.hls p hp.1⟩, ?_⟩
    have e : oldP ps b = q1 := by
      have := get_piece hb1
      rw [hb] at this
      exact (Option.some.inj this).symm
    show (!decide (p = oldP ps b)) = true
    rw [e]
    exact hp.2
  · rw [List.mem_map] at hw
    obtain ⟨o, ho, rfl⟩ := hw
    rw [List.mem_filter] at ho
    exact ⟨orders_ok v.hps o ho.1, ho.2⟩
/-- writes one after the other -/
def chain (ls : Str) : List Str → List Nat → List Wr → Prop
  | _, _, [] => True
  | ps, od, w :: ws => VW ls ps.length w ∧ chg ps od w = true ∧ chain ls (afterP ps w) (afterO od w) ws
def endP : List Str → List Wr → List Str
  | ps, [] => ps
  | ps, w :: ws => endP (afterP ps w) ws
def endO : List Nat → List Wr → List Nat
  | od, [] => od
  | od, w :: ws => endO (afterO od w) ws
theorem afterP_len (ps : List Str) (w : Wr) : (afterP ps w).length = ps.length := by
  cases w with
  | piece b p => exact List.length_set ..
  | order o => rfl
theorem chain_snoc {ls : Str} : ∀ {ws : List Wr} {ps : List Str} {od : List Nat} {w : Wr}, chain ls ps od ws → VW ls (endP ps ws).length w → chg (endP ps ws) (endO od ws) w = true → chain ls ps od (ws ++ [w])
  | [], _, _, _, _, h1, h2 => ⟨h1, h2, trivial⟩
  | _ :: ws, _, _, _, h, h1, h2 => ⟨h.1, h.2.1, chain_snoc (ws := ws) h.2.2 h1 h2⟩
theorem endP_snoc : ∀ (ws : List Wr) (ps : List Str) (w : Wr), endP ps (ws ++ [w]) = afterP (endP ps ws) w
  | [], _, _ => rfl
  | _ :: ws, ps, w => endP_snoc ws _ w
theorem endO_snoc : ∀ (ws : List Wr) (od : List Nat) (w : Wr), endO od (ws ++ [w]) = afterO (endO od ws) w
  | [], _, _ => rfl
  | _ :: ws, od, w => endO_snoc ws _ w
theorem chain_take {ls : Str} : ∀ {ws : List Wr} {ps : List Str} {od : List Nat}, chain ls ps od ws → ∀ {i : Nat} {w : Wr}, ws[i]? = some w → VW ls (endP ps (ws.take i)).length w ∧ chg (endP ps (ws.take i)) (endO od (ws.take i)) w = true
  | [], _, _, _, _, _, h => by simp at h
  | w :: ws, ps, od, c, 0, u, h => by
    have e : w = u := Option.some.inj h
    subst e
    exact ⟨c.1, c.2.1⟩
  | w :: ws, ps, od, c, i + 1, u, h => chain_take (ws := ws) c.2.2 (i := i) h
theorem VS.chain {ls : Str} : ∀ {ws : List Wr} {ps : List Str} {od : List Nat}, VS ls ps od → SP.chain ls ps od ws → VS ls (endP ps ws) (endO od ws)
  | [], _, _, v, _ => v
  | w :: ws, _, _, v, c => VS.chain (ws := ws) (v.after c.1) c.2.2
theorem chain_pre {ls : Str} : ∀ {ws : List Wr} {ps : List Str} {od : List Nat} (i : Nat), chain ls ps od ws → chain ls ps od (ws.take i)
  | [], _, _, i, c => by rw [List.take_nil]; exact c
  | w :: ws, _, _, 0, c => trivial
  | w :: ws, _, _, i + 1, c => ⟨c.1, c.2.1, chain_pre (ws := ws) i c.2.2⟩
/-- the states on the way, from the file's own -/
def statesD (ps : List Str) (od : List Nat) (ws : List Wr) : List DV := (List.range (ws.length + 1)).map fun i => stD (endP ps (ws.take i)) (endO od (ws.take i))
theorem statesD_snoc (ps : List Str) (od : List Nat) (ws : List Wr) (i : Nat) (h : i < ws.length) : statesD ps od (ws.take (i + 1)) = statesD ps od (ws.take i) ++ [stD (endP ps (ws.take (i + 1))) (endO od (ws.take (i + 1)))] := by
  unfold statesD
  have l1 : (ws.take (i + 1)).length = i + 1 := by rw [List.length_take]; omega
  have l2 : (ws.take i).length = i := by rw [List.length_take]; omega
  rw [l1, l2, List.range_succ, List.map_append]
  congr 1
  · refine List.map_congr_left fun j hj => ?_
    rw [List.mem_range] at hj
    rw [List.take_take, List.take_take, Nat.min_eq_left (by omega), Nat.min_eq_left (by omega)]
  · show [stD (endP ps ((ws.take (i + 1)).take (i + 1))) (endO od ((ws.take (i + 1)).take (i + 1)))] = _
    rw [List.take_take, Nat.min_self]
theorem statesD_last (ps : List Str) (od : List Nat) (ws : List Wr) : atI (statesD ps od ws) (-1) = some (stD (endP ps ws) (endO od ws)) := by
  unfold statesD
  rw [List.range_succ, List.map_append]
  have e : ([ws.length] : List Nat).map (fun i => stD (endP ps (ws.take i)) (endO od (ws.take i))) = [stD (endP ps ws) (endO od ws)] := by
    show [stD (endP ps (ws.take ws.length)) (endO od (ws.take ws.length))] = _
    rw [List.take_length]
  rw [e]
  unfold atI ixN
  rw [List.length_append, List.length_map, List.length_range, if_neg (by omega)]
  rw [if_pos (by simp; omega)]
  show ((_ : List DV))[((-1 : Int) + ((ws.length + [stD (endP ps ws) (endO od ws)].length : Nat) : Int)).toNat]? = _
  rw [show ((-1 : Int) + ((ws.length + [stD (endP ps ws) (endO od ws)].length : Nat) : Int)).toNat = ws.length by simp; omega]
  rw [List.getElem?_append_right (by rw [List.length_map, List.length_range]; exact Nat.le_refl _), List.length_map, List.length_range, Nat.sub_self]
  rfl
end SP

namespace SP
open PySem PySem.Spec PyProof.Rows L2 PD
variable {g : Gb}
theorem every_ok {ls : Str} (hls : letterSet ls) {n : Nat} (hn : n ≤ 4) : ∀ w ∈ everyOf ls n, VW ls n w := by
  intro w hw
  unfold everyOf at hw
  rcases List.mem_append.mp hw with hw | hw
  · rw [List.mem_flatMap] at hw
    obtain ⟨b, hb, hw⟩ := hw
    rw [List.mem_map] at hw
    obtain ⟨p, hp, rfl⟩ := hw
    exact ⟨List.mem_range.mp hb, pieces_word hls p hp⟩
  · rw [List.mem_map] at hw
    obtain ⟨o, ho, rfl⟩ := hw
    exact orders_ok hn o ho
end SP

namespace SP
open PySem PySem.Spec PyProof.Rows L2 PD
variable {g : Gb}
/-- the module's numbers and letters -/
structure Cf (g : Gb) : Prop where
  mb : ∃ t, g.mg "MOST_BLOCKS" = some (.int 4 t)
  mp : ∃ t, g.mg "MOST_PRICE" = some (.int 5 t)
  sets : ∃ T, g.mg "LETTER_SETS" = some (.ref T) ∧ ∀ S, Rp g.K S (.ref T) (.tup [.str "ab", .str "abc"])
def isLets : DV → Bool
  | .str z => inD (.str z) [.str "ab", .str "abc"] | _ => false
theorem scIsLetters : FnScope ["value"] ["value"] (defScope sIsLetters) := ⟨rfl, rfl, rfl, by decide +kernel, rfl, by decide +kernel, by decide +kernel⟩
def R_isl : List DV → DV → Prop := fun ds d => ∃ v, fit v = true ∧ ds = [v] ∧ d = .bl (isLets v)
theorem ok_isl (B : Bt g) (C : Cf g) {f : Addr} {fd : FuncData} (F : Fun g.K "is_letters" "is_letters" sIsLetters f fd) : FnOk g.P g.w g.K g.mg g.base CX0 1 f fd ["value"] (spR g.K R_isl) := by
  refine fn_ok F scIsLetters (fun ds d ⟨v, _, e, _⟩ => by rw [e]; rfl) fun ds d ⟨v, hf, e, ed⟩ => ?_
  subst e ed
  have hk := fit_obj hf
  obtain ⟨T, hT, hr⟩ := C.sets
  cases v with
  | str z => exact dss_one (ds_ret (de_and (x := true) (de_isStr B hk (de_v 0)) fun _ => de_one (de_in rfl rfl rfl (de_v 0) (de_gl (v := .ref T) hT rfl hr))) rfl)
  | _ => exact dss_one (ds_ret (de_and (x := false) (y := true) (de_isStr B hk (de_v 0)) fun z => by cases z) rfl)
def arePieces (ls : Str) : DV → Bool
  | .tup xs => (decide (1 ≤ xs.length) && decide (xs.length ≤ 4)) && xs.all (isWord ls 2) | _ => false
theorem scArePieces : FnScope ["letters", "value", "piece"] ["letters", "value"] (defScope sArePieces) := ⟨rfl, rfl, rfl, by decide +kernel, rfl, by decide +kernel, by decide +kernel⟩
def R_arep : List DV → DV → Prop := fun ds d => ∃ (ls : Str) (v : DV), fit v = true ∧ ds = [.str ls, v] ∧ d = .bl (arePieces ls v)
theorem ok_arep (B : Bt g) (C : Cf g) (Pi : Fn g 2 "is_piece" R_piece) {f : Addr} {fd : FuncData} (F : Fun g.K "are_pieces" "are_pieces" sArePieces f fd) : FnOk g.P g.w g.K g.mg g.base CX0 3 f fd ["letters", "value"] (spR g.K R_arep) := by
  refine fn_ok F scArePieces (fun ds d ⟨ls, v, _, e, _⟩ => by rw [e]; rfl) fun ds d ⟨ls, v, hf, e, ed⟩ => ?_
  subst e ed
  have hk := fit_obj hf
  obtain ⟨t, ht⟩ := C.mb
  cases v with
  | tup xs =>
    obtain ⟨hl, hfs⟩ := fit_tup hf
    refine dss_cons (ds_if (x := !(decide (1 ≤ xs.length) && decide (xs.length ≤ 4))) (DT.is (dt_w (dw_or (x := false) (dt_not (dt_e (de_isTup B hk (de_v 1)))) fun _ => dw_or1 (dt_not (dt_leLe de_int (de_len B.len rfl (de_v 1)) (de_gl (v := .int 4) ht ⟨t, rfl⟩ fun S => .int 4))))) ?_) (fun h => dss_one (ds_ret de_bl ?_)) fun h => dss_nil (dss_one (ds_ret (de_all (bs := xs.map (isWord ls 2)) B.all (DE.is (dl_rL (own := [("piece", 2)]) scArePieces.nd (by decide +kernel) (rL.ev (is := [2]) (di_t (de_v 1)) hl (by decide)
      (fun d => [.val (.str ls), .val (.tup xs), .val d]) (fun _ => true) (fun d => .bl (isWord ls 2 d)) (fun d hd => dg_n 2 scArePieces.nd) (fun d hd => dts_nil) (fun d hd _ => de_call Pi (da_cons (de_v 0) (da_cons (de_v 2) da_nil)) ⟨ls, d, rfl, fits_mem hfs hd, rfl⟩))).de ?_)) ?_)))
    · rw [Bool.false_or]
      congr 1
      congr 1 <;> exact decide_eq_decide.mpr (by omega)
    · show DV.bl false = DV.bl (_ && _)
      rw [Bool.not_eq_true'] at h
      rw [h]
      rfl
    · rw [filt, List.map_map]
      rfl
    · show DV.bl _ = DV.bl (_ && _)
      rw [Bool.not_eq_false'] at h
      rw [h, List.all_map]
      rfl
  | _ => exact dss_cons (ds_if (x := true) (dt_w (dw_or (x := true) (y := true) (dt_not (dt_e (de_isTup B hk (de_v 1)))) fun z => by cases z)) (fun h => dss_one (ds_ret de_bl rfl)) fun h => by cases h)
def isPrice : DV → Bool
  | .int i => decide (1 ≤ i) && decide (i ≤ 5) | _ => false
theorem scIsPrice : FnScope ["value"] ["value"] (defScope sIsPrice) := ⟨rfl, rfl, rfl, by decide +kernel, rfl, by decide +kernel, by decide +kernel⟩
def R_price : List DV → DV → Prop := fun ds d => ∃ v, fit v = true ∧ ds = [v] ∧ d = .bl (isPrice v)
theorem ok_price (C : Cf g) (N : Fn g 1 "is_number" R_number) {f : Addr} {fd : FuncData} (F : Fun g.K "is_price" "is_price" sIsPrice f fd) : FnOk g.P g.w g.K g.mg g.base CX0 2 f fd ["value"] (spR g.K R_price) := by
  refine fn_ok F scIsPrice (fun ds d ⟨v, _, e, _⟩ => by rw [e]; rfl) fun ds d ⟨v, hf, e, ed⟩ => ?_
  subst e ed
  have hk := fit_obj hf
  obtain ⟨t, ht⟩ := C.mp
  cases v with
  | int i => exact dss_one (ds_ret (de_and (x := true) (de_call N (da_cons (de_v 0) da_nil) ⟨_, rfl, hk, rfl⟩) fun _ => de_one (de_leLe de_int (de_v 0) (de_gl (v := .int 5) ht ⟨t, rfl⟩ fun S => .int 5))) rfl)
  | _ => exact dss_one (ds_ret (de_and (x := false) (y := true) (de_call N (da_cons (de_v 0) da_nil) ⟨_, rfl, hk, rfl⟩) fun z => by cases z) rfl)
/-! the class -/
def fgs (ls : Str) (ps : List Str) (od : List Nat) (pp op : Int) (tn : Bool) : List (Str × DV) := [("_letters", .str ls), ("_pieces", .tup (psD ps)), ("_order", .tup (odD od)), ("_piece_price", .int pp), ("_order_price", .int op), ("_torn", .bl tn)]
theorem fgs_ls {ls ps od pp op tn} : (fgs ls ps od pp op tn).lookup ("_letters" : Str) = some (.str ls) := by unfold fgs; rw [List.lookup_cons_self]
theorem look_ne {n m : Str} {d : DV} {r : List (Str × DV)} (h : (n == m) = false) : List.lookup n ((m, d) :: r) = List.lookup n r := by rw [List.lookup_cons, h]
theorem fgs_ps {ls ps od pp op tn} : (fgs ls ps od pp op tn).lookup ("_pieces" : Str) = some (.tup (psD ps)) := by unfold fgs; rw [look_ne (by decide +kernel), List.lookup_cons_self]
theorem fgs_od {ls ps od pp op tn} : (fgs ls ps od pp op tn).lookup ("_order" : Str) = some (.tup (odD od)) := by unfold fgs; rw [look_ne (by decide +kernel), look_ne (by decide +kernel), List.lookup_cons_self]
theorem fgs_pp {ls ps od pp op tn} : (fgs ls ps od pp op tn).lookup ("_piece_price" : Str) = some (.int pp) := by unfold fgs; rw [look_ne (by decide +kernel), look_ne (by decide +kernel), look_ne (by decide +kernel), List.lookup_cons_self]
theorem fgs_op {ls ps od pp op tn} : (fgs ls ps od pp op tn).lookup ("_order_price" : Str) = some (.int op) := by unfold fgs; rw [look_ne (by decide +kernel), look_ne (by decide +kernel), look_ne (by decide +kernel), look_ne (by decide +kernel), List.lookup_cons_self]
theorem fgs_tn {ls ps od pp op tn} : (fgs ls ps od pp op tn).lookup ("_torn" : Str) = some (.bl tn) := by unfold fgs; rw [look_ne (by decide +kernel), look_ne (by decide +kernel), look_ne (by decide +kernel), look_ne (by decide +kernel), look_ne (by decide +kernel), List.lookup_cons_self]
structure Fl (g : Gb) (C : Addr) : Prop where
  kl : Kl g C "File"
  n1 : NoAttr g.K C "_letters"
  n2 : NoAttr g.K C "_pieces"
  n3 : NoAttr g.K C "_order"
  n4 : NoAttr g.K C "_piece_price"
  n5 : NoAttr g.K C "_order_price"
  n6 : NoAttr g.K C "_torn"
/-- return self.x -/
def R_get (C : Addr) (n : Str) : List DV → DV → Prop := fun ds d => ∃ gs, ds = [.obj C gs] ∧ gs.lookup n = some d
theorem ok_get {C : Addr} {x qual n : Str} {st : Stmt} {p1 p2 p3 : Pos} {f : Addr} {fd : FuncData} (c : Cls g.K C) (hn : NoAttr g.K C n) (S : FnScope ["self"] ["self"] (defScope st)) (hb : defBody st = [.Return (some (.Attribute (.Name "self" p1) n p2)) p3]) (F : Fun g.K x qual st f fd) : FnOk g.P g.w g.K g.mg g.base CX0 1 f fd ["self"] (spR g.K (R_get C n)) := by
  refine fn_ok F S (fun ds d ⟨gs, e, _⟩ => by rw [e]; rfl) fun ds d ⟨gs, e, hl⟩ => ?_
  subst e
  rw [hb]
  exact dss_one (ds_ret (de_fld c hn hl (de_v 0 rfl rfl ((S.par "self" (List.Mem.head _)).elim (fun z => .inl z) fun z => .inr (.inl z)))) rfl)
def fileD (C : Addr) (ls : Str) (ps : List Str) (od : List Nat) (pp op : Int) (tn : Bool) : DV := .obj C (fgs ls ps od pp op tn)
theorem range_int {lo : Int} {n : Nat} {d : DV} (h : d ∈ rangeD lo n) : ∃ i, d = .int i := by
  unfold rangeD at h
  rw [List.mem_map] at h
  obtain ⟨b, _, rfl⟩ := h
  exact ⟨_, rfl⟩
theorem scFLen : FnScope ["self"] ["self"] (defScope sFLen) := ⟨rfl, rfl, rfl, by decide +kernel, rfl, by decide +kernel, by decide +kernel⟩
def R_flen (C : Addr) : List DV → DV → Prop := fun ds d => ∃ ls ps od pp op tn, ds = [fileD C ls ps od pp op tn] ∧ d = .int (ps.length : Nat)
theorem ok_flen {C : Addr} (B : Bt g) (L : Fl g C) {f : Addr} {fd : FuncData} (F : Fun g.K "__len__" "File.__len__" sFLen f fd) : FnOk g.P g.w g.K g.mg g.base CX0 1 f fd ["self"] (spR g.K (R_flen C)) := by
  refine fn_ok F scFLen (fun ds d ⟨ls, ps, od, pp, op, tn, e, _⟩ => by rw [e]; rfl) fun ds d ⟨ls, ps, od, pp, op, tn, e, ed⟩ => ?_
  subst e ed
  exact dss_one (ds_ret (de_len B.len rfl (de_fld L.kl.c L.n2 fgs_ps (de_v 0))) (by rw [psD_len]))
end SP

namespace SP
open PySem PySem.Spec PyProof.Rows L2 PD
variable {g : Gb}
theorem word_ok {ls z : Str} {m : Nat} (hl : letterSet ls) (h : wordOk ls m z = true) : PyData.strOk z = true := by
  unfold wordOk at h
  rw [Bool.and_eq_true] at h
  unfold PyData.strOk
  rw [← Array.all_toList, List.all_eq_true]
  intro c hc
  have h1 := List.all_eq_true.mp h.2 c hc
  have h2 : c ∈ ls.cps.toList := of_decide_eq_true h1
  have h3 : ∀ c ∈ ls.cps.toList, c < 1114112 := by rcases hl with rfl | rfl <;> decide +kernel
  exact decide_eq_true (h3 c h2)
theorem plain_psD {ps : List Str} (h : ∀ p ∈ ps, PyData.strOk p = true) : plainAll (psD ps) = true := by
  induction ps with
  | nil => simp [psD, plainAll]
  | cons p ps ih =>
    show plainAll (DV.str p :: psD ps) = true
    rw [plainAll, ih fun q hq => h q (List.mem_cons_of_mem _ hq), DV.plain, h p (List.mem_cons_self ..)]
    rfl
theorem dep_psD : ∀ ps : List Str, depAll (psD ps) = 0
  | [] => by simp [psD, depAll]
  | p :: ps => by
    show depAll (DV.str p :: psD ps) = 0
    rw [depAll, dep_psD ps, DV.dep]
    rfl
theorem ok_psD {ps : List Str} (h : ∀ p ∈ ps, PyData.strOk p = true) : (DV.tup (psD ps)).ok = true := by
  unfold DV.ok
  rw [DV.plain, plain_psD h, DV.dep, dep_psD]
  rfl
theorem eqvAll_psD : ∀ a b : List Str, PyData.eqvAll (pdAll (psD a)) (pdAll (psD b)) = decide (a = b)
  | [], [] => by simp [psD, pdAll, PyData.eqvAll]
  | [], _ :: _ => by simp [psD, pdAll, PyData.eqvAll]
  | _ :: _, [] => by simp [psD, pdAll, PyData.eqvAll]
  | x :: a, y :: b => by
    have ih := eqvAll_psD a b
    show PyData.eqvAll (DV.pd (.str x) :: pdAll (psD a)) (DV.pd (.str y) :: pdAll (psD b)) = _
    rw [PyData.eqvAll, ih, DV.pd, DV.pd, PyData.eqv, Bool.eq_iff_iff]
    simp
theorem eqv_psD (a b : List Str) : (DV.tup (psD a)).eqv (.tup (psD b)) = decide (a = b) := by
  show PyData.eqv (DV.pd _) (DV.pd _) = _
  rw [DV.pd, DV.pd, PyData.eqv, eqvAll_psD]
theorem VS.str {ls : Str} {ps : List Str} {od : List Nat} (v : VS ls ps od) : ∀ p ∈ ps, PyData.strOk p = true := fun p hp => word_ok v.hls (v.hp p hp)
theorem scFEq : FnScope ["self", "other"] ["self", "other"] (defScope sFEq) := ⟨rfl, rfl, rfl, by decide +kernel, rfl, by decide +kernel, by decide +kernel⟩
def feq (ls ls' : Str) (ps ps' : List Str) (od od' : List Nat) (pp pp' op op' : Int) (tn tn' : Bool) : Bool := true && (decide (ls = ls') && (decide (ps = ps') && (decide (od = od') && (decide (pp = pp') && (decide (op = op') && (DV.bl tn).eqF (.bl tn'))))))
def R_feq (C : Addr) : List DV → DV → Prop := fun ds d => ∃ ls ls' ps ps' od od' pp pp' op op' tn tn', VS ls ps od ∧ VS ls' ps' od' ∧ ds = [fileD C ls ps od pp op tn, fileD C ls' ps' od' pp' op' tn'] ∧ d = .bl (feq ls ls' ps ps' od od' pp pp' op op' tn tn')
theorem ok_feq {C : Addr} (B : Bt g) (L : Fl g C) {f : Addr} {fd : FuncData} (F : Fun g.K "__eq__" "File.__eq__" sFEq f fd) : FnOk g.P g.w g.K g.mg g.base CX0 1 f fd ["self", "other"] (spR g.K (R_feq C)) := by
  refine fn_ok F scFEq (fun ds d ⟨ls, ls', ps, ps', od, od', pp, pp', op, op', tn, tn', _, _, e, _⟩ => by rw [e]; rfl) fun ds d ⟨ls, ls', ps, ps', od, od', pp, pp', op, op', tn, tn', v, v', e, ed⟩ => ?_
  subst e ed
  exact dss_one (ds_ret (de_and (x := true) (de_isOwn B L.kl (de_v 1)) fun _ => de_and (de_eqS (de_fld L.kl.c L.n1 fgs_ls (de_v 0)) (de_fld L.kl.c L.n1 fgs_ls (de_v 1))) fun _ =>
    de_and (x := decide (ps = ps')) (DE.is (de_eqD (ok_psD v.str) (ok_psD v'.str) (de_fld L.kl.c L.n2 fgs_ps (de_v 0)) (de_fld L.kl.c L.n2 fgs_ps (de_v 1))) (by rw [eqv_psD])) fun _ =>
    de_and (x := decide (od = od')) (DE.is (de_eqD (ok_odD od) (ok_odD od') (de_fld L.kl.c L.n3 fgs_od (de_v 0)) (de_fld L.kl.c L.n3 fgs_od (de_v 1))) (by rw [eqv_odD])) fun _ =>
    de_and (de_eqI (de_fld L.kl.c L.n4 fgs_pp (de_v 0)) (de_fld L.kl.c L.n4 fgs_pp (de_v 1))) fun _ => de_and (de_eqI (de_fld L.kl.c L.n5 fgs_op (de_v 0)) (de_fld L.kl.c L.n5 fgs_op (de_v 1))) fun _ =>
    de_one (de_cmp (fun X o => op_eq) (od_eqF rfl rfl rfl) (de_fld L.kl.c L.n6 fgs_tn (de_v 0)) (de_fld L.kl.c L.n6 fgs_tn (de_v 1)) (nomark _))) rfl)
/-! making a file -/
theorem scFInit : FnScope ["self", "letters", "pieces", "order", "piece_price", "order_price", "torn"] ["self", "letters", "pieces", "order", "piece_price", "order_price", "torn"] (defScope sFInit) := ⟨rfl, rfl, rfl, by decide +kernel, rfl, by decide +kernel, by decide +kernel⟩
def R_finit : List DV → List (Str × DV) → Prop := fun ds gs => ∃ ls ps od pp op tn, VS ls ps od ∧ (1 ≤ pp ∧ pp ≤ 5) ∧ (1 ≤ op ∧ op ≤ 5) ∧ ds = [.str ls, .tup (psD ps), .tup (odD od), .int pp, .int op, .bl tn] ∧ gs = fgs ls ps od pp op tn
theorem En.push {K : PySem.W.Frag} {H0 S H : Hp} {σ : L2.St} {ρ : Rho} (v : Option V) (n : En K H0 S H σ ρ) : En K H0 S H (v :: σ) (.un :: ρ) where
  len := congrArg (· + 1) n.len
  at_ := fun i u e a b => by
    cases i with
    | zero => cases b; trivial
    | succ i => exact n.at_ i u e a b
  sep := fun i j p q ds es hij a b c e => by
    cases i with
    | zero => cases a
    | succ i => cases j with
      | zero => cases b
      | succ j => exact n.sep i j p q ds es (fun z => hij (congrArg (· + 1) z)) a b c e
theorem if_skip {l : Lc} {c : Expr} {b : List Stmt} {t : TS} {D : Ends} {σ : L2.St} {S H H0 : Hp} {ρ : Rho} (h : DT g l c ρ false) (ex : Ex S H) (n : En g.K H0 S H σ ρ) (k : ∀ S' H', Go S H S' H' → t D σ H') : tSeq (tIfS (UT g l c) (USs g l b) tNext) t D σ H :=
  h H0 σ S H ex n _ fun S' H' g' => by
    rw [if_neg (by decide)]
    exact k S' H' g'
theorem fit_psD {ps : List Str} (h1 : ps.length ≤ 100000) (h : ∀ p ∈ ps, p.length ≤ 100000) : fit (.tup (psD ps)) = true := by
  rw [fit, Bool.and_eq_true, psD_len]
  refine ⟨decide_eq_true h1, ?_⟩
  have go : ∀ ps : List Str, (∀ p ∈ ps, p.length ≤ 100000) → fits (psD ps) = true := by
    intro ps
    induction ps with
    | nil => intro _; simp [psD, fits]
    | cons p ps ih =>
      intro h
      show fits (DV.str p :: psD ps) = true
      rw [fits, ih fun q hq => h q (List.mem_cons_of_mem _ hq), fit]
      rw [decide_eq_true (h p (List.mem_cons_self ..))]
      rfl
  exact go ps h
theorem fit_odD {od : List Nat} (h1 : od.length ≤ 100000) : fit (.tup (odD od)) = true := by
  rw [fit, Bool.and_eq_true, odD_len]
  refine ⟨decide_eq_true h1, ?_⟩
  have go : ∀ od : List Nat, fits (odD od) = true := by
    intro od
    induction od with
    | nil => simp [odD, fits]
    | cons p od ih =>
      show fits (DV.int (p : Int) :: odD od) = true
      rw [fits, ih, fit]
      rfl
  exact go od
theorem VS.fitP {ls : Str} {ps : List Str} {od : List Nat} (v : VS ls ps od) : fit (.tup (psD ps)) = true := fit_psD (Nat.le_trans v.hps (by decide)) fun p hp => Nat.le_trans (wordOk_len (v.hp p hp)) (by decide)
theorem VS.fitO {ls : Str} {ps : List Str} {od : List Nat} (v : VS ls ps od) : fit (.tup (odD od)) = true := fit_odD (Nat.le_trans v.hod (by decide))
theorem VS.isP {ls : Str} {ps : List Str} {od : List Nat} (v : VS ls ps od) : arePieces ls (.tup (psD ps)) = true := by
  show ((decide (1 ≤ (psD ps).length) && decide ((psD ps).length ≤ 4)) && (psD ps).all (isWord ls 2)) = true
  rw [psD_len, decide_eq_true v.hps1, decide_eq_true v.hps, Bool.true_and, Bool.true_and, List.all_eq_true]
  intro d hd
  unfold psD at hd
  rw [List.mem_map] at hd
  obtain ⟨p, hp, rfl⟩ := hd
  exact v.hp p hp
theorem lets_ok {ls : Str} (h : letterSet ls) : isLets (.str ls) = true := by rcases h with rfl | rfl <;> decide +kernel
theorem price_ok {p : Int} (h : 1 ≤ p ∧ p ≤ 5) : isPrice (.int p) = true := by
  show (decide (1 ≤ p) && decide (p ≤ 5)) = true
  rw [decide_eq_true h.1, decide_eq_true h.2]
  rfl
theorem put1 {a b : Str} {v w : V} {r : List (Str × V)} (h : ¬ a = b) : putF b w ((a, v) :: r) = (a, v) :: putF b w r := by
  show (if a = b then _ else _) = _
  rw [if_neg h]
theorem ok_finit {C : Addr} (B : Bt g) (L : Fl g C) (IL : Fn g 1 "is_letters" R_isl) (AP : Fn g 3 "are_pieces" R_arep) (IO : Fn g 3 "is_order" R_order) (IP : Fn g 2 "is_price" R_price) {kws : List (Str × V)} {f : Addr} {fd : FuncData} (F : FunD g.K "__init__" "File.__init__" (defArgs sFInit) (defBody sFInit) (defScope sFInit) [] kws f fd) :
    FnOk g.P g.w g.K g.mg g.base CX0 4 f fd ["self", "letters", "pieces", "order", "piece_price", "order_price", "torn"] (spI g.K C R_finit) := by
  refine F.ok scFInit (fun vs H Q E h => ?_) (fun cdv A outer s H vs Q E hr h => ?_)
  · obtain ⟨x, dx, vs', S, ds, gs, rfl, _, _, _, ra, ⟨ls, ps, od, pp, op, tn, _, _, _, rfl, _⟩, _⟩ := h
    show vs'.length + 1 = 7
    rw [ra.len]
    rfl
  · obtain ⟨x, dx, vs', S, ds, gs, rfl, hx, ex, nx, ra, ⟨ls, ps, od, pp, op, tn, v, hpp, hop, rfl, rfl⟩, q⟩ := h
    have hlz : ls.length ≤ 100000 := by rcases v.hls with rfl | rfl <;> decide
    cases ra with
    | cons r1 ra => cases ra with
    | cons r2 ra => cases ra with
    | cons r3 ra => cases ra with
    | cons r4 ra => cases ra with
    | cons r5 ra => cases ra with
    | cons r6 ra =>
    cases ra
    rename_i v1 v2 v3 v4 v5 v6
    have o : Of g ⟨3, ["self", "letters", "pieces", "order", "piece_price", "order_price", "torn"], defScope sFInit, fun _ => true, true, none⟩ (cxOf CX0 g.P g.w g.K g.mg g.base ["self", "letters", "pieces", "order", "piece_price", "order_price", "torn"] "File.__init__" (defScope sFInit) f cdv A outer s H E).nox := ⟨rfl, rfl, rfl, rfl, rfl, rfl, rfl, fun _ _ => rfl, fun _ => rfl, fun _ => hr, hr.un, fun _ => PassesOwn.never, fun _ _ _ h => by cases h⟩
    have n0 : En g.K H S H [some (.ref x), some v1, some v2, some v3, some v4, some v5, some v6] [.un, .val (.str ls), .val (.tup (psD ps)), .val (.tup (odD od)), .val (.int pp), .val (.int op), .val (.bl tn)] :=
      En.push _ (en_start (N := ["letters", "pieces", "order", "piece_price", "order_price", "torn"]) (.cons r1 (.cons r2 (.cons r3 (.cons r4 (.cons r5 (.cons r6 .nil)))))))
    have sw : ∀ (e : Expr) (o' : Expr) (nm : Str) (p : Pos) (k : Nat) (env : Env), swapsWith (.Name nm p) (some (.Attribute o' nm p)) k env = pure false := fun _ _ _ _ _ _ => rfl
    refine ⟨_, (pss_cons (ps_if (UT.pt o _) (USs.pss o _) pss_nil) (pss_cons (ps_if (UT.pt o _) (USs.pss o _) pss_nil) (pss_cons (ps_if (UT.pt o _) (USs.pss o _) pss_nil) (pss_cons (ps_if (UT.pt o _) (USs.pss o _) pss_nil) (pss_cons (ps_if (UT.pt o _) (USs.pss o _) pss_nil) (pss_cons (ps_if (UT.pt o _) (USs.pss o _) pss_nil)
      (pss_cons (ps_fld (pv 0) (pv 1) rfl) (pss_cons (ps_fld (pv 0) (pv 2) rfl) (pss_cons (ps_fld (pv 0) (pv 3) rfl) (pss_cons (ps_fld (pv 0) (pv 4) rfl) (pss_cons (ps_fld (pv 0) (pv 5) rfl) (pss_one (ps_fld (pv 0) (pv 6) rfl))))))))))))).nox, ?_⟩
    refine if_skip (DT.is (dt_not (dt_e (de_call IL (da_cons (de_v 1) da_nil) ⟨.str ls, by rw [fit]; exact decide_eq_true hlz, rfl, rfl⟩))) (by rw [lets_ok v.hls]; rfl)) ex n0 fun S1 H1 g1 => ?_
    refine if_skip (DT.is (dt_not (dt_e (de_call AP (da_cons (de_v 1) (da_cons (de_v 2) da_nil)) ⟨ls, _, v.fitP, rfl, rfl⟩))) (by rw [v.isP]; rfl)) g1.sub (n0.go g1) fun S2 H2 g2 => ?_
    refine if_skip (DT.is (dt_not (dt_e (de_call IO (da_cons (de_len B.len rfl (de_v 2)) (da_cons (de_v 3) da_nil)) ⟨ps.length, _, by rw [psD_len], v.fitO, rfl⟩))) (by rw [isOrder_of v.hod v.hb]; rfl)) g2.sub ((n0.go g1).go g2) fun S3 H3 g3 => ?_
    refine if_skip (DT.is (dt_not (dt_e (de_call IP (da_cons (de_v 4) da_nil) ⟨_, by rw [fit], rfl, rfl⟩))) (by rw [price_ok hpp]; rfl)) g3.sub (((n0.go g1).go g2).go g3) fun S4 H4 g4 => ?_
    refine if_skip (DT.is (dt_not (dt_e (de_call IP (da_cons (de_v 5) da_nil) ⟨_, by rw [fit], rfl, rfl⟩))) (by rw [price_ok hop]; rfl)) g4.sub ((((n0.go g1).go g2).go g3).go g4) fun S5 H5 g5 => ?_
    refine if_skip (DT.is (dt_not (dt_e (de_isBool B rfl (de_v 6)))) rfl) g5.sub (((((n0.go g1).go g2).go g3).go g4).go g5) fun S6 H6 g6 => ?_
    have gg : Go S H S6 H6 := g1.tr (g2.tr (g3.tr (g4.tr (g5.tr g6))))
    have n6 : S6 x = none := gg.off nx hx
    have hx6 : H6 x = some (.ins C dx []) := gg.h _ _ hx
    have c := L.kl.c
    refine ⟨v1, rfl, .ref x, rfl, x, C, dx, [], rfl, hx6, c, L.n1, (by show 0 < 1000; decide), ?_⟩
    refine ⟨v2, rfl, .ref x, rfl, x, C, dx, _, rfl, upd_same, c, L.n2, (by show 1 < 1000; decide), ?_⟩
    refine ⟨v3, rfl, .ref x, rfl, x, C, dx, [("_letters", v1), ("_pieces", v2)], rfl, Eq.trans upd_same (congrArg (fun q => some (HO.ins C dx q)) (put1 (by decide +kernel))), c, L.n3, (by show 2 < 1000; decide), ?_⟩
    refine ⟨v4, rfl, .ref x, rfl, x, C, dx, [("_letters", v1), ("_pieces", v2), ("_order", v3)], rfl, Eq.trans upd_same (congrArg (fun q => some (HO.ins C dx q)) ((put1 (by decide +kernel)).trans (congrArg _ (put1 (by decide +kernel))))), c, L.n4, (by show 3 < 1000; decide), ?_⟩
    refine ⟨v5, rfl, .ref x, rfl, x, C, dx, [("_letters", v1), ("_pieces", v2), ("_order", v3), ("_piece_price", v4)], rfl, Eq.trans upd_same (congrArg (fun q => some (HO.ins C dx q)) ((put1 (by decide +kernel)).trans (congrArg _ ((put1 (by decide +kernel)).trans (congrArg _ (put1 (by decide +kernel))))))), c, L.n5, (by show 4 < 1000; decide), ?_⟩
    refine ⟨v6, rfl, .ref x, rfl, x, C, dx, [("_letters", v1), ("_pieces", v2), ("_order", v3), ("_piece_price", v4), ("_order_price", v5)], rfl, Eq.trans upd_same (congrArg (fun q => some (HO.ins C dx q)) ((put1 (by decide +kernel)).trans (congrArg _ ((put1 (by decide +kernel)).trans (congrArg _ ((put1 (by decide +kernel)).trans (congrArg _ (put1 (by decide +kernel))))))))), c, L.n6, (by show 5 < 1000; decide), ?_⟩
    have e7 : putF "_torn" v6 ([("_letters", v1), ("_pieces", v2), ("_order", v3), ("_piece_price", v4), ("_order_price", v5)] : List (Str × V)) = ([("_letters", v1), ("_pieces", v2), ("_order", v3), ("_piece_price", v4), ("_order_price", v5), ("_torn", v6)] : List (Str × V)) :=
      (put1 (by decide +kernel)).trans (congrArg _ ((put1 (by decide +kernel)).trans (congrArg _ ((put1 (by decide +kernel)).trans (congrArg _ ((put1 (by decide +kernel)).trans (congrArg _ (put1 (by decide +kernel)))))))))
    refine q S6 _ _ ⟨gg.s, fun a u z => ?_, fun a u z => ?_, fun a u z z' => ?_⟩ n6 (Eq.trans upd_same (congrArg (fun q => some (HO.ins C dx q)) e7)) (.cons (r1.up gg.s) (.cons (r2.up gg.s) (.cons (r3.up gg.s) (.cons (r4.up gg.s) (.cons (r5.up gg.s) (.cons (r6.up gg.s) .nil))))))
    · by_cases w : a = x
      · have z2 : (if a = x then none else H a) = some u := z
        rw [if_pos w] at z2
        cases z2
      · have z2 : (if a = x then none else H a) = some u := z
        rw [if_neg w] at z2
        rw [upd_ne w, upd_ne w, upd_ne w, upd_ne w, upd_ne w, upd_ne w]
        exact gg.h a u z2
    · have w : a ≠ x := fun w => by rw [w, n6] at z; cases z
      rw [upd_ne w, upd_ne w, upd_ne w, upd_ne w, upd_ne w, upd_ne w]
      exact gg.sub a u z
    · show (if a = x then none else H a) = none
      by_cases w : a = x
      · rw [if_pos w]
      · rw [if_neg w]
        exact gg.new a u z z'
end SP

namespace SP
open PySem PySem.Spec PyProof.Rows L2 PD
variable {g : Gb}
/-- what the class has -/
structure Fp (g : Gb) (C : Addr) : Prop where
  ls : Pr g 1 C "letters" (R_get C "_letters")
  ps : Pr g 1 C "pieces" (R_get C "_pieces")
  od : Pr g 1 C "order" (R_get C "_order")
  pp : Pr g 1 C "piece_price" (R_get C "_piece_price")
  op : Pr g 1 C "order_price" (R_get C "_order_price")
  tn : Pr g 1 C "torn" (R_get C "_torn")
  make : Mf g 4 3 ["piece_price", "order_price", "torn"] C "File" [] R_finit
section
variable {l : Lc} {ρ : Rho} {e : Expr} {pos : Pos} {C : Addr} {ls : Str} {ps : List Str} {od : List Nat} {pp op : Int} {tn : Bool}
theorem de_ls (L : Fl g C) (P : Fp g C) (h : DE g l e ρ (fileD C ls ps od pp op tn)) (hk : 2 ≤ l.k := by decide) (hab : ∀ env, attributeBase e "letters" env (eval e env) = eval e env := by intro _; rfl) (hcl : l.cb = true := by rfl) : DE g l (.Attribute e "letters" pos) ρ (.str ls) := de_prop L.kl.c P.ls ⟨_, rfl, fgs_ls⟩ h hk hab (hcl := hcl)
theorem de_ps (L : Fl g C) (P : Fp g C) (h : DE g l e ρ (fileD C ls ps od pp op tn)) (hk : 2 ≤ l.k := by decide) (hab : ∀ env, attributeBase e "pieces" env (eval e env) = eval e env := by intro _; rfl) (hcl : l.cb = true := by rfl) : DE g l (.Attribute e "pieces" pos) ρ (.tup (psD ps)) := de_prop L.kl.c P.ps ⟨_, rfl, fgs_ps⟩ h hk hab (hcl := hcl)
theorem de_od (L : Fl g C) (P : Fp g C) (h : DE g l e ρ (fileD C ls ps od pp op tn)) (hk : 2 ≤ l.k := by decide) (hab : ∀ env, attributeBase e "order" env (eval e env) = eval e env := by intro _; rfl) (hcl : l.cb = true := by rfl) : DE g l (.Attribute e "order" pos) ρ (.tup (odD od)) := de_prop L.kl.c P.od ⟨_, rfl, fgs_od⟩ h hk hab (hcl := hcl)
theorem de_pp (L : Fl g C) (P : Fp g C) (h : DE g l e ρ (fileD C ls ps od pp op tn)) (hk : 2 ≤ l.k := by decide) (hab : ∀ env, attributeBase e "piece_price" env (eval e env) = eval e env := by intro _; rfl) (hcl : l.cb = true := by rfl) : DE g l (.Attribute e "piece_price" pos) ρ (.int pp) := de_prop L.kl.c P.pp ⟨_, rfl, fgs_pp⟩ h hk hab (hcl := hcl)
theorem de_oq (L : Fl g C) (P : Fp g C) (h : DE g l e ρ (fileD C ls ps od pp op tn)) (hk : 2 ≤ l.k := by decide) (hab : ∀ env, attributeBase e "order_price" env (eval e env) = eval e env := by intro _; rfl) (hcl : l.cb = true := by rfl) : DE g l (.Attribute e "order_price" pos) ρ (.int op) := de_prop L.kl.c P.op ⟨_, rfl, fgs_op⟩ h hk hab (hcl := hcl)
theorem de_tn (L : Fl g C) (P : Fp g C) (h : DE g l e ρ (fileD C ls ps od pp op tn)) (hk : 2 ≤ l.k := by decide) (hab : ∀ env, attributeBase e "torn" env (eval e env) = eval e env := by intro _; rfl) (hcl : l.cb = true := by rfl) : DE g l (.Attribute e "torn" pos) ρ (.bl tn) := de_prop L.kl.c P.tn ⟨_, rfl, fgs_tn⟩ h hk hab (hcl := hcl)
end
variable {C : Addr}
theorem scCheckFile : FnScope ["file"] ["file"] (defScope sCheckFile) := ⟨rfl, rfl, rfl, by decide +kernel, rfl, by decide +kernel, by decide +kernel⟩
def R_cfile (C : Addr) : List DV → DV → Prop := fun ds d => ∃ gs, ds = [.obj C gs] ∧ d = .non
theorem ok_cfile (B : Bt g) (L : Fl g C) {f : Addr} {fd : FuncData} (F : Fun g.K "check_file" "check_file" sCheckFile f fd) : FnOk g.P g.w g.K g.mg g.base CX0 1 f fd ["file"] (spR g.K (R_cfile C)) := by
  refine fn_ok F scCheckFile (fun ds d ⟨gs, e, _⟩ => by rw [e]; rfl) fun ds d ⟨gs, e, ed⟩ => ?_
  subst e ed
  exact dss_one (ds_if (x := false) (dt_not (dt_e (de_isOwn B L.kl (de_v 0)))) (fun h => by cases h) fun _ => dss_nil rfl)
theorem scFileState : FnScope ["file"] ["file"] (defScope sFileState) := ⟨rfl, rfl, rfl, by decide +kernel, rfl, by decide +kernel, by decide +kernel⟩
def R_fstate (C : Addr) : List DV → DV → Prop := fun ds d => ∃ ls ps od pp op tn, ds = [fileD C ls ps od pp op tn] ∧ d = stD ps od
theorem ok_fstate (L : Fl g C) (P : Fp g C) {f : Addr} {fd : FuncData} (F : Fun g.K "file_state" "file_state" sFileState f fd) : FnOk g.P g.w g.K g.mg g.base CX0 3 f fd ["file"] (spR g.K (R_fstate C)) := by
  refine fn_ok F scFileState (fun ds d ⟨ls, ps, od, pp, op, tn, e, _⟩ => by rw [e]; rfl) fun ds d ⟨ls, ps, od, pp, op, tn, e, ed⟩ => ?_
  subst e ed
  exact dss_one (ds_ret (de_tup (da_cons (de_ps L P (de_v 0)) (da_cons (de_od L P (de_v 0)) da_nil))) rfl)
end SP

/-! What the moves of a file are computed from: texts of all orders, a text with a gap that is filled. -/
namespace SP
open PySem L2 PD
theorem catS_app : ∀ l m : List Str, catS (l ++ m) = catS l ++ catS m
  | [], m => by rw [List.nil_append]; exact (nil_app _).symm
  | x :: l, m => by rw [List.cons_append, catS_cons, catS_cons, catS_app l m, app_assoc]
/-! a gap filled -/
theorem str_ext {a b : Str} (h : a.cps.toList = b.cps.toList) : a = b := by
  obtain ⟨a⟩ := a; obtain ⟨b⟩ := b
  have : a = b := Array.toList_inj.mp h
  rw [this]
end SP

namespace PD
open PySem PySem.Spec PyProof.Rows L2
section
variable {g : Gb} {l : Lc} {ρ : Rho} {o e a b : Expr} {es : List Expr} {pos : Pos} {ds : List DV} {d : DV} {C : Addr} {gs : List (Str × DV)} {n : Str}
end
end PD
namespace SP
open PySem PySem.Spec PyProof.Rows L2 PD
variable {g : Gb} {M : Addr} {tG : Tok}
section
variable {n nb : Nat} {ls : Str} {pp op : Int} {tn : Bool}
end
end SP

/-! An __init__ that stores attributes, from states in which at least n identities have been given out. -/
namespace PD
open PySem PySem.Spec PyProof.Rows L2
section
variable {X : Cx} {n : Nat} {o value : Expr} {f : Str} {pos pos' : Pos} {ta tv : TE}
end
section
variable (g : Gb) (n : Nat) (l : Lc)
def USN (st : Stmt) : TS := fun D σ H => ∃ t, (∀ X, Of g l X → SN X n st t) ∧ t D σ H
def USsN (st : List Stmt) : TS := fun D σ H => ∃ t, (∀ X, Of g l X → SsN X n st t) ∧ t D σ H
end
section
variable {g : Gb} {n : Nat} {l : Lc} {ρ : Rho} {C : Addr} {gs gs' gs2 : List (Str × DV)} {e : Expr} {f nm : Str} {d : DV} {p1 p2 p3 : Pos} {st : Stmt} {rest : List Stmt}
theorem USN.sn {X : Cx} (o : Of g l X) (st : Stmt) : SN X n st (USN g n l st) := ⟨fun pins s σ H D ht I ⟨t, h, q⟩ => (h X o).run pins s σ H D ht I q⟩
theorem USsN.sn {X : Cx} (o : Of g l X) (st : List Stmt) : SsN X n st (USsN g n l st) := ⟨fun pins s σ H D ht I ⟨t, h, q⟩ => (h X o).run pins s σ H D ht I q⟩
end
end PD

/-! Moves(file), from states in which at least n identities have been given out. -/
namespace SP
open PySem PySem.Spec PyProof.Rows L2 PD
variable {g : Gb} {C M : Addr} {n : Nat}
end SP

/-! Making an instance, calling a method of one just made, the bound kept. -/
namespace PD
open PySem PySem.Spec PyProof.Rows L2
section
variable {X : Cx} {CX : CXT} {k n : Nat} {f C : Addr} {fd : FuncData} {ps : List Str} {sp : Sp} {E : XK} {x m : Str} {p pos apos : Pos} {e o : Expr} {es : List Expr} {t : TA} {ta : TE}
end
section
variable {g : Gb} {n : Nat} {l : Lc} {ρ : Rho} {e o : Expr} {es : List Expr} {ds : List DV} {d : DV} {x : Str} {p pos apos : Pos} {k : Nat} {C : Addr} {gs : List (Str × DV)}
end
end PD

/-! A comprehension over what only a bounded reading gives; defs with bounded promises. -/
namespace PD
open PySem PySem.Spec PyProof.Rows L2
section
variable {X : Cx} {n : Nat} {tg iter elt : Expr} {ifs : List Expr} {scope : Scope} {own : List (Str × Nat)} {pos : Pos} {wi : TI} {g : TG} {tt : TT} {te : TE}
theorem sn_ret {e : Expr} (h : PN X n e te) : SN X n (.Return (some e) pos) (tRet te) :=
  ⟨fun pins s σ H D ht I q => wpAny_Return_some (thn (h.run pins s σ H _ ht I q) fun v s1 ⟨x, H1, I1, r1, q1⟩ => ⟨x, σ, H1, I1, r1, q1⟩)⟩
end
section
variable {g : Gb} {n : Nat} {l : Lc} {ρ : Rho} {ds : List DV} {d : DV} {e tg iter elt : Expr} {ifs : List Expr} {scope : Scope} {own : List (Str × Nat)} {pos : Pos} {st : Stmt} {sts : List Stmt} {E : Po}
/-! statements and defs -/
def DSN (g : Gb) (n : Nat) (l : Lc) (st : Stmt) (ρ : Rho) (E : Po) : Prop := StD g.K (USN g n l st) ρ E
def DSsN (g : Gb) (n : Nat) (l : Lc) (st : List Stmt) (ρ : Rho) (E : Po) : Prop := StD g.K (USsN g n l st) ρ E
theorem DSN.by (t : TS) (h : ∀ X, Of g l X → SN X n st t) (v : StD g.K t ρ E) : DSN g n l st ρ E := fun S0 H0 B σ S H D a b c o => ⟨t, h, v S0 H0 B σ S H D a b c o⟩
theorem DSsN.by (t : TS) (h : ∀ X, Of g l X → SsN X n sts t) (v : StD g.K t ρ E) : DSsN g n l sts ρ E := fun S0 H0 B σ S H D a b c o => ⟨t, h, v S0 H0 B σ S H D a b c o⟩
theorem DSN.of (h : DS g l st ρ E) : DSN g n l st ρ E := .by (US g l st) (fun X o => .of (US.ps o st)) h
theorem DSsN.of (h : DSs g l sts ρ E) : DSsN g n l sts ρ E := .by (USs g l sts) (fun X o => .of (USs.pss o sts)) h
theorem dsn_cons (h : DSN g n l st ρ { E with nx := fun ρ' => DSsN g n l sts ρ' E }) : DSsN g n l (st :: sts) ρ E := .by _ (fun X o => sn_cons (USN.sn o st) (USsN.sn o sts)) (st_seq h)
theorem dsn_nil (h : E.nx ρ) : DSsN g n l [] ρ E := .of (dss_nil h)
theorem dsn_one (h : DSN g n l st ρ E) : DSsN g n l [st] ρ E := dsn_cons (by
  refine fun S0 H0 B σ S H D a b c o => h S0 H0 B σ S H D a b c ⟨fun ρ' σ' S' H' q g' b' n' => ?_, o.rt, o.bk, o.ct⟩
  exact o.nx ρ' σ' S' H' (dsn_nil q) g' b' n')
end
end PD

/-! Defs with bounded promises. -/
namespace PD
open PySem PySem.Spec PyProof.Rows L2
section
variable {g : Gb} {n : Nat}
theorem fn_okN {x qual : Str} {st : Stmt} {f : Addr} {fd : FuncData} {N ps : List Str} {k : Nat} {R : List DV → DV → Prop} (F : Fun g.K x qual st f fd) (S : FnScope N ps (defScope st)) (len : ∀ ds d, R ds d → ds.length = ps.length)
    (body : ∀ ds d, R ds d → DSsN g n ⟨k, N, defScope st, fun _ => true, true, none⟩ (defBody st) (rho0 N ds) { nx := fun _ => d = .non, rt := fun r => r = d }) : FnOkN g.P g.w g.K g.mg g.base CX0 (k + 1) n f fd ps (spR g.K R) where
  len := fun vs H Q E ⟨S0, ds, d, e, ra, hR, _⟩ => by rw [ra.len]; exact len ds d hR
  run := fun A outer s H args us vs Q E hr e0 ht hb rv ⟨S0, ds, d, ex, ra, hR, q⟩ => by
    refine fn_raw (k := k) (n := n) F S (by rw [ra.len]; exact len ds d hR) hr e0 hb rv ht fun cdv s1 hr1 I1 t1 _ => ?_
    have o : Of g ⟨k, N, defScope st, fun _ => true, true, none⟩ (cxOf CX0 g.P g.w g.K g.mg g.base N qual (defScope st) f cdv A outer s H E).nox := ⟨rfl, rfl, rfl, rfl, rfl, rfl, rfl, fun _ _ => rfl, fun _ => rfl, fun _ => hr1, hr1.un, fun _ => PassesOwn.never, fun _ _ _ h => by cases h⟩
    refine wpAny_mono ((USsN.sn (n := n) o (defBody st)).run [] s1 _ H { nx := fun _ H' => Q .non H', rt := Q } t1 (I1.wish (fun _ _ => False)) ?_) (fun _ _ z => z.unwish) fun _ _ z => z.elim
    refine body ds d hR S0 H S0 _ S0 H _ (Go.rf ex) (Ex.rf _) (en_start ra) ⟨fun ρ σ S1 H1 z g1 _ n1 => ?_, fun r v S1 H1 z g1 r1 => ?_, fun _ _ _ _ z => z.elim, fun _ _ _ _ z => z.elim⟩
    · have z' : d = .non := z
      subst z'
      exact q .non S1 H1 g1 .non
    · have z' : r = d := z
      subst z'
      exact q v S1 H1 g1 r1
theorem FnN.mk' {x qual : Str} {st : Stmt} {f : Addr} {fd : FuncData} {ps : List Str} {k : Nat} {R : List DV → DV → Prop} (F : Fun g.K x qual st f fd) (ok : FnOkN g.P g.w g.K g.mg g.base CX0 k n f fd ps (spR g.K R)) (hm : g.mg x = some (.ref f)) (hb : Binds g.K fd ps []) : FnN g k n x R := ⟨f, fd, ps, ok, hm, F.kp, hb⟩
end
end PD

/-! Tests and loops with a bound. -/
namespace PD
open PySem PySem.Spec PyProof.Rows L2
structure PTN (X : Cx) (n : Nat) (e : Expr) (t : TT) : Prop where
  run : ∀ (pins : List (Addr × Obj)) (s : Shared) (σ : L2.St) (H : Hp) (Q : Bool → Hp → Prop), n ≤ s.toks → Inv X pins σ H s → t σ H Q → wpAny (model X.prog X.w) X.A (isTrue e X.env (eval e X.env)) (TP X pins σ Q) X.xe s
structure PWN (X : Cx) (n : Nat) (e : Expr) (t : TT) : Prop where
  run : ∀ (whole : Sem Value) (pins : List (Addr × Obj)) (s : Shared) (σ : L2.St) (H : Hp) (Q : Bool → Hp → Prop), n ≤ s.toks → Inv X pins σ H s → t σ H Q → wpAny (model X.prog X.w) X.A (isTrue e X.env whole) (TP X pins σ Q) X.xe s
section
variable {X : Cx} {n : Nat} {e a b : Expr} {rest : List Expr} {body orelse : List Stmt} {t u : TT} {ta tb : TE} {ts tu : TS} {pos : Pos}
theorem PWN.pt (h : PWN X n e t) : PTN X n e t := ⟨h.run _⟩
theorem ptn_val (h : PN X n e ta) (he : ∀ whole, isTrue e X.env whole = (do let v ← whole; standAt e.pos; holding [v] (truthy v))) : PTN X n e (tB ta) := ⟨fun pins s σ H Q ht I q => isTrue_plain (thn (h.run pins s σ H _ ht I q) fun v s1 ⟨x, H1, I1, r1, d, ex, q1⟩ => by
  subst ex
  cases r1
  exact wpAny_truthy_bool ⟨H1, I1, q1⟩) (he _)⟩
theorem ptn_not (h : PTN X n a t) : PTN X n (.UnaryOp .Not a pos) (tNot t) := ⟨fun pins s σ H Q ht I q => isTrue_not (h.run pins s σ H (fun c H1 => Q (!c) H1) ht I q)⟩
theorem pwn_or1 (h : PTN X n a t) : PWN X n (.BoolOp .Or [a] pos) t := ⟨fun wh pins s σ H Q ht I q => isTrue_or (thn (h.run pins s σ H Q ht I q) fun c s1 z => by
  cases c with
  | false => exact isTrue_or_nil z
  | true => exact z)⟩
theorem pwn_or (h : PTN X n a t) (k : PWN X n (.BoolOp .Or (b :: rest) pos) u) : PWN X n (.BoolOp .Or (a :: b :: rest) pos) (tOr t u) := ⟨fun wh pins s σ H Q ht I q => isTrue_or (thnN ht (h.run pins s σ H _ ht I q) fun c s1 ht1 ⟨H1, I1, q1⟩ => by
  cases c with
  | true => exact ⟨H1, I1, q1⟩
  | false => exact k.run wh pins s1 σ H1 Q ht1 I1 q1)⟩
theorem sn_if (h : PTN X n e t) (h1 : SsN X n body ts) (h2 : SsN X n orelse tu) : SN X n (.If e body orelse pos) (tIfS t ts tu) := ⟨fun pins s σ H D ht I q => wpAny_If (thnN ht (h.run pins s σ H _ ht I q) fun c s1 ht1 ⟨H1, I1, q1⟩ => by
  cases c with
  | true => exact h1.run pins s1 σ H1 D ht1 I1 q1
  | false => exact h2.run pins s1 σ H1 D ht1 I1 q1)⟩
end
section
variable (g : Gb) (n : Nat) (l : Lc)
def UTN (e : Expr) : TT := fun σ H Q => ∃ t, (∀ X, Of g l X → PTN X n e t) ∧ t σ H Q
def DTN (e : Expr) (ρ : Rho) (b : Bool) : Prop := EvB g.K (UTN g n l e) ρ b
end
section
variable {g : Gb} {n : Nat} {l : Lc} {ρ : Rho} {e a b iter tg : Expr} {rest : List Expr} {body orelse : List Stmt} {da db d : DV} {ds : List DV} {x y : Bool} {pos : Pos} {E : Po}
theorem UTN.pt {X : Cx} (o : Of g l X) (e : Expr) : PTN X n e (UTN g n l e) := ⟨fun pins s σ H Q ht I ⟨t, h, q⟩ => (h X o).run pins s σ H Q ht I q⟩
theorem DTN.by (t : TT) (h : ∀ X, Of g l X → PTN X n e t) (v : EvB g.K t ρ x) : DTN g n l e ρ x := fun H0 σ S H ex n Q q => ⟨t, h, v H0 σ S H ex n Q q⟩
theorem dtn_e (h : DEN g n l e ρ (.bl x)) (he : ∀ env whole, isTrue e env whole = (do let v ← whole; standAt e.pos; holding [v] (truthy v)) := by intro _ _; rfl) : DTN g n l e ρ x := .by _ (fun X o => ptn_val (UEN.pn o e) (he _)) (eb_val h)
theorem dtn_not (h : DTN g n l a ρ x) : DTN g n l (.UnaryOp .Not a pos) ρ (!x) := .by _ (fun X o => ptn_not (UTN.pt o a)) (eb_not h)
theorem dsn_for {is : List Nat} (hi : DI g l tg iter ρ ds) (I : Nat → Rho → Prop) (h0 : I 0 ρ)
    (hs : ∀ i d ρ', ds[i]? = some d → I i ρ' → ∃ ρ'', DG g l tg is d ρ' ρ'' ∧ DSsN g n l body ρ'' { nx := I (i + 1), ct := I (i + 1), bk := E.nx, rt := E.rt }) (hd : ∀ ρ', I ds.length ρ' → E.nx ρ')
    (hf : ∀ env x, foldedSetIterable iter env x = pure x := by intro _ _; rfl) (hcl : l.cb = true := by rfl) : DSN g n l (.For tg iter body [] pos) ρ E :=
  .by _ (fun X o => sn_for (o.po hcl) (o.calm hcl) (UI.pi o tg iter) (UG.pg o tg) (USsN.sn o body) (hf _)) (st_for hi I h0 (fun i d ρ' hd hI => let ⟨ρ'', h1, h2⟩ := hs i d ρ' hd hI; ⟨ρ'', h1.tg, h2⟩) hd)
end
end PD

/-! Mutable things of one's own: a part of the heap that stands apart from the still part and from the slots' own things. -/
namespace PD
open PySem PySem.Spec PyProof.Rows L2

/-! ### locked, and open again -/
/-- where H and H' differ stand things that no other object's description leans on -/
def NB : HO → Prop
  | .ext _ => True | .frz _ _ => True | _ => False
theorem inv_re {X : Cx} {pins : List (Addr × Obj)} {σ : L2.St} {H H' : Hp} {s : Shared} (I : Inv X pins σ H s)
    (hd : ∀ q, H' q = H q ∨ ∃ u o', H q = some u ∧ H' q = some o' ∧ NB u ∧ (∀ ob w, X.H_0 q ≠ some (.frz ob w)) ∧ ObjOk X.prog X.w H' s.heap q o') : Inv X pins σ H' s := by
  have nn : ∀ q, H q = none → H' q = none := fun q n => by
    rcases hd q with e | ⟨u, o', e, _⟩
    · rw [e]; exact n
    · rw [e] at n; cases n
  have same : ∀ q u, H q = some u → ¬ NB u → H' q = some u := fun q u e n => by
    rcases hd q with z | ⟨u', o', z, _, b, _⟩
    · rw [z]; exact e
    · rw [e] at z; cases z; exact absurd b n
  refine ⟨I.ok, I.os, I.bare, ⟨I.base.keep, I.base.slot, fun b o a n x => nn b (I.base.free b o a n x), I.base.there, fun b xs e => same b _ (I.base.tups b xs e) (fun z => z), fun b o u e => ?_, fun b ps e => ?_⟩, I.loc, I.cell, nn _ I.free, fun x c e => nn c (I.freeC x c e), fun p hp => ?_, fun a o e => ?_, I.len⟩
  · rcases hd b with z | ⟨_, _, _, _, _, n, _⟩
    · rw [z]; exact I.base.frzs b o u e
    · exact absurd e (n _ _)
  · obtain ⟨more, q⟩ := I.base.tbls b ps e
    exact ⟨more, same b _ q (fun z => z)⟩
  · obtain ⟨a, b, c⟩ := I.pin p hp
    exact ⟨a, nn _ b, c⟩
  · rcases hd a with z | ⟨u, o', _, z, _, _, k⟩
    · rw [z] at e
      exact (I.hok a o e).stay (fun b u _ q => q) (fun b q => same b _ q (fun z => z)) fun b xs q => same b _ q (fun z => z)
    · rw [e] at z
      cases z
      exact k
abbrev LL := List (Addr × List DictEntry)
def lockA (H : Hp) (L : LL) (ods : Addr → Obj) : Hp := fun q => match L.lookup q with | some es => some (.frz (ods q) (DxO q es)) | none => H q
def openA (H : Hp) (L : LL) : Hp := fun q => match L.lookup q with | some es => some (DxO q es) | none => H q
def Lk (H : Hp) (L : LL) : Prop := ∀ q es, L.lookup q = some es → H q = some (DxO q es)
def Lkd (H : Hp) (L : LL) (ods : Addr → Obj) : Prop := ∀ q es, L.lookup q = some es → H q = some (.frz (ods q) (DxO q es))
theorem lockA_in {H : Hp} {L : LL} {ods : Addr → Obj} {q : Addr} {es : List DictEntry} (h : L.lookup q = some es) : lockA H L ods q = some (.frz (ods q) (DxO q es)) := by unfold lockA; rw [h]
theorem lockA_out {H : Hp} {L : LL} {ods : Addr → Obj} {q : Addr} (h : L.lookup q = none) : lockA H L ods q = H q := by unfold lockA; rw [h]
theorem openA_in {H : Hp} {L : LL} {q : Addr} {es : List DictEntry} (h : L.lookup q = some es) : openA H L q = some (DxO q es) := by unfold openA; rw [h]
theorem openA_out {H : Hp} {L : LL} {q : Addr} (h : L.lookup q = none) : openA H L q = H q := by unfold openA; rw [h]
theorem dx_move {P : Program} {w : World} {H H' : Hp} {h : Heap} {q : Addr} {es : List DictEntry} (x : ObjOk P w H h q (DxO q es)) : ObjOk P w H' h q (DxO q es) := x
theorem inv_lock {X : Cx} {pins : List (Addr × Obj)} {σ : L2.St} {H : Hp} {s : Shared} {L : LL} (I : Inv X pins σ H s) (hL : Lk H L) : ∃ ods, Inv X pins σ (lockA H L ods) s := by
  refine ⟨fun q => (s.heap.get? q).getD { cls := .none, data := .fields #[] }, inv_re I fun q => ?_⟩
  cases e : L.lookup q with
  | none => exact .inl (lockA_out e)
  | some es =>
    have hq := hL q es e
    have k := I.hok q _ hq
    have ex : ∃ o, s.heap.get? q = some o := k.2.1
    obtain ⟨o, ho⟩ := ex
    refine .inr ⟨_, _, hq, lockA_in e, True.intro, fun ob w z => ?_, ?_⟩
    · have := I.base.frzs q ob w z
      rw [hq] at this
      cases this
    · refine ⟨by rw [ho]; rfl, dx_move k⟩
theorem inv_open {X : Cx} {pins : List (Addr × Obj)} {σ : L2.St} {H : Hp} {s : Shared} {L : LL} {ods : Addr → Obj} (I : Inv X pins σ H s) (hL : Lkd H L ods) (h0 : ∀ q es, L.lookup q = some es → ∀ ob w, X.H_0 q ≠ some (.frz ob w)) : Inv X pins σ (openA H L) s :=
  inv_re I fun q => by
    cases e : L.lookup q with
    | none => exact .inl (openA_out e)
    | some es => exact .inr ⟨_, _, hL q es e, openA_in e, True.intro, h0 q es e, dx_move (I.hok q _ (hL q es e)).2⟩
theorem inv_thaw0 {X : Cx} {pins : List (Addr × Obj)} {σ : L2.St} {H : Hp} {s : Shared} {L : LL} (I : Inv X pins σ H s) (hL : Lk H L) : ∀ q es, L.lookup q = some es → ∀ ob w, X.H_0 q ≠ some (.frz ob w) := fun q es e ob w z => by
  have := I.base.frzs q ob w z
  rw [hL q es e] at this
  cases this
/-- dicts of one's own are locked while a piece is read, and open again behind it -/
def lendE (t : TE) : TE := fun σ H Q => ∃ L, Lk H L ∧ ∀ ods, t σ (lockA H L ods) fun v H' => Lkd H' L ods ∧ Q v (openA H' L)
def lendT (t : TT) : TT := fun σ H Q => ∃ L, Lk H L ∧ ∀ ods, t σ (lockA H L ods) fun v H' => Lkd H' L ods ∧ Q v (openA H' L)
theorem pe_lend {X : Cx} {e : Expr} {t : TE} (h : PE X e t) : PE X e (lendE t) := ⟨fun pins s σ H Q I ⟨L, hL, q⟩ => by
  obtain ⟨ods, I1⟩ := inv_lock I hL
  exact thn (h.run pins s σ _ _ I1 (q ods)) fun u s1 ⟨v, H1, I2, r, a, b⟩ => ⟨v, _, inv_open I2 a (inv_thaw0 I hL), r, b⟩⟩
theorem pt_lend {X : Cx} {e : Expr} {t : TT} (h : PT X e t) : PT X e (lendT t) := ⟨fun pins s σ H Q I ⟨L, hL, q⟩ => by
  obtain ⟨ods, I1⟩ := inv_lock I hL
  exact thn (h.run pins s σ _ _ I1 (q ods)) fun u s1 ⟨H1, I2, a, b⟩ => ⟨_, inv_open I2 a (inv_thaw0 I hL), b⟩⟩
/-! ### mutable things -/
/-- where it stands, what is true of it -/
structure Mo where
  dom : Addr → Prop
  P : Hp → Hp → Prop
  stb : ∀ S H S' H', Ex S S' → (∀ q, dom q → H' q = H q) → P S H → P S' H'
def Mo.emp : Mo := ⟨fun _ => False, fun _ _ => True, fun _ _ _ _ _ _ _ => True.intro⟩
open Classical in
noncomputable def mix (m : Mo) (H0 H : Hp) : Hp := fun q => if m.dom q then H q else H0 q
theorem mix_in {m : Mo} {H0 H : Hp} {q : Addr} (h : m.dom q) : mix m H0 H q = H q := by unfold mix; rw [if_pos h]
theorem mix_out {m : Mo} {H0 H : Hp} {q : Addr} (h : ¬ m.dom q) : mix m H0 H q = H0 q := by unfold mix; rw [if_neg h]
theorem mix_emp {H0 H : Hp} : mix .emp H0 H = H0 := funext fun q => mix_out (fun z => z)
structure Md (m : Mo) (S0 H0 S H : Hp) : Prop where
  z : ∀ q, m.dom q → H0 q = none ∧ S0 q = none ∧ S q = none ∧ H q ≠ none
  p : m.P S H
/-- a state with a mutable thing -/
structure Sm (K : PySem.W.Frag) (S0 H0 B : Hp) (σ : L2.St) (S H : Hp) (ρ : Rho) (m : Mo) : Prop where
  g : Go S0 (mix m H0 H) S H
  b : Ex B S
  n : En K (mix m H0 H) S H σ ρ
  d : Md m S0 H0 S H
section
variable {K : PySem.W.Frag} {S0 H0 B S H S' H' : Hp} {σ : L2.St} {ρ ρ' : Rho} {m m' : Mo}
theorem Md.same (d : Md m S0 H0 S H) (e : Ex H H') : ∀ q, m.dom q → H' q = H q := fun q h => by
  obtain ⟨_, _, _, n⟩ := d.z q h
  cases z : H q with
  | none => exact absurd z n
  | some o => exact e q o z
theorem Md.mix (d : Md m S0 H0 S H) (e : Ex H H') : mix m H0 H' = mix m H0 H := funext fun q => by
  by_cases h : m.dom q
  · rw [mix_in h, mix_in h, d.same e q h]
  · rw [mix_out h, mix_out h]
theorem Md.go (d : Md m S0 H0 S H) (g : Go S H S' H') : Md m S0 H0 S' H' := ⟨fun q h => by
  obtain ⟨a, b, c, n⟩ := d.z q h
  refine ⟨a, b, ?_, by rw [d.same g.h q h]; exact n⟩
  cases z : S' q with
  | none => rfl
  | some o => exact absurd (g.new q o z c) n, m.stb _ _ _ _ g.s (d.same g.h) d.p⟩
theorem Sm.go (s : Sm K S0 H0 B σ S H ρ m) (g : Go S H S' H') : Sm K S0 H0 B σ S' H' ρ m := by
  have e := s.d.mix g.h
  exact ⟨by rw [e]; exact s.g.tr g, s.b.tr g.s, by rw [e]; exact s.n.go g, s.d.go g⟩
/-- a slot is set -/
theorem Sm.set {i : Nat} {v : V} {d : DV} (s : Sm K S0 H0 B σ S H ρ m) (r : Rp K S v d) : Sm K S0 H0 B (σ.set i (some v)) S H (ρ.set i (.val d)) m := ⟨s.g, s.b, s.n.set r, s.d⟩
end
/-- what is wanted behind a statement -/
structure Pm where
  nx : Rho → Mo → Prop
  rt : DV → Mo → Prop := fun _ _ => False
  bk : Rho → Mo → Prop := fun _ _ => False
  ct : Rho → Mo → Prop := fun _ _ => False
/-- the end of a def with a mutable thing -/
structure Rm (K : PySem.W.Frag) (S0 H0 : Hp) (v : V) (S H : Hp) (d : DV) (m : Mo) : Prop where
  go : Go S0 (mix m H0 H) S H
  md : Md m S0 H0 S H
  rp : Rp K S v d
structure Okm (K : PySem.W.Frag) (S0 H0 B : Hp) (D : Ends) (E : Pm) : Prop where
  nx : ∀ ρ m σ S H, E.nx ρ m → Sm K S0 H0 B σ S H ρ m → D.nx σ H
  rt : ∀ d m v S H, E.rt d m → Rm K S0 H0 v S H d m → D.rt v H
  bk : ∀ ρ m σ S H, E.bk ρ m → Sm K S0 H0 B σ S H ρ m → D.bk σ H
  ct : ∀ ρ m σ S H, E.ct ρ m → Sm K S0 H0 B σ S H ρ m → D.ct σ H
def StM (K : PySem.W.Frag) (ts : TS) (ρ : Rho) (m : Mo) (E : Pm) : Prop := ∀ S0 H0 B σ S H D, Sm K S0 H0 B σ S H ρ m → Okm K S0 H0 B D E → ts D σ H
/-- an expression that may change it; a test; a new list -/
def EvU (K : PySem.W.Frag) (te : TE) (ρ : Rho) (m : Mo) (d : DV) (m' : Mo) : Prop := ∀ S0 H0 B σ S H, Sm K S0 H0 B σ S H ρ m → ∀ Q : VK, (∀ v S' H', Sm K S0 H0 B σ S' H' ρ m' → Ex S S' → Rp K S' v d → Q v H') → te σ H Q
def EvBU (K : PySem.W.Frag) (tt : TT) (ρ : Rho) (m : Mo) (b : Bool) (m' : Mo) : Prop := ∀ S0 H0 B σ S H, Sm K S0 H0 B σ S H ρ m → ∀ Q : Bool → Hp → Prop, (∀ S' H', Sm K S0 H0 B σ S' H' ρ m' → Ex S S' → Q b H') → tt σ H Q
section
variable {K : PySem.W.Frag} {ρ ρ' : Rho} {m m' : Mo} {te : TE} {tt : TT} {ts tu tw : TS} {d : DV} {b : Bool} {E : Pm} {ds : List DV}
theorem evu_of (h : EvD K te ρ d) : EvU K te ρ m d m := fun S0 H0 B σ S H s Q q => h _ σ S H s.g.sub s.n Q fun v S' H' g r => q v S' H' (s.go g) g.s r
theorem ebu_of (h : EvB K tt ρ b) : EvBU K tt ρ m b m := fun S0 H0 B σ S H s Q q => h _ σ S H s.g.sub s.n Q fun S' H' g => q S' H' (s.go g) g.s
/-- what does not touch it -/
theorem stm_pure {E' : Po} (h : StD K ts ρ E') (hn : ∀ ρ, E'.nx ρ → E.nx ρ m) (hr : ∀ d, ¬ E'.rt d) (hb : ∀ ρ, E'.bk ρ → E.bk ρ m) (hc : ∀ ρ, E'.ct ρ → E.ct ρ m) : StM K ts ρ m E := fun S0 H0 B σ S H D s o => by
  have key : ∀ {S' H' : Hp}, Go S0 (mix m H0 H) S' H' → Ex S S' → mix m H0 H' = mix m H0 H ∧ Md m S0 H0 S' H' := fun {S' H'} g e => by
    have same : ∀ q, m.dom q → H' q = H q := fun q hq => by
      cases z : H q with
      | none => exact absurd z (s.d.z q hq).2.2.2
      | some u => exact g.h q u (by rw [mix_in hq]; exact z)
    refine ⟨funext fun q => ?_, fun q hq => ?_, m.stb _ _ _ _ e same s.d.p⟩
    · by_cases hq : m.dom q
      · rw [mix_in hq, mix_in hq, same q hq]
      · rw [mix_out hq, mix_out hq]
    · obtain ⟨a, c, _, n⟩ := s.d.z q hq
      refine ⟨a, c, ?_, by rw [same q hq]; exact n⟩
      cases z : S' q with
      | none => rfl
      | some u => exact absurd ((mix_in (H0 := H0) (H := H) hq).symm.trans (g.new q u z c)) n
  refine h S0 (mix m H0 H) S σ S H D s.g (Ex.rf _) s.n ⟨fun ρ' σ' S' H' q g e n => ?_, fun d' v S' H' q g r => ?_, fun ρ' σ' S' H' q g e n => ?_, fun ρ' σ' S' H' q g e n => ?_⟩
  · obtain ⟨k1, k2⟩ := key g e
    exact o.nx ρ' m σ' S' H' (hn _ q) ⟨by rw [k1]; exact g, s.b.tr e, by rw [k1]; exact n, k2⟩
  · exact absurd q (hr _)
  · obtain ⟨k1, k2⟩ := key g e
    exact o.bk ρ' m σ' S' H' (hb _ q) ⟨by rw [k1]; exact g, s.b.tr e, by rw [k1]; exact n, k2⟩
  · obtain ⟨k1, k2⟩ := key g e
    exact o.ct ρ' m σ' S' H' (hc _ q) ⟨by rw [k1]; exact g, s.b.tr e, by rw [k1]; exact n, k2⟩
end
end PD

/-! Mutable things: statements; what is read while a mutable thing is lent. -/
namespace PD
open PySem PySem.Spec PyProof.Rows L2
section
variable {K : PySem.W.Frag} {ρ ρ' : Rho} {m m' : Mo} {te : TE} {tt : TT} {ts tu tw : TS} {d : DV} {b : Bool} {E : Pm} {ds : List DV}
theorem stm_next (h : E.nx ρ m) : StM K tNext ρ m E := fun S0 H0 B σ S H D s o => o.nx ρ m σ S H h s
theorem stm_seq (h : StM K ts ρ m { E with nx := fun ρ' m' => StM K tu ρ' m' E }) : StM K (tSeq ts tu) ρ m E := fun S0 H0 B σ S H D s o =>
  h S0 H0 B σ S H { D with nx := tu D } s ⟨fun ρ' m' σ' S' H' q s' => q S0 H0 B σ' S' H' D s' o, o.rt, o.bk, o.ct⟩
theorem stm_asg {i : Nat} (h : EvU K te ρ m d m') (q : E.nx (ρ.set i (.val d)) m') : StM K (tAsg te (gName i)) ρ m E := fun S0 H0 B σ S H D s o =>
  h S0 H0 B σ S H s _ fun v S1 H1 s1 _ r1 => o.nx _ _ _ S1 H1 q (s1.set r1)
theorem stm_drop (h : EvU K te ρ m d m') (q : E.nx ρ m') : StM K (tDrop te) ρ m E := fun S0 H0 B σ S H D s o =>
  h S0 H0 B σ S H s _ fun v S1 H1 s1 _ r1 => o.nx _ _ _ S1 H1 q s1
theorem stm_ret (h : EvU K te ρ m d m') (q : E.rt d m') : StM K (tRet te) ρ m E := fun S0 H0 B σ S H D s o =>
  h S0 H0 B σ S H s _ fun v S1 H1 s1 _ r1 => o.rt d m' v S1 H1 q ⟨s1.g, s1.d, r1⟩
theorem stm_if (h : EvBU K tt ρ m b m') (h1 : b = true → StM K tu ρ m' E) (h2 : b = false → StM K tw ρ m' E) : StM K (tIfS tt tu tw) ρ m E := fun S0 H0 B σ S H D s o =>
  h S0 H0 B σ S H s _ fun S1 H1 s1 _ => by
    cases b with
    | true =>
      rw [if_pos rfl]
      exact h1 rfl S0 H0 B σ S1 H1 D s1 o
    | false =>
      rw [if_neg (by decide)]
      exact h2 rfl S0 H0 B σ S1 H1 D s1 o
theorem stm_freeze {i : Nat} {d : DV} (hi : ρ[i]? = some (.ownD d)) (h : StM K ts (ρ.set i (.val d)) m E) : StM K ts ρ m E := fun S0 H0 B σ S H D s o => by
  obtain ⟨p, ob, hp, h0, hs, hh, r⟩ := s.n.ownD hi
  have nd : ¬ m.dom p := fun z => by
    rw [mix_in z, hh] at h0
    cases h0
  refine h S0 H0 B σ (upd S p ob) H D ⟨s.g.frz hs h0 hh, s.b.tr (Ex.new hs), s.n.lend hi hp hs r, ?_⟩ o
  refine ⟨fun x hx => ?_, m.stb _ _ _ _ (Ex.new hs) (fun _ _ => rfl) s.d.p⟩
  obtain ⟨a, c, c', n⟩ := s.d.z x hx
  exact ⟨a, c, by rw [upd_ne (show x ≠ p from fun z => nd (by rw [← z]; exact hx))]; exact c', n⟩
theorem stm_for {wi : TI} {g : TG} {is : List Nat} (hi : IvD K wi ρ ds) (I : Nat → Rho → Mo → Prop) (h0 : I 0 ρ m)
    (hs : ∀ i d ρ' m', ds[i]? = some d → I i ρ' m' → ∃ ρ'', TgD K g is d ρ' ρ'' ∧ StM K ts ρ'' m' { nx := I (i + 1), ct := I (i + 1), bk := E.nx, rt := E.rt }) (hd : ∀ ρ' m', I ds.length ρ' m' → E.nx ρ' m') : StM K (tFor wi g ts) ρ m E := fun S0 H0 B σ S H D s o =>
  hi _ σ S H s.g.sub s.n _ fun J S1 H1 g1 w1 => by
    refine ⟨fun i k σ2 H2 => k = ds.length - i ∧ i ≤ ds.length ∧ ∃ ρ' m' S2, I i ρ' m' ∧ Sm K S0 H0 S1 σ2 S2 H2 ρ' m', ⟨_, rfl, Nat.zero_le _, ρ, m, S1, h0, (s.go g1).g, Ex.rf _, (s.go g1).n, (s.go g1).d⟩, ?_⟩
    rintro i k σ2 H2 ⟨rfl, hile, ρ', m', S2, hI, s2⟩
    have wd : ∀ {ρ5 m5 σ5 S5 H5}, Sm K S0 H0 S1 σ5 S5 H5 ρ5 m5 → Sm K S0 H0 B σ5 S5 H5 ρ5 m5 := fun z => ⟨z.g, (s.b.tr g1.s).tr z.b, z.n, z.d⟩
    by_cases hlt : i < ds.length
    · have hdi : ds[i]? = some ds[i] := List.getElem?_eq_getElem hlt
      refine .inr ⟨w1.go i H2 (s2.b.tr s2.g.sub) hlt, fun σ' H' => ∃ ρ' m' S2, I (i + 1) ρ' m' ∧ Sm K S0 H0 S1 σ' S2 H' ρ' m', fun σ' H' ⟨ρ', m', S2, a, b⟩ => ⟨ds.length - (i + 1), by omega, rfl, hlt, ρ', m', S2, a, b⟩, fun x H' y => ?_⟩
      obtain ⟨S3, g3, rx⟩ := w1.yld i H2 x H' y _ hdi S2 s2.b s2.g.sub
      obtain ⟨ρ'', tg, bd⟩ := hs i _ ρ' m' hdi hI
      have s3 := s2.go g3
      refine tg _ σ2 S3 H' x g3.sub s3.n rx _ fun σ3 n3 _ _ => ?_
      exact bd S0 H0 S1 σ3 S3 H' _ ⟨s3.g, s3.b, n3, s3.d⟩ ⟨fun ρ5 m5 σ5 S5 H5 q s5 => ⟨ρ5, m5, S5, q, s5⟩, o.rt, fun ρ5 m5 σ5 S5 H5 q s5 => o.nx ρ5 m5 σ5 S5 H5 q (wd s5), fun ρ5 m5 σ5 S5 H5 q s5 => ⟨ρ5, m5, S5, q, s5⟩⟩
    · have e : i = ds.length := by omega
      subst e
      exact .inl ⟨w1.stop H2 (s2.b.tr s2.g.sub), o.nx ρ' m' σ2 S2 H2 (hd ρ' m' hI) (wd s2)⟩
end

/-! ### lent -/
structure Vw (K : PySem.W.Frag) (m : Mo) (p : Addr) (d : DV) : Prop where
  v : ∀ S H, (∀ q, m.dom q → S q = none) → m.P S H → ∃ L : LL, (∀ q es, L.lookup q = some es → m.dom q) ∧ Lk H L ∧ ∀ ods, Rp K (mix m S (lockA H L ods)) (.ref p) d
  nt : ∀ S H q xs, m.P S H → m.dom q → ¬ Rd H q (.tup xs)
section
variable {K : PySem.W.Frag} {S0 H0 B S H S' H' S2 H2 S3 H3 : Hp} {σ : L2.St} {ρ ρ' : Rho} {m m' : Mo} {p : Addr} {d r : DV} {i : Nat} {L : LL} {ods : Addr → Obj} {te : TE} {tt : TT} {b : Bool} {ds : List DV}
theorem En.mv {H9 : Hp} (n : En K H9 S H σ ρ) (e : Ex S S2) (ow : ∀ q o, H9 q = none → S q = none → H q = some o → S2 q = none ∧ H2 q = some o) : En K H9 S2 H2 σ ρ where
  len := n.len
  at_ := fun i v x a c => by
    have k := n.at_ i v x a c
    cases x with
    | un => trivial
    | exo _ _ _ => obtain ⟨a1, fs, b1, c1⟩ := k; exact ⟨a1, fs, e _ _ b1, c1.up e⟩
    | val d' => obtain ⟨u, k1, k2⟩ := k; exact ⟨u, k1, k2.up e⟩
    | ownD d' =>
      obtain ⟨p', o', k1, k2, k3, k4, k5⟩ := k
      obtain ⟨y1, y2⟩ := ow p' o' k2 k3 k4
      exact ⟨p', o', k1, k2, y1, y2, k5.up e⟩
  sep := n.sep
theorem En.put {H9 : Hp} {v : V} (n : En K H9 S H σ ρ) (hi : σ[i]? = some (some v)) (r : Rp K S v d) : En K H9 S H σ (ρ.set i (.val d)) := by
  have e : σ.set i (some v) = σ := by
    refine List.ext_getElem? fun j => ?_
    by_cases h : i = j
    · subst h
      rw [List.getElem?_set_self (List.getElem?_eq_some_iff.mp hi).1, hi]
    · rw [List.getElem?_set_ne h]
  have := n.set (i := i) r
  rw [e] at this
  exact this
theorem lend_ex (s : Md m S0 H0 S H) (e : Ex S H) (hd : ∀ q es, L.lookup q = some es → m.dom q) : Ex (mix m S (lockA H L ods)) (lockA H L ods) ∧ Ex S (mix m S (lockA H L ods)) ∧ ∀ q, ¬ m.dom q → lockA H L ods q = H q := by
  have out : ∀ q, ¬ m.dom q → lockA H L ods q = H q := fun q nq => by
    cases z : L.lookup q with
    | none => exact lockA_out z
    | some es => exact absurd (hd q es z) nq
  refine ⟨fun q o h => ?_, fun q o h => ?_, out⟩
  · by_cases hq : m.dom q
    · rw [mix_in hq] at h
      exact h
    · rw [mix_out hq] at h
      rw [out q hq]
      exact e q o h
  · have hq : ¬ m.dom q := fun z => by
      rw [(s.z q z).2.2.1] at h
      cases h
    rw [mix_out hq]
    exact h
theorem lend_en (s : Sm K S0 H0 B σ S H ρ m) (hd : ∀ q es, L.lookup q = some es → m.dom q) (hi : ρ[i]? = some (.val (.adr p))) (rp : Rp K (mix m S (lockA H L ods)) (.ref p) d) : En K (mix m H0 H) (mix m S (lockA H L ods)) (lockA H L ods) σ (ρ.set i (.val d)) := by
  obtain ⟨e1, e2, out⟩ := lend_ex (ods := ods) s.d s.g.sub hd
  have n2 : En K (mix m H0 H) (mix m S (lockA H L ods)) (lockA H L ods) σ ρ := s.n.mv e2 fun q o a c h => by
    have nq : ¬ m.dom q := fun z => by
      rw [mix_in z, h] at a
      cases a
    rw [mix_out nq, out q nq]
    exact ⟨c, h⟩
  obtain ⟨v, hv, rv⟩ := n2.val hi
  cases rv
  exact n2.put hv rp
open Classical in
noncomputable def cutS (m : Mo) (S : Hp) : Hp := fun q => if m.dom q then none else S q
theorem cutS_in {q : Addr} (h : m.dom q) : PD.cutS m S q = none := by unfold PD.cutS; rw [if_pos h]
theorem cutS_out {q : Addr} (h : ¬ m.dom q) : PD.cutS m S q = S q := by unfold PD.cutS; rw [if_neg h]
theorem lend_back (s : Md m S0 H0 S H) (e : Ex S H) (hd : ∀ q es, L.lookup q = some es → m.dom q) (hL : Lk H L) (g : Go (mix m S (lockA H L ods)) (lockA H L ods) S3 H3) : Lkd H3 L ods ∧ Go S H (PD.cutS m S3) (openA H3 L) := by
  obtain ⟨e1, e2, out⟩ := lend_ex (ods := ods) s e hd
  have lk : Lkd H3 L ods := fun q es h => g.h q _ (lockA_in h)
  refine ⟨lk, ⟨fun q o h => ?_, fun q o h => ?_, fun q o h => ?_, fun q o h n => ?_⟩⟩
  · have nq : ¬ m.dom q := fun z => by
      rw [(s.z q z).2.2.1] at h
      cases h
    rw [cutS_out nq]
    exact g.s q o (e2 q o h)
  · cases z : L.lookup q with
    | some es =>
      rw [hL q es z] at h
      rw [openA_in z]
      exact h
    | none =>
      rw [openA_out z]
      exact g.h q o (by rw [lockA_out z]; exact h)
  · by_cases nq : m.dom q
    · rw [cutS_in nq] at h
      cases h
    · rw [cutS_out nq] at h
      cases z : L.lookup q with
      | some es => exact absurd (hd q es z) nq
      | none =>
        rw [openA_out z]
        exact g.sub q o h
  · by_cases nq : m.dom q
    · rw [cutS_in nq] at h
      cases h
    · rw [cutS_out nq] at h
      have k := g.new q o h (by rw [mix_out nq]; exact n)
      rw [out q nq] at k
      exact k
mutual
theorem key_cut (hs : ∀ q xs, Rd S3 q (.tup xs) → Rd S' q (.tup xs)) : ∀ {v : V} {d : DV}, d.isKey = true → Rp K S3 v d → Rp K S' v d
  | _, _, _, .non => .non
  | _, _, _, .bl b => .bl b
  | _, _, _, .int i => .int i
  | _, _, _, .str x => .str x
  | _, _, h, .tup a r => .tup (a.imp (hs _ _) id) (keys_cut hs (by simpa [DV.isKey] using h) r)
  | _, _, h, .lst _ _ => by simp [DV.isKey] at h
  | _, _, h, .obj _ _ => by simp [DV.isKey] at h
  | _, _, h, .frz _ _ => by simp [DV.isKey] at h
  | _, _, h, .dct _ _ _ => by simp [DV.isKey] at h
  | _, _, h, .tks _ _ => by simp [DV.isKey] at h
  | _, _, h, .adr _ => by simp [DV.isKey] at h
theorem keys_cut (hs : ∀ q xs, Rd S3 q (.tup xs) → Rd S' q (.tup xs)) : ∀ {vs : List V} {ds : List DV}, keyAll ds = true → RpA K S3 vs ds → RpA K S' vs ds
  | _, _, _, .nil => .nil
  | _, _, h, .cons r q => by
    rw [keyAll, Bool.and_eq_true] at h
    exact .cons (key_cut hs h.1 r) (keys_cut hs h.2 q)
end
theorem lend_tup (s : Md m S0 H0 S H) (nt : ∀ q xs, m.dom q → ¬ Rd H q (.tup xs)) (g : Ex (mix m S (lockA H L ods)) S3) : ∀ q xs, Rd S3 q (.tup xs) → Rd (PD.cutS m S3) q (.tup xs) := fun q xs h => by
  have nq : ¬ m.dom q := fun hq => by
    have key : ∀ o, lockA H L ods q = some o → S3 q = some o := fun o ho => g q o (by rw [mix_in hq]; exact ho)
    cases z : L.lookup q with
    | some es =>
      have k := key _ (lockA_in z)
      rcases h with h | ⟨ob, h⟩
      · rw [h] at k; cases k
      · rw [h] at k; cases k
    | none =>
      cases y : H q with
      | none => exact (s.z q hq).2.2.2 y
      | some o =>
        have k := key o (by rw [lockA_out z]; exact y)
        refine nt q xs hq ?_
        rcases h with h | ⟨ob, h⟩
        · rw [h] at k; cases k; exact .inl y
        · rw [h] at k; cases k; exact .inr ⟨ob, y⟩
  unfold Rd
  rw [cutS_out nq]
  exact h
theorem ebu_lend (w : Vw K m p d) (hi : ρ[i]? = some (.val (.adr p))) (h : EvB K tt (ρ.set i (.val d)) b) : EvBU K (lendT tt) ρ m b m := fun S0 H0 B σ S H s Q q => by
  obtain ⟨L, hd, hL, rp⟩ := w.v S H (fun q y => (s.d.z q y).2.2.1) s.d.p
  refine ⟨L, hL, fun ods => h _ σ _ _ (lend_ex s.d s.g.sub hd).1 (lend_en s hd hi (rp ods)) _ fun S3 H3 g3 => ?_⟩
  obtain ⟨a, g⟩ := lend_back s.d s.g.sub hd hL g3
  exact ⟨a, q _ _ (s.go g) g.s⟩
theorem evu_lendF (w : Vw K m p d) (hi : ρ[i]? = some (.val (.adr p))) (h : EvD K te (ρ.set i (.val d)) r) (hf : r.flat = true) : EvU K (lendE te) ρ m r m := fun S0 H0 B σ S H s Q q => by
  obtain ⟨L, hd, hL, rp⟩ := w.v S H (fun q y => (s.d.z q y).2.2.1) s.d.p
  refine ⟨L, hL, fun ods => h _ σ _ _ (lend_ex s.d s.g.sub hd).1 (lend_en s hd hi (rp ods)) _ fun v S3 H3 g3 r3 => ?_⟩
  obtain ⟨a, g⟩ := lend_back s.d s.g.sub hd hL g3
  exact ⟨a, q v _ _ (s.go g) g.s (flat_up hf r3)⟩
theorem evu_lendK (w : Vw K m p d) (hi : ρ[i]? = some (.val (.adr p))) (h : EvD K te (ρ.set i (.val d)) r) (hf : r.isKey = true) : EvU K (lendE te) ρ m r m := fun S0 H0 B σ S H s Q q => by
  obtain ⟨L, hd, hL, rp⟩ := w.v S H (fun q y => (s.d.z q y).2.2.1) s.d.p
  refine ⟨L, hL, fun ods => h _ σ _ _ (lend_ex s.d s.g.sub hd).1 (lend_en s hd hi (rp ods)) _ fun v S3 H3 g3 r3 => ?_⟩
  obtain ⟨a, g⟩ := lend_back s.d s.g.sub hd hL g3
  exact ⟨a, q v _ _ (s.go g) g.s (key_cut (lend_tup s.d (fun q xs => w.nt S H q xs s.d.p) g3.s) hf r3)⟩
end
end PD

/-! Dicts of one's own: truth, d[k] = v, setdefault, del, clear. -/
namespace PySem
open Sem (wp)
section
variable {prog : Program} {w : World} {A : Around} {E : Value → Shared → Prop} {s : Shared}
end
end PySem
namespace PD
open PySem PySem.Spec PyProof.Rows L2 MX
section
variable {X : Cx} {pins : List (Addr × Obj)} {σ : L2.St} {S H : Hp} {s : Shared} {p : Addr} {ks vs : List DV} {A : Around} {E : Value → Shared → Prop} {d : DV} {v : V} {u : Value}
end
section
variable {X : Cx} {o e f value : Expr} {pos pos' tpos apos cpos : Pos} {td ty tx : TE}
end
end PD

/-! Mutable things: the rules by syntax; defs that change them. -/
namespace PD
open PySem PySem.Spec PyProof.Rows L2
/-- an expression that may change it in several ways -/
def EvR (K : PySem.W.Frag) (te : TE) (ρ : Rho) (m : Mo) (R : DV → Mo → Prop) : Prop := ∀ S0 H0 B σ S H, Sm K S0 H0 B σ S H ρ m → ∀ Q : VK, (∀ d m' v S' H', R d m' → Sm K S0 H0 B σ S' H' ρ m' → Ex S S' → Rp K S' v d → Q v H') → te σ H Q
section
variable {K : PySem.W.Frag} {ρ ρ' : Rho} {m m' : Mo} {te : TE} {d : DV} {E : Pm} {R : DV → Mo → Prop}
theorem EvU.r (h : EvU K te ρ m d m') : EvR K te ρ m (fun d' m2 => d' = d ∧ m2 = m') := fun S0 H0 B σ S H s Q q => h S0 H0 B σ S H s Q fun v S' H' s' e r => q d m' v S' H' ⟨rfl, rfl⟩ s' e r
end
section
variable (g : Gb) (l : Lc)
def DER (e : Expr) (ρ : Rho) (m : Mo) (R : DV → Mo → Prop) : Prop := EvR g.K (UE g l e) ρ m R
def DEM (e : Expr) (ρ : Rho) (m : Mo) (d : DV) (m' : Mo) : Prop := EvU g.K (UE g l e) ρ m d m'
def DTM (e : Expr) (ρ : Rho) (m : Mo) (b : Bool) (m' : Mo) : Prop := EvBU g.K (UT g l e) ρ m b m'
def DSM (st : Stmt) (ρ : Rho) (m : Mo) (E : Pm) : Prop := StM g.K (US g l st) ρ m E
def DSsM (sts : List Stmt) (ρ : Rho) (m : Mo) (E : Pm) : Prop := StM g.K (USs g l sts) ρ m E
end
section
variable {g : Gb} {l : Lc} {ρ ρ' : Rho} {m m' : Mo} {a c e tg iter : Expr} {es : List Expr} {d r : DV} {ds : List DV} {b : Bool} {pos py : Pos} {E : Pm} {st : Stmt} {sts body orelse : List Stmt} {n : Str} {p : Addr} {R : DV → Mo → Prop}
theorem DER.by (t : TE) (h : ∀ X, Of g l X → PE X e t) (v : EvR g.K t ρ m R) : DER g l e ρ m R := fun S0 H0 B σ S H s Q q => ⟨t, h, v S0 H0 B σ S H s Q q⟩
theorem DEM.by (t : TE) (h : ∀ X, Of g l X → PE X e t) (v : EvU g.K t ρ m d m') : DEM g l e ρ m d m' := fun S0 H0 B σ S H s Q q => ⟨t, h, v S0 H0 B σ S H s Q q⟩
theorem DTM.by (t : TT) (h : ∀ X, Of g l X → PT X e t) (v : EvBU g.K t ρ m b m') : DTM g l e ρ m b m' := fun S0 H0 B σ S H s Q q => ⟨t, h, v S0 H0 B σ S H s Q q⟩
theorem DSM.by (t : TS) (h : ∀ X, Of g l X → PS X st t) (v : StM g.K t ρ m E) : DSM g l st ρ m E := fun S0 H0 B σ S H D s o => ⟨t, h, v S0 H0 B σ S H D s o⟩
theorem DSsM.by (t : TS) (h : ∀ X, Of g l X → PSs X sts t) (v : StM g.K t ρ m E) : DSsM g l sts ρ m E := fun S0 H0 B σ S H D s o => ⟨t, h, v S0 H0 B σ S H D s o⟩
theorem DTM.is {b' : Bool} (h : DTM g l e ρ m b m') (q : b = b') : DTM g l e ρ m b' m' := by rw [← q]; exact h
theorem dem_of (h : DE g l e ρ d) : DEM g l e ρ m d m := evu_of h
theorem dtm_of (h : DT g l e ρ b) : DTM g l e ρ m b m := ebu_of h
theorem dem_lendF {i : Nat} (w : Vw g.K m p d) (hi : ρ[i]? = some (.val (.adr p))) (h : DE g l e (ρ.set i (.val d)) r) (hf : r.flat = true) : DEM g l e ρ m r m := DEM.by _ (fun X o => pe_lend (UE.pe o e)) (evu_lendF w hi h hf)
theorem dem_lendK {i : Nat} (w : Vw g.K m p d) (hi : ρ[i]? = some (.val (.adr p))) (h : DE g l e (ρ.set i (.val d)) r) (hf : r.isKey = true) : DEM g l e ρ m r m := DEM.by _ (fun X o => pe_lend (UE.pe o e)) (evu_lendK w hi h hf)
theorem dtm_lend {i : Nat} (w : Vw g.K m p d) (hi : ρ[i]? = some (.val (.adr p))) (h : DT g l e (ρ.set i (.val d)) b) : DTM g l e ρ m b m := DTM.by _ (fun X o => pt_lend (UT.pt o e)) (ebu_lend w hi h)
theorem dssm_nil (h : E.nx ρ m) : DSsM g l [] ρ m E := DSsM.by _ (fun X o => pss_nil) (stm_next h)
theorem dssm_cons (h : DSM g l st ρ m { E with nx := fun ρ' m' => DSsM g l sts ρ' m' E }) : DSsM g l (st :: sts) ρ m E := DSsM.by _ (fun X o => pss_cons (US.ps o st) (USs.pss o sts)) (stm_seq h)
theorem dssm_one (h : DSM g l st ρ m E) : DSsM g l [st] ρ m E := DSsM.by _ (fun X o => pss_one (US.ps o st)) h
theorem dsm_of {E' : Po} (h : DS g l st ρ E') (hn : ∀ ρ, E'.nx ρ → E.nx ρ m) (hr : ∀ d, ¬ E'.rt d) (hb : ∀ ρ, E'.bk ρ → E.bk ρ m) (hc : ∀ ρ, E'.ct ρ → E.ct ρ m) : DSM g l st ρ m E := stm_pure h hn hr hb hc
theorem dsm_set (i : Nat) (nd : l.N.Nodup) (h : DEM g l e ρ m d m') (q : E.nx (ρ.set i (.val d)) m') (hN : l.N[i]? = some n := by rfl) (hx : Loc l.sc n := by first | exact Or.inl rfl | exact Or.inr rfl) (hf : l.fn n = true ∨ l.sc.names.lookup n = some .local := by first | exact .inl rfl | exact .inr rfl)
    (hs : ∀ env, swapsWith e (some (.Name n py)) pos.line env = pure false := by intro _; rfl) : DSM g l (.Assign [.Name n py] e pos) ρ m E :=
  DSM.by _ (fun X o => ps_set (i := i) (by rw [o.N]; exact nd) (by rw [o.N]; exact hN) (by rw [o.sc]; exact hx) (UE.pe o e) (hs _) (by rcases hf with h | h; exact .inl (o.fn _ h); exact .inr (by rw [o.sc]; exact h))) (stm_asg h q)
theorem dsm_ret (h : DEM g l e ρ m d m') (q : E.rt d m') : DSM g l (.Return (some e) pos) ρ m E := DSM.by _ (fun X o => ps_ret (UE.pe o e)) (stm_ret h q)
theorem dsm_if (h : DTM g l c ρ m b m') (h1 : b = true → DSsM g l body ρ m' E) (h2 : b = false → DSsM g l orelse ρ m' E) : DSM g l (.If c body orelse pos) ρ m E := DSM.by _ (fun X o => ps_if (UT.pt o c) (USs.pss o body) (USs.pss o orelse)) (stm_if h h1 h2)
theorem dsm_ex (h : DEM g l e ρ m d m') (q : E.nx ρ m') (hs : ∀ env, swapsWith e none pos.line env = pure false := by intro _; rfl) : DSM g l (.Expr e pos) ρ m E := DSM.by _ (fun X o => ps_expr (UE.pe o e) (hs _)) (stm_drop h q)
end
/-! ### defs that change a mutable thing -/
structure Bk (m : Mo) (S H : Hp) (m' : Mo) (S' H' : Hp) : Prop where
  s : Ex S S'
  h : ∀ q o, ¬ m.dom q → H q = some o → H' q = some o
  sub : Ex S' H'
  z : ∀ q, m'.dom q → S' q = none ∧ H' q ≠ none
  dm : ∀ q, m'.dom q → m.dom q ∨ H q = none
  new : ∀ q o, S' q = some o → S q = none → m.dom q ∨ H q = none
  p : m'.P S' H'
/-- a promise over data and a mutable thing: behind it stands what R tells -/
def spM (K : PySem.W.Frag) (A : Mo → List DV → (DV → Mo → Prop) → Prop) : Sp := fun vs H Q _ => ∃ S m ds R, Ex S H ∧ (∀ q, m.dom q → S q = none ∧ H q ≠ none) ∧ m.P S H ∧ RpA K S vs ds ∧ A m ds R ∧ ∀ d m' v S' H', R d m' → Bk m S H m' S' H' → Rp K S' v d → Q v H'
section
variable {K : PySem.W.Frag} {S0 H0 B S H S' H' : Hp} {σ : L2.St} {ρ : Rho} {m m' : Mo}
theorem Sm.h0 (s : Sm K S0 H0 B σ S H ρ m) {q : Addr} (h : m.dom q ∨ H q = none) : H0 q = none := by
  by_cases z : m.dom q
  · exact (s.d.z q z).1
  · have e := s.g.h.free (h.resolve_left z)
    rw [mix_out z] at e
    exact e
theorem Sm.back (s : Sm K S0 H0 B σ S H ρ m) (b : Bk m S H m' S' H') : Sm K S0 H0 B σ S' H' ρ m' := by
  have h0 : ∀ q, m'.dom q → H0 q = none := fun q z => s.h0 (b.dm q z)
  refine ⟨⟨s.g.s.tr b.s, fun q o z => ?_, b.sub, fun q o z n => ?_⟩, s.b.tr b.s, ⟨s.n.len, fun i v x a c => ?_, s.n.sep⟩, ⟨fun q z => ⟨h0 q z, ?_, (b.z q z).1, (b.z q z).2⟩, b.p⟩⟩
  · by_cases w : m'.dom q
    · rw [mix_in w] at z; exact z
    · rw [mix_out w] at z
      have nq : ¬ m.dom q := fun y => by rw [(s.d.z q y).1] at z; cases z
      exact b.h q o nq (s.g.h q o (by rw [mix_out nq]; exact z))
  · have w : ¬ m'.dom q := fun y => by rw [(b.z q y).1] at z; cases z
    rw [mix_out w]
    cases e : S q with
    | none => exact s.h0 (b.new q o z e)
    | some u =>
      have k := s.g.new q u e n
      have nq : ¬ m.dom q := fun y => by rw [(s.d.z q y).2.2.1] at e; cases e
      rw [mix_out nq] at k
      exact k
  · have k := s.n.at_ i v x a c
    cases x with
    | un => trivial
    | exo _ _ _ => obtain ⟨a1, fs, b1, c1⟩ := k; exact ⟨a1, fs, b.s _ _ b1, c1.up b.s⟩
    | val d' => obtain ⟨u, k1, k2⟩ := k; exact ⟨u, k1, k2.up b.s⟩
    | ownD d' =>
      obtain ⟨p', o', k1, k2, k3, k4, k5⟩ := k
      have nq : ¬ m.dom p' := fun y => by rw [mix_in y, k4] at k2; cases k2
      have nn : ¬ (m.dom p' ∨ H p' = none) := fun y => y.elim nq (fun y => by rw [k4] at y; cases y)
      have nq' : ¬ m'.dom p' := fun y => nn (b.dm p' y)
      rw [mix_out nq] at k2
      refine ⟨p', o', k1, by rw [mix_out nq']; exact k2, ?_, b.h p' o' nq k4, k5.up b.s⟩
      cases e : S' p' with
      | none => rfl
      | some u => exact absurd (b.new p' u e k3) nn
  · cases e : S0 q with
    | none => rfl
    | some u =>
      have := b.s q u (s.g.s q u e)
      rw [(b.z q z).1] at this
      cases this
open Classical in
noncomputable def hidM (m : Mo) (H : Hp) : Hp := fun q => if m.dom q then none else H q
theorem hidM_in {q : Addr} (h : m.dom q) : hidM m H q = none := by unfold hidM; rw [if_pos h]
theorem hidM_out {q : Addr} (h : ¬ m.dom q) : hidM m H q = H q := by unfold hidM; rw [if_neg h]
theorem hidM_none {q : Addr} (h : hidM m H q = none) : m.dom q ∨ H q = none := by
  by_cases z : m.dom q
  · exact .inl z
  · rw [hidM_out z] at h; exact .inr h
theorem mix_hid : mix m (hidM m H) H = H := funext fun q => by
  by_cases z : m.dom q
  · rw [mix_in z]
  · rw [mix_out z, hidM_out z]
theorem bk_of (g : Go S (mix m' (hidM m H) H') S' H') (d : Md m' S (hidM m H) S' H') : Bk m S H m' S' H' where
  s := g.s
  h := fun q o nq z => by
    have w : ¬ m'.dom q := fun y => by
      have := (d.z q y).1
      rw [hidM_out nq, z] at this
      cases this
    exact g.h q o (by rw [mix_out w, hidM_out nq]; exact z)
  sub := g.sub
  z := fun q y => ⟨(d.z q y).2.2.1, (d.z q y).2.2.2⟩
  dm := fun q y => hidM_none (d.z q y).1
  new := fun q o a n => by
    have w : ¬ m'.dom q := fun y => by rw [(d.z q y).2.2.1] at a; cases a
    have k := g.new q o a n
    rw [mix_out w] at k
    exact hidM_none k
  p := d.p
theorem fn_okM {g : Gb} {x qual : Str} {st : Stmt} {f : Addr} {fd : FuncData} {N ps : List Str} {k : Nat} {A : Mo → List DV → (DV → Mo → Prop) → Prop} (F : Fun g.K x qual st f fd) (S : FnScope N ps (defScope st)) (len : ∀ m ds R, A m ds R → ds.length = ps.length)
    (body : ∀ m ds R, A m ds R → DSsM g ⟨k, N, defScope st, fun _ => true, true, none⟩ (defBody st) (rho0 N ds) m { nx := fun _ m' => R .non m', rt := R }) : FnOk g.P g.w g.K g.mg g.base CX0 (k + 1) f fd ps (spM g.K A) := by
  refine F.ok S (fun vs H Q E ⟨S0, m, ds, R, e, _, _, ra, hR, _⟩ => by rw [ra.len]; exact len m ds R hR) (fun cdv A' outer s H vs Q E hr ⟨S0, m, ds, R, e, hz, hp, ra, hR, q⟩ => ?_)
  refine ⟨USs g ⟨k, N, defScope st, fun _ => true, true, none⟩ (defBody st), USs.pss ⟨rfl, rfl, rfl, rfl, rfl, rfl, rfl, fun _ _ => rfl, fun _ => rfl, fun _ => hr, hr.un, fun _ => PassesOwn.never, fun _ _ _ h => by cases h⟩ _, ?_⟩
  refine body m ds R hR S0 (hidM m H) S0 _ S0 H _ ⟨by rw [mix_hid]; exact Go.rf e, Ex.rf _, en_start ra, ⟨fun q y => ⟨hidM_in y, (hz q y).1, (hz q y).1, (hz q y).2⟩, hp⟩⟩ ⟨fun ρ m' σ S1 H1 z s1 => ?_, fun d m' v S1 H1 z r1 => ?_, fun _ _ _ _ _ z => z.elim, fun _ _ _ _ _ z => z.elim⟩
  · exact q .non m' .non S1 H1 z (bk_of s1.g s1.d) .non
  · exact q d m' v S1 H1 z (bk_of r1.go r1.md) r1.rp
end
/-- a method that changes its object -/
structure MeM (g : Gb) (k : Nat) (C : Addr) (n : Str) (A : Mo → List DV → (DV → Mo → Prop) → Prop) : Prop where
  ex : ∃ f, Meth g.K C n f ∧ ∃ fd ps, FnOk g.P g.w g.K g.mg g.base CX0 k f fd ps (spM g.K A) ∧ Binds g.K fd ps []
/-- at p stands an instance of C without the attribute n -/
def InsAt (m : Mo) (p C : Addr) (n : Str) : Prop := ∀ S H, m.P S H → ∃ dx fs, H p = some (.ins C dx fs) ∧ fs.lookup n = none
section
variable {g : Gb} {l : Lc} {ρ : Rho} {m : Mo} {a c e o : Expr} {es : List Expr} {d : DV} {ds : List DV} {pos apos : Pos} {n : Str} {p C : Addr} {R : DV → Mo → Prop} {A : Mo → List DV → (DV → Mo → Prop) → Prop}
theorem evr_meth {K : PySem.W.Frag} {te : TE} {ta : TA} (hI : InsAt m p C n) (h : EvD K te ρ (.adr p)) (ha : EvA K ta ρ ds) (hA : A m (.adr p :: ds) R) : EvR K (tMeth C n (spM K A) [] E0 te ta) ρ m R := fun S0 H0 B σ S H s Q q =>
  h _ σ S H s.g.sub s.n _ fun v S1 H1 g1 r1 => by
    have s1 := s.go g1
    cases r1
    obtain ⟨dx, fs, hp, hl⟩ := hI S1 H1 s1.d.p
    refine ⟨p, dx, fs, rfl, hp, hl, ha _ σ S1 H1 s1.g.sub s1.n _ fun vs S2 H2 g2 r2 => ?_⟩
    have s2 := s1.go g2
    refine ⟨S2, m, _, R, s2.g.sub, fun q y => ⟨(s2.d.z q y).2.2.1, (s2.d.z q y).2.2.2⟩, s2.d.p, by rw [List.append_nil]; exact .cons (.adr p) r2, hA, fun d m' v S3 H3 hR b r3 => ?_⟩
    exact q d m' v S3 H3 hR (s2.back b) ((g1.s.tr g2.s).tr b.s) r3
theorem der_meth {k : Nat} {pl : Env → Sem Bool} (c : Cls g.K C) (M : MeM g k C n A) (hI : InsAt m p C n) (h : DE g l o ρ (.adr p)) (ha : DA g l (e :: es) ρ ds) (hA : A m (.adr p :: ds) R) (hk : k ≤ l.k := by decide)
    (hst : ∀ env, starEach (e :: es) env = (false, eval e env) :: starEach es env := by intro _; rfl) (hpl : ∀ env, (backTo pos (starEach es env)).any (·.1) = false := by intro _; rfl)
    (ht : ∀ env, eval (.Call (.Attribute o n apos) (e :: es) [] pos) env = (do
      let ov ← eval o env; standAt apos.atName; let (f, first) ← holding [ov] (getMethod ov n (pl env)); callWith pos f first (backTo pos (starEach (e :: es) env)) (backToKw pos (keywordEach [] env))) := by intro _; rfl) (hcl : l.cb = true := by rfl) : DER g l (.Call (.Attribute o n apos) (e :: es) [] pos) ρ m R := by
  obtain ⟨f, hm, fd, ps, ok, hb⟩ := M.ex
  exact DER.by (tMeth C n (spM g.K A) [] E0 (UE g l o) (UA g l (e :: es))) (fun X x => pe_meth (pl := pl _) (CX := CX0) (k := k) (UE.pe x o) (by rw [x.K]; exact c) (by rw [x.K]; exact hm) (by rw [x.prog, x.w, x.K, x.mg, x.base]; exact ok) ((x.room hcl).mono hk) (ds := []) (by rw [x.K]; exact hb) .nil pass0 (UA.pa x _) (hst _) (hpl _) (ht _)) (evr_meth hI h ha hA)
/-- a new instance, on its way -/
def newMo (C x : Addr) : Mo := ⟨fun q => q = x, fun _ H => ∃ dx, H x = some (.ins C dx []), fun S H S' H' _ e ⟨dx, h⟩ => ⟨dx, by rw [e x rfl]; exact h⟩⟩
end
end PD

/-! The search, as a plain function; the object that it runs on. -/
namespace SP
open PySem PySem.Spec PyProof.Rows L2 PD
/-! ### lists of pairs as dicts -/
end SP

/-! The search's object: what changes it. -/
namespace SP
open PySem PySem.Spec PyProof.Rows L2 PD
section
variable {K : PySem.W.Frag} {S H H' : Hp}
end
section
variable {K : PySem.W.Frag} {W : World} {CS : Addr} {gd : DV} {p c o w : Addr} {ls : List Addr} {s : SS} {S H : Hp}
end
theorem Sm.upd' {K : PySem.W.Frag} {S0 H0 B S H : Hp} {σ : L2.St} {ρ : Rho} {m m' : Mo} {a : Addr} {u : HO} (s : Sm K S0 H0 B σ S H ρ m) (ha : m.dom a) (hd : ∀ q, m'.dom q → m.dom q) (hP : m'.P S (upd H a u)) : Sm K S0 H0 B σ S (upd H a u) ρ m' :=
  s.back ⟨Ex.rf S, fun q o nq z => by rw [upd_ne (show q ≠ a from fun y => nq (by rw [y]; exact ha))]; exact z, Ex.off s.g.sub (s.d.z a ha).2.2.1, fun q y => ⟨(s.d.z q (hd q y)).2.2.1, by
    by_cases e : q = a
    · rw [e, upd_same]; exact fun z => by cases z
    · rw [upd_ne e]; exact (s.d.z q (hd q y)).2.2.2⟩, fun q y => .inl (hd q y), fun q o z n => (by rw [n] at z; cases z), hP⟩
end SP

/-! The search's object: the statements that change it. -/
namespace SP
open PySem PySem.Spec PyProof.Rows L2 PD
section
variable {K : PySem.W.Frag} {W : World} {CS : Addr} {gd : DV} {p c o w : Addr} {ls : List Addr} {s : SS} {ρ : Rho} {E : Pm} {te ta tk tv : TE} {i j k : Nat} {d x : DV}
end
end SP

namespace SP
open PySem PySem.Spec PyProof.Rows L2 PD
variable {g : Gb} {M : Addr} {tG : Tok}
/-! all pieces, all orders -/
theorem word_mem {ls z : Str} (hl : letterSet ls) (h : wordOk ls 2 z = true) : z ∈ piecesOf ls := by
  have hz := wordOk_len h
  unfold wordOk at h
  rw [Bool.and_eq_true] at h
  have ha : ∀ c ∈ z.cps.toList, c ∈ ls.cps.toList := fun c hc => of_decide_eq_true (List.all_eq_true.mp h.2 c hc)
  have e : z = ⟨z.cps.toList.toArray⟩ := str_ext rfl
  have hn : z.cps.toList.length ≤ 2 := by rw [len_toList]; exact hz
  rw [e]
  generalize z.cps.toList = l at ha hn
  have mem : ∀ c, c ∈ ls.cps.toList → (ls = "ab" ∧ (c = 97 ∨ c = 98)) ∨ (ls = "abc" ∧ (c = 97 ∨ c = 98 ∨ c = 99)) := fun c hc => by
    rcases hl with rfl | rfl
    · exact .inl ⟨rfl, by simpa using (show c ∈ [97, 98] from hc)⟩
    · exact .inr ⟨rfl, by simpa using (show c ∈ [97, 98, 99] from hc)⟩
  match l, ha, hn with
  | [], _, _ => rcases hl with rfl | rfl <;> decide +kernel
  | [a], ha, _ =>
    rcases mem a (ha a (by simp)) with ⟨rfl, rfl | rfl⟩ | ⟨rfl, rfl | rfl | rfl⟩ <;> decide +kernel
  | [a, b], ha, _ =>
    have hb := ha b (by simp)
    rcases mem a (ha a (by simp)) with ⟨rfl, h1⟩ | ⟨rfl, h1⟩
    · have h2 : b = 97 ∨ b = 98 := by simpa using (show b ∈ [97, 98] from hb)
      rcases h1 with rfl | rfl <;> rcases h2 with rfl | rfl <;> decide +kernel
    · have h2 : b = 97 ∨ b = 98 ∨ b = 99 := by simpa using (show b ∈ [97, 98, 99] from hb)
      rcases h1 with rfl | rfl | rfl <;> rcases h2 with rfl | rfl | rfl <;> decide +kernel
  | _ :: _ :: _ :: _, _, hn => simp at hn
theorem order_mem {n : Nat} : ∀ {o : List Nat}, o.length ≤ 3 → (∀ b ∈ o, b < n) → o ∈ ordersOf n
  | [], _, _ => by unfold ordersOf; simp
  | [a], _, h => by
    have ha := h a (by simp)
    unfold ordersOf onesO
    simp [ha]
  | [a, b], _, h => by
    have ha := h a (by simp)
    have hb := h b (by simp)
    unfold ordersOf onesO
    simp
    exact .inl ⟨[a], ⟨a, ha, rfl⟩, b, hb, rfl⟩
  | [a, b, c], _, h => by
    have ha := h a (by simp)
    have hb := h b (by simp)
    have hc := h c (by simp)
    unfold ordersOf onesO
    simp
    exact .inr ⟨[a, b], ⟨[a], ⟨a, ha, rfl⟩, b, hb, rfl⟩, c, hc, rfl⟩
  | _ :: _ :: _ :: _ :: _, h, _ => by simp at h
end SP

/-! The search's object: what reads it. -/
namespace SP
open PySem PySem.Spec PyProof.Rows L2 PD
variable {g : Gb} {CS : Addr}
section
variable {l : Lc} {ρ : Rho} {e a b : Expr} {pos p : Pos} {ds : List DV}
end
/-! the attributes -/
section
variable {W : World} {gd : DV} {s : SS}
end
/-! ready_at -/
/-! constants -/
/-! ends_at -/
/-! least_cost -/
/-! nodes -/
/-! count_below -/
/-! while, without mutable things -/
/-! way -/
/-! bounds -/
end SP

/-! The search: in order throughout; its mirror. -/
namespace SP
open PySem PySem.Spec PyProof.Rows L2 PD
/-! the mirror -/
end SP

/-! The search: expand, run. -/
namespace SP
open PySem PySem.Spec PyProof.Rows L2 PD
/-! what is walked, with a mutable thing -/
section
variable {K : PySem.W.Frag} {ρ ρ' : Rho} {m m' : Mo} {te : TE} {ts : TS} {E : Pm} {ds : List DV}
end
section
variable {g : Gb} {l : Lc} {ρ : Rho} {m : Mo} {tg iter : Expr} {body : List Stmt} {ds : List DV} {pos : Pos} {E : Pm}
end
variable {g : Gb} {CS CG : Addr}
section
variable {kS : Nat} {gs : List (Str × DV)} {N : DV → Prop} {st : DV → List Stp} {start : DV} {least : Int} {RS : List DV → DV → Prop} {p c o w : Addr} {ls : List Addr} {s : SS} {ρ : Rho} {l : Lc}
end
/-! the statements by syntax -/
section
variable {l : Lc} {ρ : Rho} {E : Pm} {gd : DV} {p c o w : Addr} {ls : List Addr} {s : SS} {i j k : Nat} {d : DV} {nm n2 n3 : Str} {e1 e2 : Expr} {p1 p2 p3 p4 p5 p6 p7 p8 p9 : Pos} {cost lv : Int}
end
/-! expand -/
end SP

/-! The search: run, __init__, search. -/
namespace SP
open PySem PySem.Spec PyProof.Rows L2 PD
variable {g : Gb} {CS CG : Addr}
section
variable {l : Lc} {ρ : Rho} {gd : DV} {p c o w : Addr} {ls : List Addr} {s : SS} {nm : Str} {p1 p2 : Pos}
end
/-! run -/
end SP

/-! The search: __init__, search. -/
namespace SP
open PySem PySem.Spec PyProof.Rows L2 PD
variable {g : Gb} {CS CG : Addr}
/-! search -/
end SP

namespace SP
open PySem PySem.Spec PyProof.Rows L2 PD
variable {g : Gb} {M : Addr} {tG : Tok}
end SP

/-! The moves' writes are the safe writes. -/
namespace SP
open PySem L2 PD
end SP

/-! The graph of changes: states as keys, steps. -/
namespace SP
open PySem PySem.Spec PyProof.Rows L2 PD
/-! states as keys -/
/-! the moves as tuples -/
section
variable {n : Nat} {M : Addr} {ls : Str} {nb : Nat} {pp op : Int} {tn : Bool} {old new : Str} {start : DV}
end
variable {g : Gb} {C M CG : Addr} {tG : Tok}
/-! is_open -/
end SP

/-! ChangeGraph(file, text). -/
namespace PD
open PySem PySem.Spec PyProof.Rows L2
section
variable {g : Gb} {n : Nat} {l : Lc} {ρ : Rho} {C M : Addr} {gs gm : List (Str × DV)} {f f1 f2 nm : Str} {d : DV} {p1 p2 p3 p4 p5 p6 : Pos}
end
end PD
namespace SP
open PySem PySem.Spec PyProof.Rows L2 PD
variable {g : Gb} {C M CG : Addr} {tG : Tok} {n : Nat}
end SP

/-! More with a bound: arguments, stores, methods. -/
namespace PD
open PySem PySem.Spec PyProof.Rows L2
structure PAN (X : Cx) (n : Nat) (es : List Expr) (t : TA) : Prop where
  run : ∀ (pos : Pos) (pins : List (Addr × Obj)) (s : Shared) (σ : L2.St) (H : Hp) (Q : List V → Hp → Prop), n ≤ s.toks → Inv X pins σ H s → t σ H Q → wpAny (model X.prog X.w) X.A (spliced (backTo pos (starEach es X.env))) (AP X pins σ Q) X.xe s
theorem PAN.of {X : Cx} {n : Nat} {es : List Expr} {t : TA} (h : PA X es t) : PAN X n es t := ⟨fun pos pins s σ H Q _ I q => h.run pos pins s σ H Q I q⟩
section
variable {X : Cx} {CX : CXT} {k n : Nat} {f C : Addr} {fd : FuncData} {ps : List Str} {sp : Sp} {E : XK} {x m : Str} {p pos apos : Pos} {e o : Expr} {es : List Expr} {t : TA} {te ta : TE}
theorem pan_cons (ha : PN X n e te) (hr : PAN X n es t) (hs : starEach (e :: es) X.env = (false, eval e X.env) :: starEach es X.env := by rfl) : PAN X n (e :: es) (tCons te t) := by
  refine ⟨fun pos pins s σ H Q ht I h => ?_⟩
  rw [hs]
  show wpAny _ _ (spliced ((false, eval e X.env) :: backTo pos (starEach es X.env))) _ _ s
  refine Calls.spliced_cons (thnN ht (ha.run pins s σ H _ ht I h) fun u s1 ht1 ⟨x, H1, I1, r1, q1⟩ => ?_)
  exact thn (hr.run pos pins s1 σ H1 _ ht1 I1 q1) fun us s2 ⟨xs, H2, I2, r2, q2⟩ => ⟨x :: xs, H2, I2, .cons r1 r2, q2⟩
theorem sn_set {i : Nat} {pos' : Pos} (hN : X.N.Nodup) (hi : X.N[i]? = some x) (hx : Loc X.env.scope x) (he : PN X n e te) (hs : swapsWith e (some (.Name x pos')) pos.line X.env = pure false := by rfl) (hf : X.fn x = true ∨ X.env.scope.names.lookup x = some .local := by first | exact .inl rfl | exact .inr rfl | assumption) :
    SN X n (.Assign [.Name x pos'] e pos) (tAsg te (gName i)) := by
  refine ⟨fun pins s σ H D ht I h => ?_⟩
  refine wpAny_Assign_Name (thn (he.run pins s σ H _ ht I h) fun v s1 ⟨y, H1, I1, r1, q1⟩ => ?_) hs
  exact store_ok I1 hN hi hx r1 (fun s2 I2 => ⟨_, H1, I2, q1⟩) hf
end
section
variable (g : Gb) (n : Nat) (l : Lc)
def UAN (es : List Expr) : TA := fun σ H Q => ∃ t, (∀ X, Of g l X → PAN X n es t) ∧ t σ H Q
def DAN (es : List Expr) (ρ : Rho) (ds : List DV) : Prop := EvA g.K (UAN g n l es) ρ ds
end
theorem UAN.pan {g : Gb} {n : Nat} {l : Lc} {X : Cx} (o : Of g l X) (es : List Expr) : PAN X n es (UAN g n l es) := ⟨fun pos pins s σ H Q ht I ⟨t, h, q⟩ => (h X o).run pos pins s σ H Q ht I q⟩
section
variable {g : Gb} {n : Nat} {l : Lc} {ρ : Rho} {e o : Expr} {es : List Expr} {ds : List DV} {d : DV} {x m nm : Str} {p pos py apos : Pos} {k : Nat} {C : Addr} {gs : List (Str × DV)} {R : List DV → DV → Prop} {E : Po}
theorem DAN.by (t : TA) (h : ∀ X, Of g l X → PAN X n es t) (v : EvA g.K t ρ ds) : DAN g n l es ρ ds := fun H0 σ S H ex m Q q => ⟨t, h, v H0 σ S H ex m Q q⟩
theorem DAN.of (h : DA g l es ρ ds) : DAN g n l es ρ ds := .by _ (fun X o => .of (UA.pa o es)) h
theorem dan_cons (h : DEN g n l e ρ d) (r : DAN g n l es ρ ds) (hs : ∀ env, starEach (e :: es) env = (false, eval e env) :: starEach es env := by intro _; rfl) : DAN g n l (e :: es) ρ (d :: ds) :=
  .by _ (fun X o => pan_cons (UEN.pn o e) (UAN.pan o es) (hs _)) (ea_cons h r)
theorem dsn_set (i : Nat) (nd : l.N.Nodup) (h : DEN g n l e ρ d) (q : E.nx (ρ.set i (.val d))) (hN : l.N[i]? = some nm := by rfl) (hx : Loc l.sc nm := by first | exact Or.inl rfl | exact Or.inr rfl) (hf : l.fn nm = true ∨ l.sc.names.lookup nm = some .local := by first | exact .inl rfl | exact .inr rfl)
    (hs : ∀ env, swapsWith e (some (.Name nm py)) pos.line env = pure false := by intro _; rfl) : DSN g n l (.Assign [.Name nm py] e pos) ρ E :=
  DSN.by _ (fun X o => sn_set (i := i) (by rw [o.N]; exact nd) (by rw [o.N]; exact hN) (by rw [o.sc]; exact hx) (UEN.pn o e) (hs _) (by rcases hf with h | h; exact .inl (o.fn _ h); exact .inr (by rw [o.sc]; exact h))) (st_asg h q)
end
end PD

/-! What is raised, from states in which at least n identities have been given out. -/
namespace PD
open PySem PySem.Spec PyProof.Rows L2
section
variable {X : Cx} {CX : CXT} {k n : Nat} {f C : Addr} {fd : FuncData} {ps : List Str} {sp : Sp} {E : L2.St → XK} {x : Str} {p pos : Pos} {e o : Expr} {es : List Expr} {te : TE} {t : TA}
theorem sn_exprZ (he : PN X n e te) (hs : swapsWith e none pos.line X.env = pure false := by rfl) : SN X n (.Expr e pos) (tDrop te) :=
  ⟨fun pins s σ H D ht I h => wpAny_Expr_any (thn (he.run pins s σ H _ ht I h) fun v s1 ⟨x, H1, I1, r1, q1⟩ => ⟨σ, H1, I1, q1⟩) I.quiet hs⟩
end
section
variable (g : Gb) (n : Nat) (l : Lc)
end
section
variable {g : Gb} {n k : Nat} {l : Lc} {X : Cx} {W : WX} {ρ : Rho} {e c : Expr} {es : List Expr} {st : Stmt} {sts body orelse : List Stmt} {E : Po} {Z : Zo} {o : Out} {d : DV} {ds : List DV} {pos p p2 py : Pos} {x : Bool} {nm : Str}
end
end PD

/-! try .. except X as e, from states in which at least n identities have been given out. -/
namespace PD
open PySem PySem.Spec PyProof.Rows L2
section
variable {X : Cx} {x nm : Str} {cl : Value} {i n : Nat} {body rest : List Stmt} {first : Stmt} {np pos pos' : Pos} {tb : WX → TS} {ts : Addr → Value → Option Addr → TS} {Wo : WX}
/-- the clauses, from where an exception is in the air -/
theorem catch_as {pins : List (Addr × Obj)} {D : Ends} (ok : X.Ok) (hst : X.stack = X.env :: X.outer) (hfr : X.env.frame = some X.env.locals) (nd : X.N.Nodup) (hi : X.N[i]? = some nm) (hlo : X.env.kindOf nm = some .local) (hc : Names X x cl) (tk : Takes X Wo)
    (hsu : ∀ (a : Addr) (ob : Obj) (cls : Value) (d : Option Addr) (pn : List (Addr × Obj)), Zc cls d ob → (∃ vs, ob.data = .fields vs) → PSs (X.suite a ((a, ob) :: pn)) (first :: rest) (ts a cls d)) {xe : Value → Shared → Prop} :
    ∀ u s', XE (X.tr (X.pn ++ pins) xe) (wAs X.K cl i ts Wo D) u s' → wpAny (model X.prog X.w) X.A (noteFrame u X.env) (fun _ s₂ => wpAny (model X.prog X.w) X.A (setFlight u none) (fun _ s₃ =>
      wpAny (model X.prog X.w) X.A (handleBy u X.env [.ExceptHandler (some (.Name x np)) (some nm) (first :: rest) pos']) (SP X pins D) X.xe s₃) X.xe s₂) X.xe s' := by
  rintro u s' ⟨a, B, sI, p2, σ1, H1, cls, d, rfl, J0, old, slots, sk, fresh, eos, bare, b, hex, yes, no⟩
  have frames : X.A.frames = some (X.env :: X.outer) := by rw [ok.frames, hst]
  have J := J0.ofTry ok
  have sk2 : Sky B (X.env :: X.outer) a (Zc cls d) X.env.locals s'.heap := by rw [← hst]; exact sk
  refine Sky.land Zc.steady frames hfr sk2 fun hA fA uA => ?_
  have JA : Inv X pins σ1 H1 { s' with heap := hA } := J.landed old fA.1 (slots.trans uA) eos bare
  obtain ⟨ob, fvs, atA, zA, dA⟩ := fA.there
  have outside : a ∉ frs (X.env :: X.outer) := fun hm => by
    obtain ⟨_, o2, e2, nf⟩ := fA.2.2.1.mem hm
    rw [atA] at e2
    cases e2
    exact nf _ dA
  have neL : a ≠ X.env.locals := fun z => outside (List.mem_filterMap.mpr ⟨X.env, List.mem_cons_self, by rw [hfr, z]⟩)
  have neF : a ∉ X.fs := fun hm => by
    obtain ⟨e, he, q⟩ := List.mem_filterMap.mp hm
    exact outside (List.mem_filterMap.mpr ⟨e, List.mem_cons_of_mem _ he, q⟩)
  have SA := JA.suite atA dA fresh neL neF
  refine wpAny_handleBy_cons (codeAny_handlers_test ?_) (fun q => by cases q)
  have found : PySem.W.Looks (model X.prog X.w) hA (typeOf (.ref a)) cls := fun A Q E s k q => wpAny_typeOf_ref (k _ _ atA) (by rw [zA.1]; exact q)
  have match_ := PySem.W.exm_one (M := model X.prog X.w) JA.kIn found hex
  have named : ∀ {Q E : Value → Shared → Prop}, Q cl { s' with heap := hA } → wpAny (model X.prog X.w) (X.A.mark (some (.ref a))) (eval (.Name x np) X.env) Q E { s' with heap := hA } := fun {Q E} q => by
    obtain ⟨g1, g2, g3 | ⟨g3, g4, g5⟩⟩ := hc
    · exact ld_glob (X := X.suite a ((a, ob) :: (X.pn ++ pins))) SA g1 g3 q g2
    · exact ld_blt (X := X.suite a ((a, ob) :: (X.pn ++ pins))) SA g1 g3 g4 q g5 g2
  refine named (match_.here ?_)
  match b, yes, no with
  | true, yes, _ =>
    refine codeAny_handlers_suite_as (HandSPX.lands_againZ fA fun hB fB uB => ?_)
    have JB : Inv X pins σ1 H1 { s' with heap := hB } := J.landed old fB.1 ((slots.trans uA).trans uB) eos bare
    obtain ⟨ob2, fvs2, atB, zB, dB⟩ := fB.there
    refine store_ok (X := X.suite a ((a, ob2) :: (X.pn ++ pins))) (v := .ref a) (JB.suite atB dB fresh neL neF) nd hi (.inl hlo) rfl (fun s5 S5 => ?_) (.inr hlo)
    refine wpAny_mono ((hsu a ob2 cls d (X.pn ++ pins) zB ⟨_, dB⟩).run [] s5 _ H1 _ S5 (yes rfl a fresh)) (fun f s6 sp6 => ?_) fun _ _ z => z.elim
    have over : ∀ {σ6 : L2.St} {H6 : Hp} {Q : Shared → Prop}, Inv (X.suite a ((a, ob2) :: (X.pn ++ pins))) [] σ6 H6 s6 → (∀ s7, Inv X pins (σ6.set i none) H6 s7 → Q s7) → wpAny (model X.prog X.w) X.A (do bindName X.env nm .none; unbindBehindTheSuite X.env nm pos') (fun _ s7 => Q s7) X.xe s6 := fun S6 k => gone_ok (S6.unsuite ok) nd hi hlo k
    match f, sp6 with
    | .next, ⟨σ6, H6, S6, q⟩ => exact over S6 fun s7 J7 => ⟨_, _, J7, q⟩
    | .brk, ⟨σ6, H6, S6, q⟩ => exact over S6 fun s7 J7 => ⟨_, _, J7, q⟩
    | .cont, ⟨σ6, H6, S6, q⟩ => exact over S6 fun s7 J7 => ⟨_, _, J7, q⟩
    | .ret u, ⟨v, σ6, H6, S6, r, q⟩ => exact over S6 fun s7 J7 => ⟨_, _, _, J7, r, q⟩
  | false, _, no =>
    show wpAny _ X.A (handleBy (.ref a) X.env []) _ _ _
    refine wpAny_handleBy_nil ?_
    obtain ⟨_, _, _, oe, vs, T, oT, t2, he, _, hd, h1, _⟩ := id fA
    unfold PySem.passOn
    refine wpAny_bind (wpAny_field he hd h1 ?_)
    rw [if_neg (show ¬ ((Value.ref T == Value.none) = true) from by simp)]
    have up : wpAny (model X.prog X.w) X.A (setFlight (.ref a) X.env.frame) (fun _ s4 => wpAny (model X.prog X.w) X.A (throw (.ref a) : Sem Flow) (SP X pins D) X.xe s4) X.xe { s' with heap := hA } := by
      rw [hfr]
      exact HandSPX.setFlight_upZ fA fun hC fC uC => wpAny_throw (tk _ _ ⟨a, B, sI, pins, σ1, H1, cls, d, rfl, J, old, (slots.trans uA).trans uC, .inr (.inr (by rw [hst]; exact fC)), fresh, eos, bare, no rfl⟩)
    first
      | exact wpAny_bind (wpAny_pure (wpAny_bind up))
      | exact wpAny_bind up
theorem sn_try_as (hst : X.stack = X.env :: X.outer) (hfr : X.env.frame = some X.env.locals) (nd : X.N.Nodup) (hi : X.N[i]? = some nm) (hlo : X.env.kindOf nm = some .local) (hc : Names X x cl) (tk : Takes X Wo)
    (hb : ∀ (W : WX) (pn : List (Addr × Obj)) (xe : Value → Shared → Prop), Takes (X.tr pn xe) W → PassesOwn (model X.prog X.w) X.A X.env xe → SsN (X.tr pn xe) n body (tb W))
    (hsu : ∀ (a : Addr) (ob : Obj) (cls : Value) (d : Option Addr) (pn : List (Addr × Obj)), Zc cls d ob → (∃ vs, ob.data = .fields vs) → PSs (X.suite a ((a, ob) :: pn)) (first :: rest) (ts a cls d)) :
    SN X n (.Try body [.ExceptHandler (some (.Name x np)) (some nm) (first :: rest) pos'] [] [] pos) (fun D σ H => tb (wAs X.K cl i ts Wo D) D σ H) := by
  refine ⟨fun pins s σ H D ht I h => wpAny_Try_except ?_⟩
  refine wpAny_mono ((hb (wAs X.K cl i ts Wo D) (X.pn ++ pins) _ (catch_as (pins := pins) (D := D) (np := np) (pos' := pos') I.ok hst hfr nd hi hlo hc tk hsu) PassesOwn.looking).run [] s σ H D ht (I.toTry _) h) (fun f s1 sp1 => ?_) fun e s1 he => he
  match f, sp1 with
  | .next, ⟨σ1, H1, J, q⟩ => exact wpAny_execs_nil ⟨σ1, H1, J.ofTry I.ok, q⟩
  | .brk, ⟨σ1, H1, J, q⟩ => exact ⟨σ1, H1, J.ofTry I.ok, q⟩
  | .cont, ⟨σ1, H1, J, q⟩ => exact ⟨σ1, H1, J.ofTry I.ok, q⟩
  | .ret u, ⟨v, σ1, H1, J, r, q⟩ => exact ⟨v, σ1, H1, J.ofTry I.ok, r, q⟩
end
end PD

/-! f(lambda: ..): told too: of what is known, the maker's own table alone is changed. -/
namespace PD
open PySem PySem.Spec PyProof.Rows L2 LamX
/-- what the making of a lambda does: nothing that is known, or a code object is new and stands in the maker's own table at P -/
def TabStep (P : Addr) (q : Str) (H H1 : Hp) : Prop := H1 = H ∨ ∃ (ps : Array Value) (pos : Pos) (c' : Addr), H P = some (.tbl ps) ∧ TriplesOk ps.toList ∧ H c' = none ∧ P ≠ c' ∧ H1 = upd (upd H P (.tbl (ps ++ #[rawInt pos.line, rawInt pos.col, .ref c']))) c' (CodeO c' q)
theorem step_toList (ps : Array Value) (pos : Pos) (c' : Addr) : (ps ++ #[rawInt pos.line, rawInt pos.col, .ref c']).toList = ps.toList ++ [rawInt pos.line, rawInt pos.col, .ref c'] := by simp
section
variable {X : Cx} {pins : List (Addr × Obj)} {σ : L2.St} {H : Hp} {s : Shared}
theorem lam_makeP {T : List (Addr × Str)} {c P : Addr} {params : Arguments} {body : Expr} {scope : Scope} {pos : Pos} {q : Str} {E : Value → Shared → Prop} {Q : Value → Shared → Prop} (I : Inv X pins σ H s) (TB : TabB X.base X.mg c P) (hcode : X.env.code = .ref c) (eq : X.env.qual ++ "<lambda>" = q)
    (hm : (P, q) ∈ T) (hT : Tabs T H) (hdef : defaultsOf params X.env = ([], [])) (hfree : ∀ y ∈ scope.names, y.2 = .free → ∃ c, X.env.cells.lookup y.1 = some c)
    (h : ∀ (f c' : Addr) (pm ctv : Value) (H1 : Hp) (s' : Shared), Inv X pins σ H1 s' → TabStep P q H H1 → s'.heap.get? f = some (PySem.W.kla_obj "<lambda>" q params body scope (cloFrom X.env.cells scope.names []) pm c' ctv) → H1 f = none → f ∉ frs X.stack → H1 c' = some (CodeO c' q) → Q (.ref f) s') :
    wpAny (model X.prog X.w) X.A (eval (.Lambda params body scope pos) X.env) Q E s := by
  subst eq
  obtain ⟨ps, hP, ht, ha⟩ := hT _ hm
  have inHeap : s.heap.get? P = some { cls := .none, data := .fields ps } := I.hok P _ hP
  have boot := TB.bm.keeps I.bk
  have away : ∀ {f}, s.heap.objs.size ≤ f → f ∉ frs X.stack := fun {f} hf z => by
    rcases List.mem_cons.mp (I.stkSub _ z) with e | e
    · exact Nat.lt_irrefl _ (Nat.lt_of_lt_of_le (e ▸ I.lt) hf)
    · exact I.nofs hf e
  refine PySem.W.kla_eval hdef ?_
  cases hc : codeAmong pos ps.toList with
  | some cv =>
    obtain ⟨c', rfl, hco⟩ := ha pos cv hc
    refine PySem.W.kla_makeFunctionHit (mg := X.mg) (c := c) (P := P) (ps := ps) (closure_ok hfree) I.ok.glob (I.mod.glob.keeps I.bk) hcode (TB.code.keeps I.bk) inHeap ht hc boot fun ctv h' tk hx hsz => ?_
    exact h h'.objs.size c' _ ctv H _ (I.kept (t' := tk) fun b o e => Heap.get?_push_of_some _ (hx b o e)) (.inl rfl) (Heap.get?_push_size _ rfl) (I.hok.fresh hsz) (away hsz) hco
  | none =>
    refine PySem.W.kla_makeFunction (mg := X.mg) (c := c) (P := P) (ps := ps) (closure_ok hfree) I.ok.glob (I.mod.glob.keeps I.bk) hcode (TB.code.keeps I.bk) inHeap ht hc TB.gP boot fun c' ctv h' tk hx hge hlt hrec htb => ?_
    obtain ⟨c2, oc, vs, t, e2, hoc, hd, hv⟩ := hrec
    cases e2
    have hsz : s.heap.objs.size ≤ h'.objs.size := Nat.le_trans hge (Nat.le_of_lt hlt)
    have nC : H c' = none := I.hok.fresh hge
    have nPc : P ≠ c' := ne_of_none hP nC
    have J := inv_table (t' := tk) (more := #[rawInt pos.line, rawInt pos.col, .ref c']) (h' := h'.push (PySem.W.kla_obj "<lambda>" (X.env.qual ++ "<lambda>") params body scope (cloFrom X.env.cells scope.names []) ((X.mg "__name__").getD .none) c' ctv)) I hP (fun b o hb e => Heap.get?_push_of_some _ (hx b o hb e)) (Heap.get?_push_of_some _ htb) hge ⟨oc, vs, t, Heap.get?_push_of_some _ hoc, hd, hv⟩
    refine h h'.objs.size c' _ ctv _ _ J (.inr ⟨ps, pos, c', hP, ht, nC, nPc, rfl⟩) (Heap.get?_push_size _ rfl) ?_ (away hsz) upd_same
    · have n1 : h'.objs.size ≠ c' := Nat.ne_of_gt hlt
      have n2 : h'.objs.size ≠ P := Nat.ne_of_gt (Nat.lt_of_lt_of_le (Heap.lt_size inHeap) hsz)
      rw [upd_ne n1, upd_ne n2]
      exact I.hok.fresh hsz
end
end PD

/-! f(lambda: ..), from states in which at least n identities have been given out; what is raised in it goes on. -/
namespace PD
open PySem PySem.Spec PyProof.Rows L2 LamX
section
variable {X : Cx} {pins : List (Addr × Obj)} {σ : L2.St} {H HZ : Hp} {s : Shared} {n : Nat}
end
end PD

/-! _law_raised: what it says of a lambda. -/
namespace SP
open PySem PySem.Spec PyProof.Rows L2 PD LamX
/-- what the lambda's reading must do: end as o does -/
def Meets (K : PySem.W.Frag) (tl : XK → Hp → VK → Prop) (S H : Hp) (o : Out) : Prop := ∀ (E : XK) (Q : VK), (∀ d v S' H', o = .val d → Go S H S' H' → Q v H') → (∀ C gs cls dd S' H', o = .exc C gs → Go S H S' H' → ExD K S' C gs cls dd → E cls dd H') → tl E H Q
end SP

/-! Tables of code objects as a mutable thing; defs that make lambdas, by syntax. -/
namespace PD
open PySem PySem.Spec PyProof.Rows L2 LamX
def TabsS (T : List (Addr × Str)) (S H : Hp) : Prop := ∀ p ∈ T, ∃ ps : Array Value, H p.1 = some (.tbl ps) ∧ TriplesOk ps.toList ∧ ∀ (pos : Pos) (cv : Value), codeAmong pos ps.toList = some cv → ∃ c, cv = .ref c ∧ S c = some (CodeO c p.2)
def tabM (T : List (Addr × Str)) : Mo := ⟨fun q => q ∈ T.map (·.1), TabsS T, fun S H S' H' e k h p hp => by
  obtain ⟨ps, h1, h2, h3⟩ := h p hp
  refine ⟨ps, by rw [k p.1 (List.mem_map_of_mem hp)]; exact h1, h2, fun pos cv hc => ?_⟩
  obtain ⟨c, e1, e2⟩ := h3 pos cv hc
  exact ⟨c, e1, e _ _ e2⟩⟩
theorem TabsS.tabs {T : List (Addr × Str)} {S H : Hp} (h : TabsS T S H) (e : Ex S H) : Tabs T H := fun p hp => by
  obtain ⟨ps, h1, h2, h3⟩ := h p hp
  refine ⟨ps, h1, h2, fun pos cv hc => ?_⟩
  obtain ⟨c, e1, e2⟩ := h3 pos cv hc
  exact ⟨c, e1, e _ _ e2⟩
theorem En.h0 {K : PySem.W.Frag} {H9 H8 S H : Hp} {σ : L2.St} {ρ : Rho} (n : En K H9 S H σ ρ) (e : ∀ p, H9 p = none → H8 p = none) : En K H8 S H σ ρ where
  len := n.len
  at_ := fun i v x a c => by
    have k := n.at_ i v x a c
    cases x with
    | un => trivial
    | exo _ _ _ => exact k
    | val d' => exact k
    | ownD d' =>
      obtain ⟨p', o', k1, k2, k3⟩ := k
      exact ⟨p', o', k1, e _ k2, k3⟩
  sep := n.sep
section
variable {K : PySem.W.Frag} {S0 H0 B S H H1 : Hp} {σ : L2.St} {ρ : Rho} {T : List (Addr × Str)} {P : Addr} {q : Str}
theorem tab_step (s : Sm K S0 H0 B σ S H ρ (tabM T)) (t : TabStep P q H H1) (hm : (P, q) ∈ T) (hu : ∀ p ∈ T, p.1 = P → p.2 = q) : ∃ S1, Ex S S1 ∧ Sm K S0 H0 B σ S1 H1 ρ (tabM T) := by
  rcases t with rfl | ⟨ps, pos, c', hP, ht, nC, nPc, rfl⟩
  · exact ⟨S, Ex.rf _, s⟩
  have dP : (tabM T).dom P := List.mem_map_of_mem (f := (·.1)) hm
  have nS : S c' = none := s.g.sub.free nC
  have ndc : ¬ (tabM T).dom c' := fun z => (s.d.z c' z).2.2.2 nC
  have hE : Ex S (upd S c' (CodeO c' q)) := Ex.new nS
  have at1 : ∀ b, ¬ (tabM T).dom b → b ≠ c' → upd (upd H P (.tbl (ps ++ #[rawInt pos.line, rawInt pos.col, .ref c']))) c' (CodeO c' q) b = H b := fun b nb nc => by rw [upd_ne nc, upd_ne (fun z => nb (by rw [z]; exact dP))]
  have mx : ∀ b, mix (tabM T) H0 H b = none → mix (tabM T) H0 (upd (upd H P (.tbl (ps ++ #[rawInt pos.line, rawInt pos.col, .ref c']))) c' (CodeO c' q)) b = none := fun b z => by
    by_cases nb : (tabM T).dom b
    · rw [mix_in nb] at z
      exact absurd z (s.d.z b nb).2.2.2
    · rw [mix_out nb] at z ⊢
      exact z
  refine ⟨upd S c' (CodeO c' q), hE, ⟨⟨s.g.s.tr hE, fun b o z => ?_, fun b o z => ?_, fun b o z n => ?_⟩, s.b.tr hE, ?_, ⟨fun b z => ?_, fun p hp => ?_⟩⟩⟩
  · by_cases nb : (tabM T).dom b
    · rw [mix_in nb] at z; exact z
    · rw [mix_out nb] at z
      have hb : H b = some o := s.g.h b o (by rw [mix_out nb]; exact z)
      rw [at1 b nb (ne_of_none hb nC)]
      exact hb
  · by_cases hb : b = c'
    · rw [hb, upd_same] at z
      rw [hb, upd_same]
      exact z
    · rw [upd_ne hb] at z
      have nb : ¬ (tabM T).dom b := fun y => by rw [(s.d.z b y).2.2.1] at z; cases z
      rw [at1 b nb hb]
      exact s.g.sub b o z
  · refine mx b ?_
    by_cases hb : b = c'
    · rw [hb, mix_out ndc]
      have e := s.g.h.free nC
      rw [mix_out ndc] at e
      exact e
    · rw [upd_ne hb] at z
      exact s.g.new b o z n
  · refine (s.n.mv hE fun b o h9 hS hb => ?_).h0 mx
    have nb : ¬ (tabM T).dom b := fun y => by rw [mix_in y, hb] at h9; cases h9
    have nc : b ≠ c' := ne_of_none hb nC
    exact ⟨by rw [upd_ne nc]; exact hS, by rw [at1 b nb nc]; exact hb⟩
  · obtain ⟨a1, a2, a3, a4⟩ := s.d.z b z
    have nc : b ≠ c' := fun y => ndc (by rw [← y]; exact z)
    refine ⟨a1, a2, by rw [upd_ne nc]; exact a3, ?_⟩
    rw [upd_ne nc]
    by_cases hb : b = P
    · rw [hb, upd_same]
      exact fun y => by cases y
    · rw [upd_ne hb]
      exact a4
  · obtain ⟨ps', e1, e2, e3⟩ := s.d.p p hp
    have np : p.1 ≠ c' := fun y => ndc (by rw [← y]; exact List.mem_map_of_mem (f := (·.1)) hp)
    by_cases hb : p.1 = P
    · rw [hb, hP] at e1
      cases e1
      refine ⟨ps ++ #[rawInt pos.line, rawInt pos.col, .ref c'], by rw [hb, upd_ne nPc, upd_same], by rw [step_toList]; exact PySem.TriplesOk_snoc _ _ _ _ ht, fun p' cv hcv => ?_⟩
      rw [step_toList] at hcv
      rcases among_app _ ht hcv with z | z
      · obtain ⟨c0, y1, y2⟩ := e3 p' cv z
        exact ⟨c0, y1, hE _ _ y2⟩
      · exact ⟨c', z, by rw [hu p hp hb, upd_same]⟩
    · refine ⟨ps', by rw [upd_ne np, upd_ne hb]; exact e1, e2, fun p' cv hcv => ?_⟩
      obtain ⟨c0, y1, y2⟩ := e3 p' cv hcv
      exact ⟨c0, y1, hE _ _ y2⟩
end
/-! what a lambda's body does; its value is dropped -/
def EvX (K : PySem.W.Frag) (tz : WX → TE) (ρ : Rho) (o : Out) : Prop := ∀ H0 σ S H W, Ex S H → En K H0 S H σ ρ → ∀ Q : VK, (∀ d v S' H', o = .val d → Go S H S' H' → Q v H') → (∀ C gs cls d S' H', o = .exc C gs → Go S H S' H' → ExD K S' C gs cls d → W cls d σ H') → tz W σ H Q
theorem EvX.of {K : PySem.W.Frag} {tz : WX → TE} {ρ : Rho} {o : Out} (h : EvZ K tz ρ o) : EvX K tz ρ o := fun H0 σ S H W e n Q q z => h H0 σ S H W e n Q (fun d eo v S' H' g _ => q d v S' H' eo g) z
/-! by syntax: c the maker's code object, q what its lambdas are called -/
structure OfC (g : Gb) (l : Lc) (c : Addr) (q : Str) (X : Cx) : Prop where
  o : Of g l X
  code : X.env.code = .ref c
  qual : X.env.qual ++ "<lambda>" = q
section
variable (g : Gb) (n : Nat) (l : Lc) (c : Addr) (q : Str)
def UEC (e : Expr) : TE := fun σ H Q => ∃ t, (∀ X, OfC g l c q X → PN X n e t) ∧ t σ H Q
def UTC (e : Expr) : TT := fun σ H Q => ∃ t, (∀ X, OfC g l c q X → PTN X n e t) ∧ t σ H Q
def USC (st : Stmt) : TS := fun D σ H => ∃ t, (∀ X, OfC g l c q X → SN X n st t) ∧ t D σ H
def USsC (st : List Stmt) : TS := fun D σ H => ∃ t, (∀ X, OfC g l c q X → SsN X n st t) ∧ t D σ H
def DEC (e : Expr) (ρ : Rho) (m : Mo) (d : DV) (m' : Mo) : Prop := EvU g.K (UEC g n l c q e) ρ m d m'
def DTC (e : Expr) (ρ : Rho) (m : Mo) (b : Bool) (m' : Mo) : Prop := EvBU g.K (UTC g n l c q e) ρ m b m'
def DSC (st : Stmt) (ρ : Rho) (m : Mo) (E : Pm) : Prop := StM g.K (USC g n l c q st) ρ m E
def DSsC (sts : List Stmt) (ρ : Rho) (m : Mo) (E : Pm) : Prop := StM g.K (USsC g n l c q sts) ρ m E
end
section
variable {K : PySem.W.Frag} {ρ : Rho} {m m' : Mo} {ta tb : TE} {a b d : DV} {r : R2} {x : Bool}
theorem evu_op (ha : EvU K ta ρ m a m') (hb : EvD K tb ρ b) (hr : OpD K r a b d) : EvU K (tOp r ta tb) ρ m d m' := fun S0 H0 B σ S H s Q q =>
  ha S0 H0 B σ S H s _ fun x S1 H1 s1 e1 r1 => hb _ σ S1 H1 s1.g.sub s1.n _ fun y S2 H2 g2 r2 => hr S2 H2 x y g2.sub (r1.up g2.s) r2 Q fun v S3 H3 g3 r3 => q v S3 H3 ((s1.go g2).go g3) (e1.tr (g2.s.tr g3.s)) r3
theorem ebu_test (h : EvU K ta ρ m (.bl x) m') : EvBU K (tTest ta) ρ m x m' := fun S0 H0 B σ S H s Q q => h S0 H0 B σ S H s _ fun v S1 H1 s1 e1 r1 => by
  cases r1
  exact ⟨x, rfl, q S1 H1 s1 e1⟩
theorem ebu_val (h : EvU K ta ρ m (.bl x) m') : EvBU K (tB ta) ρ m x m' := fun S0 H0 B σ S H s Q q => h S0 H0 B σ S H s _ fun v S1 H1 s1 e1 r1 => by
  cases r1
  exact ⟨x, rfl, q S1 H1 s1 e1⟩
theorem ebu_not {t : TT} (h : EvBU K t ρ m x m') : EvBU K (tNot t) ρ m (!x) m' := fun S0 H0 B σ S H s Q q => h S0 H0 B σ S H s _ fun S1 H1 s1 e1 => q S1 H1 s1 e1
end
section
variable {g : Gb} {n : Nat} {l : Lc} {c : Addr} {q : Str} {ρ ρ' : Rho} {m m' m2 : Mo} {e a b tg iter cnd : Expr} {es : List Expr} {d da db : DV} {ds : List DV} {x y : Bool} {pos p : Pos} {E : Pm} {st : Stmt} {sts body orelse : List Stmt} {nm : Str}
theorem UEC.pn {X : Cx} (o : OfC g l c q X) (e : Expr) : PN X n e (UEC g n l c q e) := ⟨fun pins s σ H Q ht I ⟨t, h, z⟩ => (h X o).run pins s σ H Q ht I z⟩
theorem UTC.pt {X : Cx} (o : OfC g l c q X) (e : Expr) : PTN X n e (UTC g n l c q e) := ⟨fun pins s σ H Q ht I ⟨t, h, z⟩ => (h X o).run pins s σ H Q ht I z⟩
theorem USC.sn {X : Cx} (o : OfC g l c q X) (st : Stmt) : SN X n st (USC g n l c q st) := ⟨fun pins s σ H D ht I ⟨t, h, z⟩ => (h X o).run pins s σ H D ht I z⟩
theorem USsC.sn {X : Cx} (o : OfC g l c q X) (st : List Stmt) : SsN X n st (USsC g n l c q st) := ⟨fun pins s σ H D ht I ⟨t, h, z⟩ => (h X o).run pins s σ H D ht I z⟩
theorem DEC.by (t : TE) (h : ∀ X, OfC g l c q X → PN X n e t) (v : EvU g.K t ρ m d m') : DEC g n l c q e ρ m d m' := fun S0 H0 B σ S H s Q z => ⟨t, h, v S0 H0 B σ S H s Q z⟩
theorem DTC.by (t : TT) (h : ∀ X, OfC g l c q X → PTN X n e t) (v : EvBU g.K t ρ m x m') : DTC g n l c q e ρ m x m' := fun S0 H0 B σ S H s Q z => ⟨t, h, v S0 H0 B σ S H s Q z⟩
theorem DSC.by (t : TS) (h : ∀ X, OfC g l c q X → SN X n st t) (v : StM g.K t ρ m E) : DSC g n l c q st ρ m E := fun S0 H0 B σ S H D s o => ⟨t, h, v S0 H0 B σ S H D s o⟩
theorem DSsC.by (t : TS) (h : ∀ X, OfC g l c q X → SsN X n sts t) (v : StM g.K t ρ m E) : DSsC g n l c q sts ρ m E := fun S0 H0 B σ S H D s o => ⟨t, h, v S0 H0 B σ S H D s o⟩
theorem dec_of (h : DEN g n l e ρ d) : DEC g n l c q e ρ m d m := .by _ (fun X o => UEN.pn o.o e) (evu_of h)
theorem dtc_of (h : DTN g n l e ρ x) : DTC g n l c q e ρ m x m := .by _ (fun X o => UTN.pt o.o e) (ebu_of h)
theorem dsc_of {E' : Po} (h : DSN g n l st ρ E') (hn : ∀ ρ, E'.nx ρ → E.nx ρ m) (hr : ∀ d, ¬ E'.rt d) (hb : ∀ ρ, E'.bk ρ → E.bk ρ m) (hc : ∀ ρ, E'.ct ρ → E.ct ρ m) : DSC g n l c q st ρ m E := .by _ (fun X o => USN.sn o.o st) (stm_pure h hn hr hb hc)
/-- a plain statement that only goes on -/
theorem dsc_pl (h : DS g l st ρ { nx := fun ρ' => E.nx ρ' m }) : DSC g n l c q st ρ m E := dsc_of (.of h) (fun _ z => z) (fun _ z => z) (fun _ z => z.elim) fun _ z => z.elim
theorem DTC.is (h : DTC g n l c q e ρ m x m') (z : x = y) : DTC g n l c q e ρ m y m' := by rw [← z]; exact h
theorem DEC.is (h : DEC g n l c q e ρ m da m') (z : da = db) : DEC g n l c q e ρ m db m' := by rw [← z]; exact h
theorem dssc_freeze (i : Nat) (hi : ρ[i]? = some (.ownD d)) (h : DSsC g n l c q sts (ρ.set i (.val d)) m E) : DSsC g n l c q sts ρ m E := stm_freeze hi h
theorem dssc_nil (h : E.nx ρ m) : DSsC g n l c q [] ρ m E := .by _ (fun X o => .of pss_nil) (stm_next h)
theorem dssc_cons (h : DSC g n l c q st ρ m { E with nx := fun ρ' m' => DSsC g n l c q sts ρ' m' E }) : DSsC g n l c q (st :: sts) ρ m E := .by _ (fun X o => sn_cons (USC.sn o st) (USsC.sn o sts)) (stm_seq h)
theorem dssc_one (h : DSC g n l c q st ρ m E) : DSsC g n l c q [st] ρ m E := dssc_cons (by
  refine fun S0 H0 B σ S H D s o => h S0 H0 B σ S H D s ⟨fun ρ' m' σ' S' H' z s' => ?_, o.rt, o.bk, o.ct⟩
  exact o.nx ρ' m' σ' S' H' (dssc_nil (g := g) (n := n) (l := l) (c := c) (q := q) z) s')
theorem dsc_if (h : DTC g n l c q cnd ρ m x m') (h1 : x = true → DSsC g n l c q body ρ m' E) (h2 : x = false → DSsC g n l c q orelse ρ m' E) : DSC g n l c q (.If cnd body orelse pos) ρ m E := .by _ (fun X o => sn_if (UTC.pt o cnd) (USsC.sn o body) (USsC.sn o orelse)) (stm_if h h1 h2)
theorem dsc_ret (h : DEC g n l c q e ρ m d m') (z : E.rt d m') : DSC g n l c q (.Return (some e) pos) ρ m E := .by _ (fun X o => sn_ret (UEC.pn o e)) (stm_ret h z)
theorem dsc_for {is : List Nat} (hi : DI g l tg iter ρ ds) (I : Nat → Rho → Mo → Prop) (h0 : I 0 ρ m)
    (hs : ∀ i d ρ' m', ds[i]? = some d → I i ρ' m' → ∃ ρ'', DG g l tg is d ρ' ρ'' ∧ DSsC g n l c q body ρ'' m' { nx := I (i + 1), ct := I (i + 1), bk := E.nx, rt := E.rt }) (hd : ∀ ρ' m', I ds.length ρ' m' → E.nx ρ' m')
    (hf : ∀ env x, foldedSetIterable iter env x = pure x := by intro _ _; rfl) (hcl : l.cb = true := by rfl) : DSC g n l c q (.For tg iter body [] pos) ρ m E :=
  .by _ (fun X o => sn_for (o.o.po hcl) (o.o.calm hcl) (UI.pi o.o tg iter) (UG.pg o.o tg) (USsC.sn o body) (hf _)) (stm_for hi I h0 (fun i d ρ' m' hd hI => let ⟨ρ'', h1, h2⟩ := hs i d ρ' m' hd hI; ⟨ρ'', h1.tg, h2⟩) hd)
theorem dtc_e (h : DEC g n l c q e ρ m (.bl x) m') (he : ∀ env whole, isTrue e env whole = (do let v ← whole; standAt e.pos; holding [v] (truthy v)) := by intro _ _; rfl) : DTC g n l c q e ρ m x m' := .by _ (fun X o => ptn_val (UEC.pn o e) (he _)) (ebu_val h)
theorem dtc_not (h : DTC g n l c q a ρ m x m') : DTC g n l c q (.UnaryOp .Not a pos) ρ m (!x) m' := .by _ (fun X o => ptn_not (UTC.pt o a)) (ebu_not h)
end
end PD

/-! _law_raised(lambda: ..), by syntax. -/
namespace SP
open PySem PySem.Spec PyProof.Rows L2 PD LamX
/-! a def that makes lambdas -/
/-- on ds, with the tables, it hands back d -/
def spT (K : PySem.W.Frag) (T : List (Addr × Str)) (R : List DV → DV → Prop) : Sp := spM K fun m ds A => m = tabM T ∧ ∃ r, R ds r ∧ A = fun d m' => d = r ∧ m' = tabM T
/-- a def whose code object is at c -/
structure FunC (K : PySem.W.Frag) (x qual : Str) (st : Stmt) (c f : Addr) (fd : FuncData) : Prop where
  ex : ∃ oc od kV doc pm an ct osl, fd = PySem.W.fnOf x qual (defArgs st) (defBody st) (defScope st) .none kV doc pm an (.ref c) ct ∧ K.lookup f = some ⟨oc, od, .func fd, osl⟩ ∧ PySem.W.codeIn K (.ref c) qual = true
theorem fn_rawC {CX : CXT} {P : Program} {w : World} {K : PySem.W.Frag} {mg : Str → Option Value} {base : Heap} {k n : Nat} {f c : Addr} {fd : FuncData} {x qual : Str} {st : Stmt} {N ps : List Str} {A : Around} {outer : List Env} {s : Shared} {H : Hp} {args : Args} {us : List Value} {vs : List V} {Q : VK} {E : XK}
    (F : FunC K x qual st c f fd) (S : FnScope N ps (defScope st)) (hl : vs.length = ps.length) (hr : Room (k + 1) A) (e0 : Env0 P w K mg base A outer s H) (hb : BindsTo s fd args (ps.zip us)) (r : Vals vs us) (ht : n ≤ s.toks)
    (body : ∀ s1, Room k (A.deeper (envOfC qual (defScope st) s.heap.objs.size f (.ref c))) → Inv (cxOf CX P w K mg base N qual (defScope st) f (.ref c) A outer s H E) [] (start N vs) H s1 → n ≤ s1.toks →
      wpAny (model P w) (cxOf CX P w K mg base N qual (defScope st) f (.ref c) A outer s H E).A (execs (defBody st) (cxOf CX P w K mg base N qual (defScope st) f (.ref c) A outer s H E).env) (SP (cxOf CX P w K mg base N qual (defScope st) f (.ref c) A outer s H E) [] { nx := fun _ H' => Q .non H', rt := Q }) (cxOf CX P w K mg base N qual (defScope st) f (.ref c) A outer s H E).xe s1) :
    codeAny (model P w) A (.call (.ref f) args) (CR CX outer P w H s Q E) s := by
  obtain ⟨oc, od, kV, doc, pm, an, ct, osl, rfl, lk, hcd⟩ := F.ex
  have KX : K.In s.heap := e0.mod.kin.keeps fun b o e => (e0.bs b o e).1
  have lim : s.heap.NoLimit := e0.mod.nolimit.keeps fun b o e => (e0.bs b o e).1
  have kinds : ∀ y ∈ ps.zip us, (defScope st).names.lookup y.1 = some .local ∨ ((defScope st).names.lookup y.1 = some .cell ∧ ((cellsFrom (s.heap.objs.size + 1) (defScope st).names []).lookup y.1).isSome = true) := fun ⟨m, v⟩ hy => by
    rcases S.par m (List.of_mem_zip hy).1 with q | q
    · exact .inl q
    · exact .inr ⟨q, PySem.W.cellsFrom_some _ _ _ (.inl q)⟩
  refine codeAny_call_function hr.depth (KX _ _ lk) rfl S.co S.gen rfl (PySem.W.codeRec_of KX hcd) (hb _ _ _ _ ?_)
  refine thnN ht (wpAny_newFunctionEnv_cells (Q := fun env s1 => env = newEnv (defScope st) s.heap.objs.size mainGlobals (cellsFrom (s.heap.objs.size + 1) (defScope st).names []) (qual ++ ".<locals>.") (some f) (.ref c) none builtinsNs ∧ InCallC s env.locals (bindL env.kindOf (ps.zip us) fun _ => none) env.cells (bindC env.kindOf (ps.zip us) fun _ => none) s1) S.kind kinds fun env he s1 q => ⟨he, q⟩) fun env s1 t1 ⟨he, q⟩ => ?_
  subst he
  refine ⟨lim.keeps q.toInCall.keep, codeAny_func ?_⟩
  have I : Inv (cxOf CX P w K mg base N qual (defScope st) f (.ref c) A outer s H E) [] (start N vs) H s1 := inv_start S hr.hd e0 hl r q
  refine wpAny_mono (body s1 (hr.deeper _) I t1) (fun fl s' hs => ?_) fun e s' hs => hs
  have fin : ∀ {σ' : L2.St} {H' : Hp} {v : V} {u : Value}, Inv (cxOf CX P w K mg base N qual (defScope st) f (.ref c) A outer s H E) [] σ' H' s' → RelV v u → Q v H' → CE outer P w H s Q u s' :=
    fun {σ' H' v u} J rv z => ⟨v, H', J.os, J.bare, J.base, J.hok, rv, z⟩
  match fl, hs with
  | .ret u, ⟨v, σ', H', J, rv, z⟩ => exact fin J rv z
  | .next, ⟨σ', H', J, z⟩ => exact fin (v := V.non) (u := Value.none) J rfl z
  | .brk, ⟨_, _, _, z⟩ => exact False.elim z
  | .cont, ⟨_, _, _, z⟩ => exact False.elim z
theorem fn_okT {g : Gb} {n : Nat} {x qual : Str} {st : Stmt} {f c : Addr} {fd : FuncData} {N ps : List Str} {k : Nat} {T : List (Addr × Str)} {R : List DV → DV → Prop} {q : Str} (F : FunC g.K x qual st c f fd) (hq : qual ++ ".<locals>." ++ "<lambda>" = q) (S : FnScope N ps (defScope st)) (len : ∀ ds d, R ds d → ds.length = ps.length)
    (body : ∀ ds d, R ds d → DSsC g n ⟨k, N, defScope st, fun _ => true, true, none⟩ c q (defBody st) (rho0 N ds) (tabM T) { nx := fun _ _ => False, rt := fun r m => r = d ∧ m = tabM T }) : FnOkN g.P g.w g.K g.mg g.base CX0 (k + 1) n f fd ps (spT g.K T R) where
  len := fun vs H Q E ⟨S0, m, ds, A, e, _, _, ra, ⟨_, r, hR, _⟩, _⟩ => by rw [ra.len]; exact len ds r hR
  run := fun A outer s H args us vs Q E hr e0 ht hb rv ⟨S0, m, ds, R', e, hz, hp, ra, ⟨em, r, hR, eR⟩, q0⟩ => by
    subst em eR
    refine fn_rawC (k := k) (n := n) F S (by rw [ra.len]; exact len ds r hR) hr e0 hb rv ht fun s1 hr1 I1 t1 => ?_
    have o : OfC g ⟨k, N, defScope st, fun _ => true, true, none⟩ c q (cxOf CX0 g.P g.w g.K g.mg g.base N qual (defScope st) f (.ref c) A outer s H E).nox := ⟨⟨rfl, rfl, rfl, rfl, rfl, rfl, rfl, fun _ _ => rfl, fun _ => rfl, fun _ => hr1, hr1.un, fun _ => PassesOwn.never, (fun _ _ _ h => by cases h)⟩, rfl, hq⟩
    refine wpAny_mono ((USsC.sn (n := n) o (defBody st)).run [] s1 _ H { nx := fun _ H' => Q .non H', rt := Q } t1 (I1.wish (fun _ _ => False)) ?_) (fun _ _ z => z.unwish) fun _ _ z => z.elim
    refine body ds r hR S0 (hidM (tabM T) H) S0 _ S0 H _ ⟨by rw [mix_hid]; exact Go.rf e, Ex.rf _, en_start ra, ⟨fun q y => ⟨hidM_in y, (hz q y).1, (hz q y).1, (hz q y).2⟩, hp⟩⟩ ⟨fun _ _ _ _ _ z => z.elim, fun d m' v S1 H1 z r1 => ?_, fun _ _ _ _ _ z => z.elim, fun _ _ _ _ _ z => z.elim⟩
    obtain ⟨rfl, rfl⟩ := z
    exact q0 d _ v S1 H1 ⟨rfl, rfl⟩ (bk_of r1.go r1.md) r1.rp
/-- such a def, known -/
structure FnT (g : Gb) (k n : Nat) (T : List (Addr × Str)) (x : Str) (R : List DV → DV → Prop) : Prop where
  ex : ∃ f fd ps, FnOkN g.P g.w g.K g.mg g.base CX0 k n f fd ps (spT g.K T R) ∧ g.mg x = some (.ref f) ∧ PySem.W.keepIn g.K (.ref f) = true ∧ Binds g.K fd ps []
theorem evu_callT {K : PySem.W.Frag} {T : List (Addr × Str)} {R : List DV → DV → Prop} {ta : TA} {ρ : Rho} {ds : List DV} {r : DV} (ha : EvA K ta ρ ds) (hR : R ds r) : EvU K (tCall (spT K T R) [] E0 ta) ρ (tabM T) r (tabM T) := fun S0 H0 B σ S H s Q q =>
  ha _ σ S H s.g.sub s.n _ fun vs S1 H1 g1 r1 => by
    have s1 := s.go g1
    refine ⟨S1, tabM T, ds, _, s1.g.sub, fun q y => ⟨(s1.d.z q y).2.2.1, (s1.d.z q y).2.2.2⟩, s1.d.p, by rw [List.append_nil]; exact r1, ⟨rfl, r, hR, rfl⟩, fun d m' v S2 H2 hR b r2 => ?_⟩
    obtain ⟨rfl, rfl⟩ := hR
    exact q v S2 H2 (s1.back b) (g1.s.tr b.s) r2
theorem dec_call {g : Gb} {k n : Nat} {l : Lc} {c : Addr} {q x : Str} {T : List (Addr × Str)} {R : List DV → DV → Prop} {ρ : Rho} {e : Expr} {es : List Expr} {ds : List DV} {r : DV} {p pos : Pos} (F : FnT g k n T x R) (ha : DA g l (e :: es) ρ ds) (hR : R ds r) (hk : k ≤ l.k := by decide) (hg : GlN l x := by rfl) (hdb : (x == ("__debug__" : Str)) = false := by decide) (he : ∀ env, starEach (e :: es) env = (false, eval e env) :: starEach es env := by intro _; rfl) (hpl : ∀ env, (backTo pos (starEach es env)).any (·.1) = false := by intro _; rfl) (hcl : l.cb = true := by rfl) :
    DEC g n l c q (.Call (.Name x p) (e :: es) [] pos) ρ (tabM T) r (tabM T) := by
  obtain ⟨f, fd, ps, ok, hm, kp, hb⟩ := F.ex
  exact .by (tCall (spT g.K T R) [] E0 (UA g l (e :: es))) (fun X w => have o := w.o; pn_call (CX := CX0) (k := k) (by rw [o.prog, o.w, o.K, o.mg, o.base]; exact ok) ((o.room hcl).mono hk) (o.gl hg) (by rw [o.mg]; exact hm) (by rw [o.K]; exact kp) (by rw [o.K]; exact hb) pass0 (UA.pa o _) hdb (he _) (hpl _)) (evu_callT ha hR)
end SP

/-! A law's call where the law makes lambdas by way of others: tables of code objects, and a bound on the identities. -/
namespace PD
open PySem PySem.Spec PyProof.Rows L2 LamX
/-- what is tracked at the beginning: the script, where it is none of the module's own, and the tables -/
def tabH (K : PySem.W.Frag) (ts : List Addr) (a : Addr) (vs : List Value) (ns : List Int) : Hp := fun b => if b ∈ ts then some (.tbl #[]) else scrH K a vs ns b
theorem law_callTN {P : Program} {w : World} {K : PySem.W.Frag} {mg mb : Str → Option Value} {k m : Nat} {fa a : Addr} {cs : List (Addr × Addr)} {fd : FuncData} {x : Str} {sp : Sp} {s₁ : Shared} {vs : List Value} {ns : List Int} (KX : K.In s₁.heap) (hns : s₁.heap.Ns mainGlobals mg)
    (hb : s₁.heap.Ns builtinsNs mb) (hbb : ∀ x : Str, x ≠ "__name__" → mb x = bootBuiltins x) (hlim : s₁.heap.NoLimit) (hg : s₁.gens = #[]) (hT : ∀ p ∈ cs, s₁.heap.get? p.2 = some noObj) (nT : ∀ p ∈ cs, K.lookup p.2 = none) (hC : ∀ p ∈ cs, PySem.W.codeHdIn K p.1 p.2 = true)
    (hbm : ∃ (bm : Addr) (ob : Obj), mg "__builtins__" = some (.ref bm) ∧ bm ≠ builtinsNs ∧ s₁.heap.get? bm = some ob ∧ ob.cls = .type "module" ∧ ob.dict = some builtinsNs ∧ ob.data = .plain)
    (ha : s₁.heap.get? a = some { cls := .type "list", data := .seq vs.toArray }) (hi : IntsAre vs ns) (hl : ns.length ≤ sizeLine) (hr : Room k callerA) (ht : m ≤ s₁.toks) (F : ∀ base : Heap, K.In base → base.Ns mainGlobals mg → (∀ p ∈ cs, TabB base mg p.1 p.2) → FnOkN P w K mg base CX0 k m fa fd [x] sp)
    (hbind : ∀ (s : Shared) (u : Value), BindsTo s fd ⟨[u], []⟩ [(x, u)]) (hsp : ∀ H : Hp, (∀ p ∈ cs, H p.2 = some (.tbl #[])) → a ∉ cs.map (·.2) → SqL K H a (ns.map V.int) → sp [.ref a] H (fun v _ => v = .bl true) fun _ _ _ => False) :
    codeAny (model P w) callerA (.call (.ref fa) ⟨[.ref a], []⟩) (fun r s' => r = .ok (.ret (.bool true)) ∧ OldK s₁.heap s'.heap ∧ s'.os = s₁.os ∧ AllBare s'.gens) s₁ := by
  have rv := vals_ints hi
  have lenV := hi.length
  generalize hts : cs.map (·.2) = ts at hsp
  have inT : ∀ {b : Addr}, b ∈ ts → s₁.heap.get? b = some noObj := fun {b} z => by
    rw [← hts] at z
    obtain ⟨p, hp, rfl⟩ := List.mem_map.mp z
    exact hT p hp
  have memT : ∀ p ∈ cs, p.2 ∈ ts := fun p hp => hts ▸ List.mem_map_of_mem hp
  have noT : ∀ {b : Addr} {o : Obj}, s₁.heap.get? b = some o → o ≠ noObj → b ∉ ts := fun {b o} e n z => n (Option.some.inj (e.symm.trans (inT z)))
  have aT : a ∉ ts := noT ha fun z => by cases (show Data.seq vs.toArray _ = Data.fields #[] from congrArg Obj.data z)
  generalize hH : tabH K ts a vs ns = H
  have Hin : ∀ {b : Addr}, b ∈ ts → H b = some (.tbl #[]) := fun z => by rw [← hH]; exact if_pos z
  have Hout : ∀ {b : Addr}, b ∉ ts → H b = scrH K a vs ns b := fun z => by rw [← hH]; exact if_neg z
  have two : ∀ {b : Addr} {u : HO}, H b = some u → (b ∈ ts ∧ u = .tbl #[]) ∨ (b = a ∧ K.lookup a = none ∧ u = .frz { cls := .type "list", data := .seq vs.toArray } (.lst (ns.map V.int))) := fun {b u} e => by
    by_cases z : b ∈ ts
    · rw [Hin z] at e; cases e; exact .inl ⟨z, rfl⟩
    · rw [Hout z] at e; exact .inr (scrH_some e)
  have hS : SqL K H a (ns.map V.int) := by
    cases hk : K.lookup a with
    | some o =>
      have e := KX a o hk
      rw [ha] at e; cases e
      exact .inr ⟨_, vs.toArray, _, hk, rfl, rfl, rfl, by rw [List.size_toArray, lenV]; exact hl, by simpa using rv⟩
    | none => exact .inl (.inr ⟨_, by rw [Hout aT]; unfold scrH; rw [if_pos ⟨rfl, by rw [hk]; rfl⟩]⟩)
  have hok : HOk P w H s₁.heap := fun b u e => by
    rcases two e with ⟨z, rfl⟩ | ⟨rfl, _, rfl⟩
    · exact inT z
    · exact ⟨ha, by rw [List.length_map]; exact hl, vs, _, rv, ha⟩
  have hid : ∀ {b : Addr} {o : Obj}, s₁.heap.get? b = some o → H b = none → (hidT s₁.heap H).get? b = some o := fun e n => hidT_get e n
  -- neither a list nor a table
  have free : ∀ {b : Addr} {o : Obj}, s₁.heap.get? b = some o → o ≠ noObj → (∀ us n, o.data ≠ .seq us n) → H b = none := fun {b o} e n1 n2 => by
    cases q : H b with
    | none => rfl
    | some u =>
      rcases two q with ⟨z, _⟩ | ⟨rfl, _, _⟩
      · exact absurd z (noT e n1)
      · rw [ha] at e; cases e
        exact absurd rfl (n2 vs.toArray _)
  have hNs : ∀ {b : Addr} {f : Str → Option Value}, s₁.heap.Ns b f → (hidT s₁.heap H).Ns b f := fun ⟨o, es, ep, e, d, r⟩ => ⟨o, es, ep, hid e (free e (fun z => by rw [z] at d; cases d) fun us n z => by rw [z] at d; cases d), d, r⟩
  have hKb : K.In (hidT s₁.heap H) := fun b o e => hid (KX b o e) (by
    cases q : H b with
    | none => rfl
    | some u =>
      rcases two q with ⟨z, _⟩ | ⟨rfl, k0, _⟩
      · rw [← hts] at z
        obtain ⟨p, hp, rfl⟩ := List.mem_map.mp z
        rw [nT p hp] at e; cases e
      · rw [k0] at e; cases e)
  have TB : ∀ p ∈ cs, TabB (hidT s₁.heap H) mg p.1 p.2 := fun p hp => by
    obtain ⟨bm, ob, b1, b2, b3, b4, b5, b6⟩ := hbm
    have no6 : ob ≠ noObj := fun z => by rw [z] at b6; cases b6
    refine ⟨PySem.W.codeHd_of_K hKb (hC p hp), ⟨bm, ob, b1, b2, fun z => ?_, fun z => noT b3 no6 (by rw [z]; exact memT p hp), hid b3 (free b3 no6 fun us n z => by rw [z] at b6; cases b6), b4, b5, b6⟩, fun z => ?_⟩
    · obtain ⟨o, es, ep, e, d, _⟩ := hns
      rw [z, e] at b3; cases b3
      rw [d] at b6; cases b6
    · obtain ⟨o, es, ep, e, d, _⟩ := hns
      rw [z, hT p hp] at e; cases e
      cases d
  have e0 : Env0 P w K mg (hidT s₁.heap H) callerA [] s₁ H :=
    ⟨rfl, ⟨hKb, hNs hns, ⟨mb, hNs hb, hbb⟩, let ⟨mc, h1, h2⟩ := hlim; ⟨mc, hNs h1, h2⟩⟩, fun b o e => of_hidT e, Nat.le_of_eq (hidT_size _ _), trivial, fun b hb => (nomatch (show b ∈ ([] : List Addr) from hb)), hok, .of_eq hg⟩
  refine codeAny_mono ((F _ hKb (hNs hns) TB).run callerA [] s₁ H ⟨[.ref a], []⟩ [.ref a] [.ref a] _ _ hr e0 ht (hbind s₁ (.ref a)) (.cons rfl .nil) (hsp H (fun p hp => Hin (memT p hp)) aT hS)) fun r s' h => ?_
  cases r with
  | error e => exact False.elim h
  | ok fl =>
    cases fl with
    | next => exact False.elim h
    | brk => exact False.elim h
    | cont => exact False.elim h
    | ret u =>
      obtain ⟨v, H', os, bare, un, hok', rv', q⟩ := h
      obtain rfl : v = .bl true := q
      obtain rfl : u = Value.bool true := rv'
      have stay : ∀ b o, b ∉ ts → s₁.heap.get? b = some o → s'.heap.get? b = some o := fun b o z e => by
        cases q : H b with
        | none => exact un.keep b o e q (fun y => nomatch (show b ∈ ([] : List Addr) from y)) (by simp)
        | some u =>
          rcases two q with ⟨y, _⟩ | ⟨rfl, _, rfl⟩
          · exact absurd y z
          · have e2 := (hok' b _ (un.frzs b _ _ q)).1
            rw [ha] at e; cases e
            exact e2
      have grow : ∀ p ∈ cs, ∃ more : Array Value, s'.heap.get? p.2 = some { cls := .none, data := .fields more } := fun p hp => by
        obtain ⟨more, y⟩ := un.tbls p.2 #[] (Hin (memT p hp))
        exact ⟨_, hok' p.2 _ y⟩
      refine ⟨rfl, ⟨fun b o e => ?_, fun b o e => ?_⟩, os, bare⟩
      · by_cases z : b ∈ ts
        · have eo : o = noObj := Option.some.inj (e.symm.trans (inT z))
          rw [← hts] at z
          obtain ⟨p, hp, rfl⟩ := List.mem_map.mp z
          obtain ⟨more, y⟩ := grow p hp
          subst eo
          have tc := ((PySem.W.codeHd_of_K KX (hC p hp)).tab (hT p hp)).isCodeTable
          exact .inr (.inl ⟨tc, rfl, #[], more, rfl, y.trans (by rw [Array.empty_append])⟩)
        · exact .inl (stay b o z e)
      · by_cases z : b ∈ ts
        · rw [← hts] at z
          obtain ⟨p, hp, rfl⟩ := List.mem_map.mp z
          exact let ⟨more, y⟩ := grow p hp; ⟨_, y⟩
        · exact ⟨o, stay b o z e⟩
end PD

/-! The top by one run, anything looked at behind it. -/
namespace PD
open PySem PySem.W PySem.W.X PySem.Calls PyProof.Rows HandSHeadRun
theorem head_X {α : Type} {obs : Shared → α} {val : World → α} {ob : SharedT → α} {r : OpenRow} {q : Program} {M : Nat} {loose : List PySem.Str} {d : DefRec} {kwd : List (PySem.Str × PySem.Expr)} (ho : ∀ s : SharedT, ob s = obs s.abs) (e : opening r.prog = plainProg r.prog.main.scope.names) (f : ∀ s, fenceModules? r.prog s = some s) (run : ∀ w, RunX r q val ob M loose w)
    (h1 : defOf q r.name = some (d, kwd)) (h2 : r.prog.theDef r.name = some (d.params, d.body, d.scope)) (h3 : kwWritten? d.params.kwonlyargs d.params.kw_defaults = some kwd) (h4 : (!r.writes || r.records.isEmpty) = true) (h5 : r.wellSaid = true) (h6 : (chainsOk q && opensWell r.prog && (frees r.toRowW && r.within.isEmpty)) = true) (h7 : r.prog.bare) (h8 : r.toRowW.promised)
    (call : WalkX q loose (XL q []) obs val r.toRowW d kwd fun f vs => PySem.call f vs) : r.Holds := by
  have left : LeftO r.prog q loose (fun s => xlAt q [] s && recOk r.toRowW.records s) obs val (M + 600) true := by
    refine left_one (M := M) e (Nat.ble_eq_true_of_le (by omega)) f (Nat.ble_eq_true_of_le (by omega)) fun w os => ?_
    have z := run w os
    rw [show ob = fun s => obs s.abs from funext ho] at z
    simp only [endQ_eq, seenQ_eq]
    exact z
  exact holds_openX left (fun s z => xl_of s (Bool.and_eq_true_iff.mp z).1) XL.keeps h1 h2 h3 (fun s z => recFacts_of (Bool.and_eq_true_iff.mp z).2) h4 h5 h6 h7 h8 call
end PD

/-! The heap as a part, but for some addresses. -/
namespace PD
open PySem PySem.Spec PyProof.Rows L2 LamX
theorem wholeK_at {ts : List Addr} {g : Addr → Option Obj} : ∀ {as : List Addr} {a : Addr} {o : Obj}, (as.filterMap fun a => if ts.contains a then none else (g a).map fun o => (a, o)).lookup a = some o → g a = some o ∧ a ∉ ts
  | [], a, o, h => by cases h
  | b :: as, a, o, h => by
    rw [List.filterMap_cons] at h
    by_cases c : ts.contains b = true
    · rw [if_pos c] at h
      exact wholeK_at h
    · rw [if_neg c] at h
      cases q : g b with
      | none =>
        rw [q] at h
        exact wholeK_at h
      | some u =>
        rw [q] at h
        have h' : List.lookup a ((b, u) :: (as.filterMap fun a => if ts.contains a then none else (g a).map fun o => (a, o))) = some o := h
        rw [List.lookup_cons] at h'
        cases e : (a == b) with
        | true =>
          rw [e] at h'
          have eo : u = o := Option.some.inj h'
          rw [beq_iff_eq.mp e, q, eo]
          exact ⟨rfl, fun z => c (List.contains_iff_mem.mpr z)⟩
        | false =>
          rw [e] at h'
          exact wholeK_at h'
theorem wholeK_in {ts : List Addr} {n : Nat} {h : Heap} : (wholeK ts n h.get?).In h := fun a o e => (wholeK_at e).1
theorem wholeK_no {ts : List Addr} {n : Nat} {g : Addr → Option Obj} {a : Addr} (h : a ∈ ts) : (wholeK ts n g).lookup a = none := by
  cases e : (wholeK ts n g).lookup a with
  | none => rfl
  | some o => exact absurd h (wholeK_at e).2
end PD

/-! Floors. -/
namespace SP
open PySem PySem.Spec PyProof.Rows L2 PD
variable {g : Gb} {CG : Addr}
section
variable {kS : Nat} {gs : List (Str × DV)} {N : DV → Prop} {st : DV → List Stp} {start : DV} {least : Int} {RS : List DV → DV → Prop}
end
end SP

/-! == of dicts with keys of several kinds. -/
namespace MX
open PySem PySem.W
open Sem (wp)
section
variable {prog : Program} {w : World} {A : Around} {E : Value → Shared → Prop} {s : Shared}
end
end MX
namespace PD
open PySem PySem.Spec PyProof.Rows L2 MX PySem.W
section
variable {g : Gb} {l : Lc} {ρ : Rho} {a b : Expr} {pos : Pos} {fl fl2 : List (DV × Int)}
end
end PD

/-! Plan, NoPlan: made, compared. -/
namespace PD
open PySem PySem.Spec PyProof.Rows L2
section
variable {g : Gb} {n : Nat} {l : Lc} {ρ : Rho} {e a b : Expr} {es : List Expr} {ds : List DV} {x : Str} {p p2 pos : Pos} {k : Nat} {C C2 : Addr} {gs hs : List (Str × DV)}
end
/-! == of instances of two classes -/
section
variable {g : Gb} {l : Lc} {ρ : Rho} {a b : Expr} {pos : Pos} {C C2 : Addr} {gs hs : List (Str × DV)}
end
end PD
namespace SP
open PySem PySem.Spec PyProof.Rows L2 PD
variable {g : Gb} {CP CN : Addr} {n : Nat}
end SP
namespace SP
open PySem PySem.Spec PyProof.Rows L2 PD
variable {g : Gb} {CP CN : Addr} {n : Nat}
end SP

/-! A search that has come to its end, as a plain fact. -/
namespace PD
open PySem PySem.Spec PyProof.Rows L2
def DV.isN : DV → Bool
  | .non => true
  | _ => false
theorem rp_isN {K : PySem.W.Frag} {S : Hp} {v : V} {d : DV} (r : Rp K S v d) : decide (v = .non) = d.isN := by
  cases r <;> first | rfl | exact decide_eq_false (fun z => by cases z)
section
variable {g : Gb} {l : Lc} {ρ : Rho} {a : Expr} {pos p : Pos} {d : DV} {j : Nat}
theorem od_isNn {K : PySem.W.Frag} : OpD K (fun x y H Q => y = .non ∧ Q (.bl (decide (x = .non))) H) d .non (.bl d.isN) := fun S H x y e r1 r2 Q q => by
  cases r2
  exact ⟨rfl, by rw [rp_isN r1]; exact q _ S H (Go.rf e) (.bl _)⟩
theorem dt_isN (h : DE g l a ρ d) : DT g l (.Compare a [.Is] [.Constant .none j p] pos) ρ d.isN := dt_cmp (fun X o => op_isN) od_isNn h de_non (nomark _)
end
end PD
namespace SP
open PySem PySem.Spec PyProof.Rows L2 PD
end SP

/-! plan. -/
namespace PD
open PySem PySem.Spec PyProof.Rows L2
end PD
namespace SP
open PySem PySem.Spec PyProof.Rows L2 PD
variable {g : Gb} {C M CS CG CP CN : Addr} {tG : Tok} {n : Nat}
end SP

namespace SP
open PySem PySem.Spec PyProof.Rows L2 PD
variable {g : Gb} {C : Addr}
theorem fit_wr {ls : Str} {n : Nat} {w : Wr} (h : VW ls n w) : fit w.d = true := by
  cases w with
  | piece b p =>
    have h1 := wordOk_len h.2
    show fit (.tup [.str "piece", .int b, .str p]) = true
    rw [fit, fits, fits, fits, fits, fit, fit, fit, decide_eq_true (show ([.str "piece", .int b, .str p] : List DV).length ≤ 100000 from (by decide : 3 ≤ 100000)), decide_eq_true (show ("piece" : Str).length ≤ 100000 by decide +kernel), decide_eq_true (show p.length ≤ 100000 by omega)]
    rfl
  | order o =>
    have h1 := h.1
    show fit (.tup [.str "order", .tup (odD o)]) = true
    rw [fit, fits, fits, fits, fit, fit_odD (by omega), decide_eq_true (show ([.str "order", .tup (odD o)] : List DV).length ≤ 100000 from (by decide : 2 ≤ 100000)), decide_eq_true (show ("order" : Str).length ≤ 100000 by decide +kernel)]
    rfl
end SP

namespace SP
open PySem PySem.Spec PyProof.Rows L2 PD
variable {g : Gb} {C : Addr}
theorem scPassed : FnScope ["file", "writes", "states", "index", "write"] ["file", "writes"] (defScope sPassed) := ⟨rfl, rfl, rfl, by decide +kernel, rfl, by decide +kernel, by decide +kernel⟩
/-- a list or a tuple of writes -/
def rowOf (W : DV) (ws : List Wr) : Prop := W = .lst (ws.map Wr.d) ∨ W = .tup (ws.map Wr.d)
def R_passed (C : Addr) : List DV → DV → Prop := fun ds d => ∃ ls ps od pp op tn W ws, VS ls ps od ∧ chain ls ps od ws ∧ ws.length ≤ 1000 ∧ rowOf W ws ∧ ds = [fileD C ls ps od pp op tn, W] ∧ d = .lst (statesD ps od ws)
theorem statesD_len (ps : List Str) (od : List Nat) (ws : List Wr) : (statesD ps od ws).length = ws.length + 1 := by
  unfold statesD
  rw [List.length_map, List.length_range]
theorem take_end {ps : List Str} {ws : List Wr} {i : Nat} {w : Wr} (h : ws[i]? = some w) : endP ps (ws.take (i + 1)) = afterP (endP ps (ws.take i)) w := by rw [take_more h, endP_snoc]
theorem take_endO {od : List Nat} {ws : List Wr} {i : Nat} {w : Wr} (h : ws[i]? = some w) : endO od (ws.take (i + 1)) = afterO (endO od (ws.take i)) w := by rw [take_more h, endO_snoc]
theorem ok_passed (B : Bt g) (L : Fl g C) (P : Fp g C) (St : Fn g 3 "file_state" (R_fstate C)) (Iw : Fn g 4 "is_state_write" R_swrite) (Af : Fn g 2 "state_after" R_safter) {f : Addr} {fd : FuncData} (F : Fun g.K "passed_states" "passed_states" sPassed f fd) : FnOk g.P g.w g.K g.mg g.base CX0 5 f fd ["file", "writes"] (spR g.K (R_passed C)) := by
  refine fn_ok F scPassed (fun ds d ⟨ls, ps, od, pp, op, tn, W, ws, _, _, _, _, e, _⟩ => by rw [e]; rfl) fun ds d ⟨ls, ps, od, pp, op, tn, W, ws, v, hc, hl, hW, e, ed⟩ => ?_
  subst e ed
  have hk : W.isObj = false := by rcases hW with rfl | rfl <;> rfl
  refine dss_cons (ds_if (x := false) (DT.is (dt_not (dt_e (de_isLT B hk (de_v 1)))) (by rcases hW with rfl | rfl <;> rfl)) (fun h => by cases h) fun _ => dss_nil (dss_cons (ds_setL 2 scPassed.nd (dl_lst (da_cons (de_call St (da_cons (de_v 0) da_nil) ⟨ls, ps, od, pp, op, tn, rfl, rfl⟩) da_nil)) (dss_cons (ds_for (is := [3, 4]) (ds := enumD (ws.map Wr.d)) ?_
    (fun i ρ => ∃ x3 x4 : EV, ρ = [.val (fileD C ls ps od pp op tn), .val W, .own (statesD ps od (ws.take i)), x3, x4]) ⟨_, _, rfl⟩ ?_ ?_)))))
  · rcases hW with rfl | rfl
    · exact di_enumL B.enum (de_v 1)
    · exact di_enumT B.enum (de_v 1)
  · rintro i d ρ hd ⟨x3, x4, rfl⟩
    have hi' : i < ws.length := by
      have := (List.getElem?_eq_some_iff.mp hd).1
      rwa [enumD_len, List.length_map] at this
    have hw : ws[i]? = some ws[i] := List.getElem?_eq_getElem hi'
    have hwd : (ws.map Wr.d)[i]? = some (ws[i]).d := by rw [List.getElem?_map, hw]; rfl
    obtain rfl := enumD_get hwd hd
    obtain ⟨h1, h2⟩ := chain_take hc hw
    have v1 := VS.chain v (chain_pre i hc)
    have lst := statesD_last ps od (ws.take i)
    refine ⟨_, dg_tup (dgs_cons (dg_n 3 scPassed.nd) (dgs_cons (dg_n 4 scPassed.nd) dgs_nil)), dss_cons (ds_if (x := false) (DT.is (dt_not (dt_e (de_call Iw (da_cons (de_ls L P (de_v 0)) (da_cons (de_ixOwn 2 rfl lst (de_neg de_int)) (da_cons (de_v 4) da_nil))) ⟨ls, _, _, (ws[i]).d, v1.hps, fit_wr h1, rfl, rfl⟩))) ?_) (fun h => by cases h) fun _ => dss_nil
      (dss_one (ds_append 2 rfl (de_call Af (da_cons (de_ixOwn 2 rfl lst (de_neg de_int)) (da_cons (de_v 4) da_nil)) ⟨_, _, ws[i], h1.ok, v1.hps, rfl, rfl⟩) ?_ ⟨.val (.int i), .val (ws[i]).d, ?_⟩)))⟩
    · rw [isWr_d h1, h2]
      rfl
    · rw [statesD_len, List.length_take]
      omega
    · rw [statesD_snoc ps od ws i hi', take_end hw, take_endO hw]
      rfl
  · rintro ρ ⟨x3, x4, rfl⟩
    rw [enumD_len, List.length_map, List.take_length]
    exact dss_freeze 2 rfl (dss_one (ds_ret (de_v 2) rfl))
theorem scCheckWrites : FnScope ["file", "writes"] ["file", "writes"] (defScope sCheckWrites) := ⟨rfl, rfl, rfl, by decide +kernel, rfl, by decide +kernel, by decide +kernel⟩
def R_cwrs (C : Addr) : List DV → DV → Prop := fun ds d => ∃ ls ps od pp op tn W ws, VS ls ps od ∧ chain ls ps od ws ∧ ws.length ≤ 1000 ∧ rowOf W ws ∧ ds = [fileD C ls ps od pp op tn, W] ∧ d = .non
theorem ok_cwrs (Pa : Fn g 5 "passed_states" (R_passed C)) {f : Addr} {fd : FuncData} (F : Fun g.K "check_writes" "check_writes" sCheckWrites f fd) : FnOk g.P g.w g.K g.mg g.base CX0 6 f fd ["file", "writes"] (spR g.K (R_cwrs C)) := by
  refine fn_ok F scCheckWrites (fun ds d ⟨ls, ps, od, pp, op, tn, W, ws, _, _, _, _, e, _⟩ => by rw [e]; rfl) fun ds d ⟨ls, ps, od, pp, op, tn, W, ws, v, hc, hl, hW, e, ed⟩ => ?_
  subst e ed
  exact dss_one (ds_ex (de_call Pa (da_cons (de_v 0) (da_cons (de_v 1) da_nil)) ⟨ls, ps, od, pp, op, tn, W, ws, v, hc, hl, hW, rfl, rfl⟩) rfl)
end SP

/-! changed_file, is_change, Plan.shows. -/
namespace PD
open PySem PySem.Spec PyProof.Rows L2
section
variable {g : Gb} {l : Lc} {ρ : Rho} {a : Expr} {pos p : Pos} {d : DV} {j : Nat}
theorem od_notNn {K : PySem.W.Frag} : OpD K (fun x y H Q => y = .non ∧ Q (.bl (!decide (x = .non))) H) d .non (.bl (!d.isN)) := fun S H x y e r1 r2 Q q => by
  cases r2
  exact ⟨rfl, by rw [rp_isN r1]; exact q _ S H (Go.rf e) (.bl _)⟩
end
end PD
namespace SP
open PySem PySem.Spec PyProof.Rows L2 PD
variable {g : Gb} {C M CS CG CP CN : Addr} {tG : Tok} {n : Nat}
/-! Plan.shows -/
end SP

/-! x in l, data of any depth. -/
namespace PD
open PySem PySem.Spec PyProof.Rows L2
section
variable {g : Gb} {l : Lc} {ρ : Rho} {a b : Expr} {pos : Pos} {d : DV} {ds : List DV} {K : PySem.W.Frag}
end
end PD

/-! sorted(l), l a list of data that are alike. -/
namespace PD
open PySem PySem.Spec PyProof.Rows L2
section
variable {g : Gb} {l : Lc} {ρ : Rho} {e : Expr} {ds : List DV} {p pos : Pos}
end
end PD

/-! One dict of one's own, from keys to lists that stay as they are. -/
namespace PD
open PySem PySem.Spec PyProof.Rows L2
section
variable {K : PySem.W.Frag} {W : World} {ρ : Rho} {tk tv : TE} {d : DV} {xs : List DV} {D : Addr} {cs : Cs2} {E : Pm} {i : Nat} {m : Mo}
end
section
variable {g : Gb} {l : Lc} {ρ : Rho} {a b e1 e2 k v : Expr} {d : DV} {xs is js : List DV} {D : Addr} {cs : Cs2} {E : Pm} {pos p1 p3 p4 : Pos} {nm : Str}
end
end PD

/-! common_writes. -/
namespace SP
open PySem PySem.Spec PyProof.Rows L2 PD
variable {g : Gb} {C M CS CG CP CN : Addr} {tG : Tok} {n : Nat}
/-! what is sorted -/
end SP

/-! musts. -/
namespace SP
open PySem PySem.Spec PyProof.Rows L2 PD
variable {g : Gb} {C M CS CG CP CN : Addr} {tG : Tok} {n : Nat}
end SP

/-! plans.least_cost, can_change. -/
namespace PD
open PySem PySem.Spec PyProof.Rows L2
section
variable {X : Cx} {CX : CXT} {k n : Nat} {f C : Addr} {fd : FuncData} {ps : List Str} {sp : Sp} {E : XK} {x m : Str} {pos apos : Pos} {o : Expr} {ta : TE}
end
section
variable {g : Gb} {n : Nat} {l : Lc} {ρ : Rho} {o : Expr} {d : DV} {m : Str} {pos apos : Pos} {k : Nat} {C : Addr} {gs : List (Str × DV)} {R : List DV → DV → Prop}
end
end PD
namespace SP
open PySem PySem.Spec PyProof.Rows L2 PD
variable {g : Gb} {C M CS CG CP CN : Addr} {tG : Tok} {n : Nat}
section
variable {ρ : Rho}
end
end SP

/-! y = {k: v for ..} on one line, y a local. -/
namespace PD
open PySem PySem.Spec PyProof.Rows L2 MX
section
variable {X : Cx}
variable {kx vx tg iter : Expr} {ifs : List Expr} {scope : Scope} {own : List (Str × Nat)} {pos : Pos} {wi : TI} {g : TG} {tt : TT} {tk tv : TE}
theorem dcX_loopU {pins : List (Addr × Obj)} {σ : L2.St} {s3 : Shared} {H3 : Hp} {ce : Env} {fp : List Addr} {it D : Addr} {J : It} {tn : Nat → Heap → Prop} {Q : VK} {use : Option (Value → Sem Unit)} {Qf : Value → Shared → Prop} {P : Nat → Nat → Hp → Prop} (hu : X.A.units + 16 < cLine) (hc : X.calm = true) (I3 : Inv X pins σ H3 s3)
    (f3 : ∀ b ∈ fp, FpOk X pins H3 b ∧ b < s3.heap.objs.size) (hL : ce.locals = s3.heap.objs.size) (pg : PG (X.blk s3 H3 scope ce fp) tg g) (pt : PTs (X.blk s3 H3 scope ce fp) ifs tt) (pk : PE (X.blk s3 H3 scope ce fp) kx tk) (pv : PE (X.blk s3 H3 scope ce fp) vx tv)
    (hRR : ∀ C s' m H', Inv X pins σ H' s' → Q (.ref D) H' → s'.heap.Ns C m → FpOk X pins H' C → compPost (model X.prog X.w) X.A X.xe use Qf (.ref D) C (.ok .next) s')
    (T : Turn X.prog X.w X.K tg J fp it tn)
    (turn : ∀ i m H, P i m H → (J.stop i H ∧ endsX D H Q) ∨ (J.go i H ∧ ∃ Nx : Hp → Prop, (∀ H', Nx H' → ∃ m', m' < m ∧ P (i + 1) m' H') ∧
      ∀ x H', J.yld i H x H' → g x (wipe σ (own.map (·.2))) H' fun σ2 H2 => wipe σ2 (own.map (·.2)) = wipe σ (own.map (·.2)) ∧ tt σ2 H2 fun b H3 => if b = true then tk σ2 H3 fun y H4 => tv σ2 H4 fun z H5 => putsX X.K X.w D y z H5 Nx else Nx H3)) :
    ∀ (m i : Nat) (H' : Hp) (s4 : Shared), Inv (X.blk s3 H3 scope ce fp) [] (wipe σ (own.map (·.2))) H' s4 → tn i s4.heap → (∀ b ∈ fp, H' b = none) → P i m H' →
      codeAny (model X.prog X.w) X.A (.compLoop (.DictComp kx vx [⟨tg, iter, ifs, 0⟩] scope pos) 0 (.ref it) (.ref D) ce) (compPost (model X.prog X.w) X.A X.xe use Qf (.ref D) s3.heap.objs.size) s4 := fun m i H' s4 I4 st4 n4 p4 => by
  -- the iterator's objects, in the block
  have mine : ∀ {σ' : L2.St} {H : Hp} {s : Shared}, Inv (X.blk s3 H3 scope ce fp) [] σ' H s → (∀ b ∈ fp, H b = none) → ∀ b ∈ fp, FpOk (X.blk s3 H3 scope ce fp) [] H b := fun I n b hb =>
    ⟨n b hb, (I.ok.exf b hb).1, I.ok.exfs b hb, .inl hb, (I.ok.exf b hb).2, fun p hp => nomatch (show p ∈ ([] : List (Addr × Obj)) ++ [] from hp)⟩
  refine compLoop_anyD (fun m s' => ∃ i H, Inv (X.blk s3 H3 scope ce fp) [] (wipe σ (own.map (·.2))) H s' ∧ tn i s'.heap ∧ (∀ b ∈ fp, H b = none) ∧ P i m H) (fun m s5 ⟨i, H5, I5, st5, n5, p5⟩ => ?_) m ⟨i, H', I4, st4, n4, p4⟩
  rcases turn i m H5 p5 with ⟨stop, es, eD, ends⟩ | ⟨go, Nx, hNx, step⟩
  · refine thnF (T.done (X.blk s3 H3 scope ce fp) rfl rfl rfl hc i [] s5 _ H5 (fun _ _ => False) I5 (mine I5 n5) st5 stop) fun r s6 ⟨hr, I6⟩ => ?_
    subst hr
    -- back in the def: the dict is locked
    have I7 : Inv X pins σ H5 s6 := I3.call' (ch := fp) I6.os I6.base I6.hok I6.bare fun b hb => let f := (f3 b hb).1.2; ⟨f.2.2.1, f.1, f.2.2.2.1, f.2.2.2.2⟩
    obtain ⟨od, I8⟩ := I7.lock eD True.intro
    have nL : H5 s3.heap.objs.size = none := by rw [← hL]; exact I6.free
    obtain ⟨mm, hn, _⟩ := I6.loc
    obtain ⟨g0, gs⟩ := I3.fpOk (Nat.le_refl s3.heap.objs.size) (I3.hok.fresh (Nat.le_refl _))
    have nL' : upd H5 D (.frz od (DxO D es)) s3.heap.objs.size = none := by
      rw [upd_ne fun z => by rw [z, eD] at nL; cases nL]
      exact nL
    exact hRR _ s6 mm _ I8 (ends od) (by rw [← hL]; exact hn) ⟨nL', gs⟩
  · refine thnF (T.item (X.blk s3 H3 scope ce fp) rfl rfl rfl hc i [] s5 _ H5 (fun _ _ => False) I5 (mine I5 n5) st5 go) fun r s6 ⟨u, hr, h6⟩ => ?_
    subst hr
    refine thnF h6 fun _ s7 ⟨x, H7, I7, r7, y7, st7, n7⟩ => ?_
    refine thnF (pg.run _ s7 _ H7 x u _ (I7.pinned (mine I7 n7) (T.obj _ _ st7)) r7 (step x H7 y7)) fun _ s8 ⟨σ8, H8, I8, w8, q8⟩ => ?_
    have over : ∀ {s' : Shared} {H : Hp}, Inv (X.blk s3 H3 scope ce fp) ([] ++ pinsAt fp s7.heap) σ8 H s' → Nx H → ∃ m', m' < m ∧ ∃ i H, Inv (X.blk s3 H3 scope ce fp) [] (wipe σ (own.map (·.2))) H s' ∧ tn i s'.heap ∧ (∀ b ∈ fp, H b = none) ∧ P i m' H := fun {s' H} I n => by
      obtain ⟨m', hm, p'⟩ := hNx H n
      have stays : ∀ b ∈ fp, ∀ o, s7.heap.get? b = some o → s'.heap.get? b = some o ∧ H b = none := fun b hb o e =>
        let z := I.pin (b, o) (List.mem_append_right _ (List.mem_append_right _ (mem_pinsAt hb e))); ⟨z.1, z.2.1⟩
      refine ⟨m', hm, i + 1, H, I.unpinned.weak (by rw [← w8, wipe_length]) fun j v e => ?_, T.keep _ _ _ st7 fun b hb o e => (stays b hb o e).1, fun b hb => ?_, p'⟩
      · rw [← w8] at e
        exact (wipe_some e).1
      · obtain ⟨o, e, _⟩ := T.obj _ _ st7 b hb
        exact (stays b hb o e).2
    refine thnF (pt.run _ s8 σ8 H8 _ I8 q8) fun b s9 ⟨H9, I9, q9⟩ => ?_
    cases b with
    | false => exact over I9 q9
    | true =>
      refine thnF (pk.run _ s9 σ8 H9 _ I9 q9) fun kv s10 ⟨yk, H10, I10, r10, q10⟩ => thnF (pv.run _ s10 σ8 H10 _ I10 q10) fun vv s11 ⟨yv, H11, I11, r11, q11⟩ => ?_
      obtain ⟨S, ks, vs, dk, dv, eS, own_, few_, kk, rk, rx, nx⟩ := q11
      exact x_dictSet (X := X.blk s3 H3 scope ce fp) hu I11 eS own_ few_ kk rk r10 rx r11 fun es' s12 I12 rd => over I12 (nx es' rd)
theorem ps_setDc {i : Nat} {y : Str} {py spos : Pos} (hu : X.A.units + 16 < cLine) (hc : X.calm = true) (hN : X.N.Nodup) (hy : X.N[i]? = some y) (hyl : X.env.scope.names.lookup y = some .local) (hsw : swapsWith (.DictComp kx vx [⟨tg, iter, ifs, 0⟩] scope pos) (some (.Name y py)) spos.line X.env = pure true)
    (hi : PI X tg iter wi) (ok : BlkOk X.N X.env.scope scope own) (B : InBlk X scope tg g ifs tt kx tk vx tv) (hs : ∀ x, foldedSetIterable iter X.env x = pure x) :
    PS X (.Assign [.Name y py] (.DictComp kx vx [⟨tg, iter, ifs, 0⟩] scope pos) spos) (tAsg (tDcX X.K X.w wi g tt tk tv (own.map (·.2))) (gName i)) := by
  refine ⟨fun pins s σ H Z I h => ?_⟩
  rw [exec_Assign_Name_used _ _ _ _ hsw]
  refine wpAny_bind (wpAny_standAt (wpAny_bind ?_))
  have h : tDcX X.K X.w wi g tt tk tv (own.map (·.2)) σ H (fun x H1 => gName i x σ H1 Z.nx) := h
  have cells : ∀ y ∈ scope.names, y.2 = .free → ∃ c, X.env.cells.lookup y.1 = some c := fun y hy e => I.ok.has _ (ok.free y hy e)
  have fin : ∀ {D C : Addr} {s' : Shared} {m : Str → Option Value} {H' : Hp}, Inv X pins σ H' s' → gName i (.ref D) σ H' Z.nx → s'.heap.Ns C m → FpOk X pins H' C → compPost (model X.prog X.w) X.A X.xe (some (assign (.Name y py) X.env)) (fun _ s' => SP X pins Z .next s') (.ref D) C (.ok .next) s' := fun {D C s' m H'} I' q hn f => by
    show wpAny _ _ (assign (.Name y py) X.env (.ref D)) _ _ _
    refine wpAny_assign_Name (store_ok2 (v := V.ref D) I' hN hy (.inl hyl) rfl (fun s2 I2 ⟨a, sb, ha⟩ => ?_) (.inr hyl))
    obtain ⟨f0, f1, f2, f3, f4, f5⟩ := f
    have off : C ≠ a := ha.elim (fun z => by rw [z]; exact f1) fun z e => f4 y a z e.symm
    exact ⟨m, hn.sameBut sb off, fun h3 sb3 => ⟨_, H', I2.turned (t' := s2.toks) (fun b o hb e => (sb3.2 b hb).trans e) f0 f1 f3 f4 f5, q⟩⟩
  show wpAny _ X.A (do let _ ← comprehension (.DictComp kx vx [⟨tg, iter, ifs, 0⟩] scope pos) scope X.env (firstIterPos [⟨tg, iter, ifs, 0⟩] pos) newDict false (eval iter X.env) (some (assign (.Name y py) X.env))) _ _ s
  refine wpAny_bind (thn (Q := fun _ s' => SP X pins Z .next s') (wpAny_comprehension_free (use := some (assign (.Name y py) X.env)) rfl hs (closure_ok cells) ok.kind (fun y hy e => by rw [ok.uniq y hy, e]) (thn (hi.run pins s σ H _ I h) fun _ s1 h1 => thn h1 fun _ s2 h2 => ?_)) fun _ s' hq => wpAny_pure (wpAny_pure hq))
  obtain ⟨it, fp, tn, J, H2, rfl, I2, T, st2, f2, q⟩ := h2
  refine wpAny_newObj_type (newEnv_comp ?_)
  -- the new dict
  have fresh : H2 s2.heap.objs.size = none := I2.hok.fresh (Nat.le_refl _)
  obtain ⟨P, ⟨m0, p0⟩, turn⟩ := q _ fresh
  have I3 : Inv X pins σ (upd H2 s2.heap.objs.size (DxO s2.heap.objs.size [])) { s2 with heap := s2.heap.push { cls := .type "dict", data := .dict #[] } } :=
    I2.laid (t' := s2.toks) (fun _ _ e => Heap.get?_push_of_some _ e) (Nat.le_refl _) (dx_new (Nat.zero_le _) (beq_eq_false_iff_ne.mpr (Ne.symm (Nat.ne_of_lt I2.big))) (Mx.new s2.heap) rfl)
  have below : ∀ b ∈ fp, b < s2.heap.objs.size := fun b hb => let ⟨_, e, _⟩ := T.obj _ _ st2 b hb; Heap.lt_size e
  have f3 : ∀ b ∈ fp, FpOk X pins (upd H2 s2.heap.objs.size (DxO s2.heap.objs.size [])) b ∧ b < (s2.heap.push { cls := .type "dict", data := .dict #[] }).objs.size := fun b hb =>
    ⟨⟨by rw [upd_ne (Nat.ne_of_lt (below b hb))]; exact (f2 b hb).1, (f2 b hb).2⟩, by rw [Heap.size_push]; exact Nat.lt_succ_of_lt (below b hb)⟩
  have st3 : tn 0 (s2.heap.push { cls := .type "dict", data := .dict #[] }) := T.keep _ _ _ st2 fun _ _ _ e => Heap.get?_push_of_some _ e
  generalize hD : s2.heap.objs.size = D at *
  generalize hh : s2.heap.push { cls := .type "dict", data := .dict #[] } = hp at *
  generalize h3 : upd H2 D (DxO D []) = H3 at *
  -- into the block
  have I4 := block_start I3 ok hN f3
  have pg := B.tg { s2 with heap := hp } H3 fp
  have pt := B.ifs { s2 with heap := hp } H3 fp
  have pk := B.key { s2 with heap := hp } H3 fp
  have pv := B.val { s2 with heap := hp } H3 fp
  have st4 : tn 0 (pushCells (hp.push { cls := .type "dict", data := .dict #[] }) scope.names) := T.keep _ _ _ st3 fun b _ o e => pushCells_keeps _ _ _ _ (Heap.get?_push_of_some _ e)
  have lp := dcX_loopU (Qf := fun _ s' => SP X pins Z .next s') (use := some (assign (.Name y py) X.env)) (Q := fun x H1 => gName i x σ H1 Z.nx) (iter := iter) (pos := pos) hu hc I3 f3 rfl pg pt pk pv (fun C s' m H' I' q hn f => fin I' q hn f) T turn m0 0 H3 _ I4 st4 (fun b hb => (f3 b hb).1.1) p0
  exact codeAny_compStart_dict lp (T.self X.A 0 _ _ _ st4 lp)
end
theorem sw_trueD {kx vx : Expr} {gs : List Comprehension} {scope : Scope} {pos py : Pos} {y : Str} {l : Nat} {env : Env} (hk : env.scope.kind = .function) (hy : env.scope.names.lookup y = some .local) (hl : (py.line == pos.line) = true)
    (ha : (scope.names.any fun (n, k) => n == y && (k == .local || k == .cell)) = false) : swapsWith (.DictComp kx vx gs scope pos) (some (.Name y py)) l env = pure true := by
  have ky : env.kindOf y = some .local := hy
  have hb : env.blockKind = .function := by unfold Env.blockKind; rw [hk]; rfl
  unfold swapsWith
  simp only [hb, ky, ha, Expr.pos, hl]
  rfl
section
variable {g : Gb} {l : Lc} {ρ : Rho} {E : Po} {kx vx tg iter : Expr} {ifs : List Expr} {scope : Scope} {own : List (Str × Nat)} {pos py spos : Pos} {n : Str} {ds : List DV}
theorem ds_dcV (i : Nat) {is : List Nat} (nd : l.N.Nodup) (ok : blkC l.N l.sc scope own = true) (hi : DI g l tg iter ρ ds) (hlen : ds.length ≤ 50000) (his : ∀ j ∈ is, j ∈ own.map (·.2)) (ρ1 : DV → Rho) (p : DV → Bool) (fk fv : DV → DV)
    (hg : ∀ d ∈ ds, DG g (inn l scope) tg is d (wipeR ρ (own.map (·.2))) (ρ1 d)) (ht : ∀ d ∈ ds, DTs g (inn l scope) ifs (ρ1 d) (p d)) (hkk : ∀ d ∈ ds, p d = true → DE g (inn l scope) kx (ρ1 d) (fk d) ∧ (fk d).isKeyD = true) (hv : ∀ d ∈ ds, p d = true → DE g (inn l scope) vx (ρ1 d) (fv d))
    (q : E.nx (ρ.set i (.val (.dct g.w (dputs p fk fv ds ([], [])).1 (dputs p fk fv ds ([], [])).2)))) (hN : l.N[i]? = some n := by rfl) (hk : l.sc.kind = .function := by rfl) (hy : l.sc.names.lookup n = some .local := by rfl) (hl : (py.line == pos.line) = true := by rfl)
    (ha : (scope.names.any fun (m, k) => m == n && (k == .local || k == .cell)) = false := by decide +kernel) (hs : ∀ env x, foldedSetIterable iter env x = pure x := by intro _ _; rfl) (hcl : l.cb = true := by rfl) : DS g l (.Assign [.Name n py] (.DictComp kx vx [⟨tg, iter, ifs, 0⟩] scope pos) spos) ρ E :=
  DS.by (tAsg (rD g l kx vx tg iter ifs scope own) (gName i)) (fun X o => by
    have := ps_setDc (pos := pos) (spos := spos) (py := py) (own := own) (kx := kx) (vx := vx) o.u16 (o.calm hcl) (by rw [o.N]; exact nd) (by rw [o.N]; exact hN) (by rw [o.sc]; exact hy) (sw_trueD (by rw [o.sc]; exact hk) (by rw [o.sc]; exact hy) hl ha) (UI.pi o tg iter) (blkOk_by (by rw [o.N, o.sc]; exact ok))
      ⟨fun s H fp => UG.pg (o.blk scope s H _ _ fp) tg, fun s H fp => UTs.pts (o.blk scope s H _ _ fp) ifs, fun s H fp => UE.pe (o.blk scope s H _ _ fp) kx, fun s H fp => UE.pe (o.blk scope s H _ _ fp) vx⟩ (hs _)
    rw [o.K, o.w] at this
    exact this) (st_asg (ev_dcX hi hlen his ρ1 p fk fv (fun d hd => (hg d hd).tg) ht hkk hv) q)
end
end PD

/-! An object that came up on the way, of nobody's knowledge: pinned, let go (the same four as in SK: take one of the two only). -/
namespace PD
open PySem PySem.Spec PyProof.Rows L2
structure Fre (X : Cx) (pins : List (Addr × Obj)) (a : Addr) : Prop where
  n : X.s_0.heap.objs.size ≤ a
  l : a ≠ X.env.locals
  c : ∀ x c, X.env.cells.lookup x = some c → c ≠ a
  p : ∀ p ∈ X.pn ++ pins, p.1 ≠ a
  f : a ∉ X.fs
section
variable {X : Cx} {pins : List (Addr × Obj)} {σ : L2.St} {H : Hp} {s : Shared}
theorem fre_of (I : Inv X pins σ H s) {a : Addr} (h : s.heap.objs.size ≤ a) : Fre X pins a where
  n := Nat.le_trans I.sz h
  l := fun z => Nat.lt_irrefl _ (Nat.lt_of_lt_of_le (z ▸ I.lt) h)
  c := fun x c e z => by
    obtain ⟨v, o, ho, _⟩ := I.cell x c e
    exact Nat.lt_irrefl _ (Nat.lt_of_lt_of_le (z ▸ Heap.lt_size ho) h)
  p := fun p hp z => by
    obtain ⟨e, _⟩ := I.pin p hp
    exact Nat.lt_irrefl _ (Nat.lt_of_lt_of_le (z ▸ Heap.lt_size e) h)
  f := I.nofs h
theorem invPin {a : Addr} {o : Obj} (I : Inv X pins σ H s) (fD : Fre X pins a) (nD : H a = none) (ho : s.heap.get? a = some o) (hc : ∀ v, o.data ≠ .cell v) : Inv X ((a, o) :: pins) σ H s := I.pins_of fun p hp => by
  rcases List.mem_cons.mp hp with rfl | hp
  · exact ⟨ho, nD, fD.l, fD.f, hc⟩
  · exact I.pin p (List.mem_append_right _ hp)
theorem invUnpin {a : Addr} {o : Obj} (I : Inv X ((a, o) :: pins) σ H s) : Inv X pins σ H s := I.pins_of fun p hp => I.pin p (List.mem_append_right _ (List.mem_cons_of_mem _ hp))
theorem invPinAt {a : Addr} {o : Obj} (I : Inv X ((a, o) :: pins) σ H s) : s.heap.get? a = some o ∧ H a = none := by
  obtain ⟨h1, h2, _⟩ := I.pin (a, o) (List.mem_append_right _ (List.mem_cons_self ..))
  exact ⟨h1, h2⟩
end
end PD

/-! __init__ of an own exception: super().__init__(f'..{x}'); self.x = x. -/
namespace PD
open PySem PySem.Spec PyProof.Rows L2 PySem.W NdefX
/-- the built-in __init__, bound, is called -/
theorem call_mw {X : Cx} {pins : List (Addr × Obj)} {σ : L2.St} {H : Hp} {s : Shared} {a C u : Addr} {us : List Value} {A : Around} {E Q} (T : OexC X.K C) (I : Inv X pins σ H s) (e : H a = some (exo a C none)) (hu : s.heap.get? u = some (kxs_mw "ValueError.__init__" a)) (hl : us.length ≤ sizeLine) (h : ∀ s', Inv X pins σ H s' → Q .none s') :
    wpAny (model X.prog X.w) A (call (.ref u) us) Q E s := by
  obtain ⟨nm, q, N, bs, bm, sn, sub, ab, col, dd, k0, k1, k2, k3, k5, hC, hbm⟩ := T.cls
  obtain ⟨t1, ho⟩ := exo_at I.hok e
  have hCh := I.kIn _ _ hC
  obtain ⟨hp, g, d, t, os⟩ := s
  refine wpAny_call (codeAny_of_tree ?_)
  show wpAny _ A.in1 (callAny (.ref u) ⟨us, []⟩) _ _ _
  simp only [callAny]
  refine wpAny_bind (wpAny_load hu ?_)
  simp only [kxs_mw, show (Value.type "method-wrapper" == Value.type "method" || Value.type "method-wrapper" == Value.type "builtin_function_or_method" || Value.type "method-wrapper" == Value.type "method-wrapper") = true by decide, if_true]
  refine KFB.if_so (by decide) ?_
  refine wpAny_bind (check_bound_init PySem.F.excBase_ValueError.toExcCallFacts hCh ho rfl ?_)
  refine wpAny_bind (wpAny_pure (wpAny_pure ?_))
  refine ⟨plainId_quiet PySem.F.excBase_ValueError.init.plain _, codeAny_builtin PySem.F.excBase_ValueError.initEntry ?_⟩
  refine exc_init_tree (cls := .ref C) (t0 := t1) (dv := none) (c2 := .none) (c3 := .none) (b4 := .bool false) ho hl fun h' k e' t' => ?_
  have J := I.write (t' := t) (x := a) (e := a) (o := exo a C none) (by rw [e]; exact True.intro) (.inl rfl) k ⟨_, e'⟩ (exo_ok e')
  have eu : upd H a (exo a C none) = H := by
    funext b
    by_cases hb : b = a
    · rw [hb, upd_same, e]
    · rw [upd_ne hb]
  rw [eu] at J
  exact h _ J
/-- what the written part says of such a class and its __init__ -/
structure SupF (P : Program) (K : Frag) (mg : Str → Option Value) (qual : Str) (st : Stmt) (C f cc cda : Addr) (fd : FuncData) : Prop where
  fdeq : ∃ kV doc pm an ct, fd = ksFn "__init__" qual (defArgs st) (defBody st) (defScope st) .none kV doc pm an (.ref cda) ct cc
  lk : ∃ oc od osl, K.lookup f = some ⟨oc, od, .func fd, osl⟩
  code : codeIn K (.ref cda) qual = true
  cobj : ∃ ccl cdd vs ccs file tf, K.lookup cda = some ⟨ccl, cdd, .fields vs, ccs⟩ ∧ vs[2]? = some (.str file tf) ∧ ((P.main.file : Str) == file) = true
  cell : ∃ cl cld csl, K.lookup cc = some ⟨cl, cld, .cell (some (.ref C)), csl⟩
  sup : mg "super" = none
  top : (P.main.scope.names.lookup ("super" : Str)).isSome = false
  init : ks_superIn K C C "__init__" = some (some (.builtin "ValueError.__init__"))
  sub : mroIn K C (.ref C) = some true
  sv : subIn K (.ref C) (.type "ValueError") = some true
  opq : nsIn K cStatics "thirdparty.any" = some none
section
variable {X : Cx}
def tFmtN (te : TE) : TE := fun σ H Q => te σ H fun x H1 => (∃ y : Str, x = .str y ∧ y.length ≤ sizeLine ∧ Q (.str y) H1) ∨ (∃ i : Int, x = .int i ∧ i.natAbs.log2 < 1920 ∧ Q (.str (toString i)) H1) ∨ (x = .non ∧ Q (.str "None") H1)
theorem pe_fmtN {e : Expr} {te : TE} {pos : Pos} (he : PE X e te) : PE X (.FormattedValue e (-1) none pos) (tFmtN te) := by
  refine ⟨fun pins s σ H Q I h => ?_⟩
  refine wpAny_FormattedValue_plain (thn (he.run pins s σ H _ I h) fun v s1 hv => ?_)
  obtain ⟨x, H1, I1, r1, q⟩ := hv
  rcases q with ⟨y, rfl, hz, q⟩ | ⟨i, rfl, hz, q⟩ | ⟨rfl, q⟩
  · obtain ⟨t, rfl⟩ := r1
    exact wpAny_formatField_str ⟨.str y, H1, I1, ⟨t, rfl⟩, q⟩ ⟨.str y, H1, I1.tok _, ⟨_, rfl⟩, q⟩ hz
  · obtain ⟨t, rfl⟩ := r1
    exact wpAny_formatField_int hz ⟨.str (toString i), H1, I1.tok _, ⟨_, rfl⟩, q⟩
  · obtain rfl : v = Value.none := r1
    exact wpAny_formatField_none ⟨.str "None", H1, I1.tok _, ⟨_, rfl⟩, q⟩
end
/-- what the text can hold -/
def fitV (txt : Str) : V → Prop
  | .non => (Str.empty ++ txt ++ ("None" : Str)).length ≤ sizeLine | .str z => z.length ≤ sizeLine ∧ (Str.empty ++ txt ++ z).length ≤ sizeLine | .int i => i.natAbs.log2 < 1920 ∧ (Str.empty ++ txt ++ (toString i : Str)).length ≤ sizeLine | _ => False
def spO (C : Addr) (txt fld : Str) : Sp := fun vs H Q _ => ∃ a y, vs = [.ref a, y] ∧ fitV txt y ∧ (Str.empty ++ txt).length ≤ sizeLine ∧ H a = some (exo a C none) ∧ ∀ dx, H dx = none → dx ≠ a → Q .non (upd (upd H dx (exd dx [(fld, y)])) a (exo a C (some dx)))
theorem ok_super {P : Program} {w : World} {K : Frag} {mg : Str → Option Value} {base : Heap} {k : Nat} {f : Addr} {fd : FuncData} {qual nm fld txt : Str} {st : Stmt} {C cc cda : Addr} {j : Nat} {ar : Arg} {p0 p1 p2 p3 p4 p5 p6 p7 p8 p9 p10 p11 p12 : Pos}
    (S : NScope ["self", nm, "__class__"] ["self", nm] ["__class__"] (defScope st)) (hks : (defScope st).names.lookup ("super" : Str) = some .globalImplicit) (T : OexC K C) (F : SupF P K mg qual st C f cc cda fd) (hno : findIn K (.ref C) fld = some none)
    (hp : ((defArgs st).posonlyargs ++ (defArgs st).args).head? = some ar) (har : ar.arg = "self") (nz : ("self" : Str) ≠ nm)
    (hb : defBody st = [.Expr (.Call (.Attribute (.Call (.Name "super" p0) [] [] p1) "__init__" p2) [.JoinedStr [.Constant (.str txt) j p3, .FormattedValue (.Name nm p4) (-1) none p5] p6] [] p7) p8, .Assign [.Attribute (.Name "self" p9) fld p10] (.Name nm p11) p12])
    {pl : Env → Sem Bool} (hcall : ∀ env, eval (.Call (.Attribute (.Call (.Name "super" p0) [] [] p1) "__init__" p2) [.JoinedStr [.Constant (.str txt) j p3, .FormattedValue (.Name nm p4) (-1) none p5] p6] [] p7) env = (do
      let ov ← attributeBase (.Call (.Name "super" p0) [] [] p1) "__init__" env (eval (.Call (.Name "super" p0) [] [] p1) env)
      standAt p2.atName
      let (f, first) ← holding [ov] (getMethod ov "__init__" (pl env))
      callWith p7 f first (backTo p7 (starEach [.JoinedStr [.Constant (.str txt) j p3, .FormattedValue (.Name nm p4) (-1) none p5] p6] env)) []) := by intro _; rfl) (hd1 : (nm == ("__debug__" : Str)) = false := by decide) (hd2 : (nm == ("__classdict__" : Str)) = false := by decide) :
    FnOk P w K mg base CX0 (k + 1) f fd ["self", nm] (spO C txt fld) where
  len := fun vs H Q E ⟨a, y, e, _⟩ => by rw [e]; rfl
  run := fun A outer s H args us vs Q E hr e0 hbi rv hsp => by
    obtain ⟨a, y, rfl, hy, htx, ha, q⟩ := hsp
    obtain ⟨kV, doc, pm, an, ct, rfl⟩ := F.fdeq
    obtain ⟨oc, od, osl, lk⟩ := F.lk
    obtain ⟨cl, cld, csl, lc⟩ := F.cell
    have KX : K.In s.heap := e0.mod.kin.keeps fun b o e => (e0.bs b o e).1
    have lim : s.heap.NoLimit := e0.mod.nolimit.keeps fun b o e => (e0.bs b o e).1
    have kinds : ∀ x ∈ (["self", nm] : List Str).zip us, (defScope st).names.lookup x.1 = some .local := fun ⟨m, v⟩ hx => S.par m (List.of_mem_zip hx).1
    refine ks_codeAny_call_defAt (fd := ksFn "__init__" qual (defArgs st) (defBody st) (defScope st) .none kV doc pm an (.ref cda) ct cc) (body := defBody st) (binds := (["self", nm] : List Str).zip us) hr.depth (KX _ _ lk) rfl lim (PySem.W.codeRec_of KX F.code) rfl hbi S.nocell kinds (fun h₁ hns hk => ?_) S.co S.gen S.kind
    let NFF : NF := ⟨"__init__", qual, defArgs st, defBody st, defScope st, [("__class__", cc)], cda⟩
    have hcb : base.get? cc = some ⟨cl, cld, .cell (some (.ref C)), csl⟩ := e0.mod.kin _ _ lc
    have lkc : ∀ {x : Str} {c : Addr}, ([(("__class__" : Str), cc)] : List (Str × Addr)).lookup x = some c → x = "__class__" ∧ c = cc := fun {x c} e => by
      rw [List.lookup_cons] at e
      by_cases h : x = "__class__"
      · subst h
        rw [beq_self_eq_true] at e
        exact ⟨rfl, (Option.some.inj e).symm⟩
      · rw [show (x == ("__class__" : Str)) = false from by simpa using h] at e
        cases e
    have CA : CellsAt NFF.cl ["__class__"] [some (.ref C)] s.heap H := by
      refine ⟨rfl, fun y c e => ?_, fun x y c e1 e2 => (lkc e1).1.trans (lkc e2).1.symm, fun i y e => ?_⟩
      · obtain ⟨_, rfl⟩ := lkc e
        exact ⟨(e0.bs _ _ hcb).2, some (.ref C), _, (e0.bs _ _ hcb).1, rfl⟩
      · cases i with
        | zero =>
          cases e
          refine ⟨cc, by show List.lookup _ [_] = _; rw [List.lookup_cons, beq_self_eq_true], fun v hv => ?_⟩
          cases hv
          exact ⟨.ref C, rfl, _, (e0.bs _ _ hcb).1, rfl⟩
        | succ i => cases e
    let X : Cx := ncx CX0 P w K mg base ["self", nm, "__class__"] NFF f A outer s H E
    have I : Inv X [] [some (.ref a), some y, some (.ref C)] H { s with heap := h₁, toks := s.toks + ((["self", nm] : List Str).zip us).length } := inv_startN (CX := CX0) (P := P) (w := w) (K := K) (mg := mg) (base := base) (F := NFF) (f := f) (E := E) (tk := s.toks + ((["self", nm] : List Str).zip us).length) S hr.hd e0 (by rfl) rv CA hns hk
    show _root_.PySem.wpAt (model X.prog X.w) X.A (.func (defBody st) X.env) (execs (defBody st) X.env) _ X.xe _
    have hkc : (defScope st).names.lookup ("__class__" : Str) = some .free := S.frk _ (List.mem_singleton.mpr rfl)
    have hkS : (defScope st).names.lookup ("self" : Str) = some .local := S.par _ (List.mem_cons_self ..)
    obtain ⟨ccl, cdd, vs, ccs, file, tf, lco, hvs, hfile⟩ := F.cobj
    obtain ⟨cnm, cq, N, bs, bm, sn, sub, ab, col, dd, k0, k1, k2, k3, k5, hC, hbm⟩ := T.cls
    rw [show execs (defBody st) X.env = execs _ X.env from congrArg (fun b => execs b X.env) hb]
    have hint : interactive X.env = false := by
      show (((defScope st).kind == .module) && _) = false
      rw [S.kind]
      rfl
    refine ks_wpAt_execs_cons (ks_wpAt_Expr_any (hi := hint) (ks_wpAt_MethodCall (he := hcall X.env) (ks_wpAt_super_base (f := f) (cc := cda) (ar := ar) hks hkc (by decide) rfl (I.kIn _ _ lk) rfl hp rfl (I.kIn _ _ lco) rfl hvs hfile F.top ?_)))
    have hcl : PySem.W.clsIn K C = some { name := cnm, bases := bs, mro := .ref C :: bm, ns := N, qualname := cq, hasDict := true, slotNames := sn, subclasses := sub, abstract := ab, collection := col, hasDel := false } := by unfold PySem.W.clsIn; rw [hC]
    obtain ⟨mb, hb1, hb2⟩ := I.mod.blt
    refine ks_loadName_global S.kind hks (Calls.loadGlobal_builtin (by rw [I.ok.glob]; exact I.mod.glob.keeps I.bk) F.sup (by rw [I.ok.blt]; exact hb1.keeps I.bk) ((hb2 "super" (by decide)).trans (show bootBuiltins "super" = some (.type "super") by decide +kernel)) ⟨rfl, ?_⟩)
    refine wpAny_loadName_free S.kind hkc rfl ⟨_, I.kIn _ _ lc, rfl⟩ ?_
    rw [har]
    obtain ⟨m, hm1, hl⟩ := I.loc
    obtain ⟨u, ru, lu⟩ := hl 0 "self" (.ref a) rfl rfl (.inl hkS)
    obtain rfl : u = Value.ref a := ru
    have hself : m "self" = some (.ref a) := by
      rcases lu with ⟨_, h⟩ | ⟨h, _⟩
      · exact h
      · have h' : (defScope st).names.lookup ("self" : Str) = some .cell ∨ (defScope st).names.lookup ("self" : Str) = some .free := h
        rw [hkS] at h'
        rcases h' with h' | h' <;> cases h'
    refine wpAny_loadName_local S.kind hkS hm1 hself ?_
    refine ks_wpAny_isType_cls (I.kIn _ _ hC) rfl ⟨rfl, ?_⟩
    obtain ⟨t1, ho⟩ := exo_at I.hok ha
    refine ks_wpAny_call_super (I.kIn _ _ hC) rfl ho rfl (fun c e => by cases e) (looks_mroIn I.kIn F.sub) fun h' e k => ?_
    have I1 : Inv X [] [some (.ref a), some y, some (.ref C)] H { s with heap := h', toks := s.toks + ((["self", nm] : List Str).zip us).length } := I.kept (t' := s.toks + ((["self", nm] : List Str).zip us).length) k
    have ho1 := k _ _ ho
    have inst : InstAt h' a _ C none := ⟨ho1, rfl, rfl, trivial⟩
    refine kxs_getMethod kxs_ValueError e (looks_opaque I1.kIn F.opq) (l₀ := .ref C :: bm) (fun A Q E s k q => wpAny_bind ((looks_clsIn I1.kIn hcl) A _ E s k (wpAny_pure q))) rfl I1.kIn ?_ (inst.type.andThen (looks_subIn I1.kIn F.sv)) (ks_ne I1.kIn inst hcl) (by decide) ?_
    · have := F.init
      unfold ks_superIn at this
      rw [hcl] at this
      exact this
    have I2 : Inv X [] [some (.ref a), some y, some (.ref C)] H { s with heap := h'.push (kxs_mw "ValueError.__init__" a), toks := s.toks + ((["self", nm] : List Str).zip us).length + 1 } := I1.kept (t' := s.toks + ((["self", nm] : List Str).zip us).length + 1) fun b o q => Heap.get?_push_of_some _ q
    have fu : Fre X [] h'.objs.size := fre_of I1 (Nat.le_refl _)
    have nu : H h'.objs.size = none := I1.hok.fresh (Nat.le_refl _)
    have hu : (h'.push (kxs_mw "ValueError.__init__" a)).get? h'.objs.size = some (kxs_mw "ValueError.__init__" a) := Heap.get?_push_size _ rfl
    have I3 := invPin (o := kxs_mw "ValueError.__init__" a) I2 fu nu hu (fun v e => by cases e)
    have hN1 : X.N[1]? = some nm := rfl
    have pj : PJ X [.Constant (.str txt) j p3, .FormattedValue (.Name nm p4) (-1) none p5] [tC (.str txt), tFmtN (tVar 1)] := .cons pe_str (.cons (pe_fmtN (pe_var (i := 1) hN1 (.inl (S.par nm (by simp))) hd1 hd2)) .nil)
    have pa := pa_cons (pe_joined (pos := p6) pj) pa_nil
    show wpAny _ _ (callWith p7 (.ref h'.objs.size) [] (backTo p7 (starEach [.JoinedStr [.Constant (.str txt) j p3, .FormattedValue (.Name nm p4) (-1) none p5] p6] X.env)) []) _ _ _
    refine kxs_callWith (i := "ValueError.__init__") (x := a) (by rfl) ?_
    refine Calls.evalArgs_plain (thn (pa.run p7 [(h'.objs.size, kxs_mw "ValueError.__init__" a)] _ _ H (fun vs H1 => ∃ out : Str, vs = [.str out] ∧ H1 = H) I3 ?args) fun us2 s2 ⟨vs2, H2, J, r2, out, e2, eH⟩ => ?_)
    case args =>
      refine ⟨txt, rfl, htx, y, rfl, ?_⟩
      cases y with
      | non => exact .inr (.inr ⟨rfl, "None", rfl, hy, _, rfl, rfl⟩)
      | str z => exact .inl ⟨z, rfl, hy.1, z, rfl, hy.2, _, rfl, rfl⟩
      | int i => exact .inr (.inl ⟨i, rfl, hy.1, _, rfl, hy.2, _, rfl, rfl⟩)
      | _ => exact hy.elim
    · subst e2
      rw [eH] at J
      obtain ⟨hu2, _⟩ := invPinAt J
      refine ⟨hu2, call_mw T (invUnpin J) ha hu2 ?_ fun s3 I4 => ?_⟩
      · show us2.length ≤ sizeLine
        rw [← r2.length]
        show 1 ≤ sizeLine
        decide
      · refine wpAt_of_any ?_
        have hN0 : X.N[0]? = some ("self" : Str) := rfl
        have ps : PS X (.Assign [.Attribute (.Name "self" p9) fld p10] (.Name nm p11) p12) (tOst X.K fld (tVar 0) (tVar 1)) := ps_ost (pe_var (i := 0) hN0 (.inl hkS) (by decide) (by decide)) (pe_var (i := 1) hN1 (.inl (S.par nm (by simp))) hd1 hd2) (by rfl)
        have fin : ∀ {σ' : L2.St} {H' : Hp} {v : V} {u : Value} {s' : Shared}, Inv X [] σ' H' s' → RelV v u → Q v H' → CE outer P w H s Q u s' :=
          fun {σ' H' v u s'} J rv z => ⟨v, H', J.os, J.bare, J.base, J.hok, rv, z⟩
        refine wpAny_mono ((pss_one ps).run [] s3 _ H { nx := fun _ H' => Q .non H', rt := Q } I4 ?_) (fun fl s' hs => ?_) fun e s' hs => hs
        · exact ⟨y, rfl, .ref a, rfl, a, C, rfl, T, hno, .inl ⟨ha, fun dx h1 h2 => q dx h1 h2⟩⟩
        · cases fl with
          | ret u =>
            obtain ⟨v, σ', H', J, rv, z⟩ := hs
            exact fin J rv z
          | next =>
            obtain ⟨σ', H', J, z⟩ := hs
            exact fin (v := V.non) (u := Value.none) J rfl z
          | brk =>
            obtain ⟨_, _, _, z⟩ := hs
            exact False.elim z
          | cont =>
            obtain ⟨_, _, _, z⟩ := hs
            exact False.elim z
end PD

/-! raise C(e), C's own __init__ says super().__init__(f'..{e}') and keeps e. -/
namespace PD
open PySem PySem.Spec PyProof.Rows L2
def fitD (txt : Str) : DV → Prop
  | .non => (Str.empty ++ txt ++ ("None" : Str)).length ≤ sizeLine | .str z => z.length ≤ sizeLine ∧ (Str.empty ++ txt ++ z).length ≤ sizeLine | .int i => i.natAbs.log2 < 1920 ∧ (Str.empty ++ txt ++ (toString i : Str)).length ≤ sizeLine | _ => False
/-- an own class of exceptions with such an __init__ -/
structure Xi (g : Gb) (C : Addr) (x txt fld : Str) : Prop where
  mg : g.mg x = some (.ref C)
  T : OexC g.K C
  ini : ∃ fI fd nm, PySem.W.findIn g.K (.ref C) "__init__" = some (some (.ref fI)) ∧ PySem.W.typeIn g.K (.ref fI) = some (.type "function") ∧ FnOk g.P g.w g.K g.mg g.base CX0 1 fI fd ["self", nm] (spO C txt fld) ∧ Binds g.K fd ["self", nm] []
  tz : (Str.empty ++ txt).length ≤ sizeLine
section
variable {K : PySem.W.Frag} {ρ : Rho} {E : Po} {Z : Zo} {ta : TA} {C : Addr} {txt fld : Str} {d : DV}
end
section
variable {g : Gb} {l : Lc} {ρ : Rho} {e : Expr} {E : Po} {Z : Zo} {d : DV} {n txt fld : Str} {C : Addr} {pos p p3 : Pos}
end
end PD

/-! isinstance of a dict. -/
namespace PD
open PySem PySem.Spec PyProof.Rows L2
section
variable {X : Cx}
end
section
variable {g : Gb} {l : Lc} {ρ : Rho} {e : Expr} {pos p p2 p3 p4 : Pos} {n : Str} {C : Addr} {b : Bool} {W : World} {ks vs : List DV}
end
end PD

/-! isinstance(x, C), C an own class, x no instance; check_file, also where it raises. -/
namespace PD
open PySem PySem.Spec PyProof.Rows L2
section
variable {g : Gb} {l : Lc} {ρ : Rho} {e : Expr} {pos p p2 : Pos} {d : DV} {t n : Str} {C : Addr} {b : Bool} {K : PySem.W.Frag} {te : TE}
end
end PD
namespace SP
open PySem PySem.Spec PyProof.Rows L2 PD
section
variable {g : Gb} {C CB : Addr} {txt : Str}
end
end SP

/-! passed_states and check_writes, where they raise. -/
namespace SP
open PySem PySem.Spec PyProof.Rows L2 PD
variable {g : Gb} {C CB : Addr} {txt : Str}
end SP

/-! safe_writes, from states in which at least n identities have been given out. -/
namespace SP
open PySem PySem.Spec PyProof.Rows L2 PD
variable {g : Gb} {C M : Addr} {n : Nat} {tG : Tok}
end SP

/-! Every function that starts with check_file(file), where the file is none. -/
namespace SP
open PySem PySem.Spec PyProof.Rows L2 PD
variable {g : Gb} {C CB : Addr} {n k : Nat}
section
variable {f : Addr} {fd : FuncData}
end
end SP

/-! check_goal, also where it raises. -/
namespace SP
open PySem PySem.Spec PyProof.Rows L2 PD
variable {g : Gb} {C CB : Addr}
end SP

/-! check_write, also where it raises; is_safe where it raises: of two errors, the one that is stated first. -/
namespace SP
open PySem PySem.Spec PyProof.Rows L2 PD
variable {g : Gb} {C CB CW : Addr}
end SP

/-! Every function that starts with check_file(file), check_goal(file, text), where the file is one and the text is none of it; and those with check_write(file, write), check_writes(file, writes). -/
namespace SP
open PySem PySem.Spec PyProof.Rows L2 PD
variable {g : Gb} {C CB CW : Addr} {n k : Nat}
section
variable {f : Addr} {fd : FuncData}
end
end SP

/-! Every function that starts with check_file(file), check_x(file, y), where the second check raises. -/
namespace SP
open PySem PySem.Spec PyProof.Rows L2 PD
variable {g : Gb} {C CB CW : Addr} {n k : Nat}
section
variable {f : Addr} {fd : FuncData}
end
end SP

/-! is_change, where the writes are none. -/
namespace SP
open PySem PySem.Spec PyProof.Rows L2 PD
variable {g : Gb} {C CB : Addr}
end SP

/-! plans, where something is raised; Plan((), {}).shows, NoPlan([]).shows. -/
namespace PD
open PySem PySem.Spec PyProof.Rows L2
/-- o.m(e, ..), what m lets out told with the slots -/
def tMethZ (C : Addr) (m : Str) (sp : Sp) (E : L2.St → XK) (te : TE) (ta : TA) : TE := fun σ H Q => te σ H fun x H1 => ∃ a dx fs, x = .ref a ∧ H1 a = some (.ins C dx fs) ∧ fs.lookup m = none ∧ ta σ H1 fun vs H2 => sp (.ref a :: vs) H2 Q (E σ)
section
variable {X : Cx} {CX : CXT} {k : Nat} {f C : Addr} {fd : FuncData} {ps : List Str} {sp : Sp} {E : L2.St → XK} {m : Str} {apos pos : Pos} {o e : Expr} {es : List Expr} {ta : TE} {t : TA}
theorem pe_methZ {pl : Sem Bool} (he : PE X o ta) (c : Cls X.K C) (hm : Meth X.K C m f) (F : FnOk X.prog X.w X.K X.mg X.base CX k f fd ps sp) (hr : Room k X.A) (hb : Binds X.K fd ps []) (hx : ∀ σ, PassesAt CX X σ (E σ)) (ha : PA X (e :: es) t)
    (hst : starEach (e :: es) X.env = (false, eval e X.env) :: starEach es X.env) (hpl : (backTo pos (starEach es X.env)).any (·.1) = false)
    (ht : eval (.Call (.Attribute o m apos) (e :: es) [] pos) X.env = (do
      let ov ← eval o X.env; standAt apos.atName; let (f, first) ← holding [ov] (getMethod ov m pl); callWith pos f first (backTo pos (starEach (e :: es) X.env)) (backToKw pos (keywordEach [] X.env)))) : PE X (.Call (.Attribute o m apos) (e :: es) [] pos) (tMethZ C m sp E ta t) := by
  refine ⟨fun pins s σ H Q I h => PySem.W.methodCall_KW (pl := pl) (thn (he.run pins s σ H _ I h) fun u s1 ⟨x, H1, I1, rx, a, dx, fs, ex, ea, l, q⟩ => ?_) ht⟩
  subst ex
  obtain rfl : u = Value.ref a := rx
  refine getmeth_ok I1 ea c hm l ?_
  exact PySem.W.callWith_K (first := [.ref a]) (h₀ := X.base) I1.ok.mod.kin hm.kp (thn (ha.run pos pins s1 σ H1 _ I1 q) fun us s2 ⟨vs, H2, I2, r, q2⟩ => ⟨I2.kIn, run_fnS (us := .ref a :: us) (vs := .ref a :: vs) F hr hb (hx σ) I2 (.cons rfl r) q2⟩) hst hpl
end
section
variable {g : Gb} {l : Lc} {ρ : Rho} {e o a b : Expr} {es : List Expr} {ds : List DV} {out : Out} {m : Str} {pos apos p : Pos} {k : Nat} {C C' : Addr} {gs hs : List (Str × DV)} {R : List DV → Out → Prop}
/-- y = e, the store as the scope has it -/
theorem ds_setS {d : DV} {py : Pos} {n : Str} {E : Po} (i : Nat) (nd : l.N.Nodup) (h : DE g l e ρ d) (q : E.nx (ρ.set i (.val d))) (hN : l.N[i]? = some n := by rfl) (hx : Loc l.sc n := by first | exact Or.inl rfl | exact Or.inr rfl) (hf : l.fn n = true ∨ l.sc.names.lookup n = some .local := by first | exact .inl rfl | exact .inr rfl)
    (hs : ∀ env, env.scope = l.sc → swapsWith e (some (.Name n py)) pos.line env = pure false := by intro env h; cases env; cases h; rfl) : DS g l (.Assign [.Name n py] e pos) ρ E :=
  DS.by _ (fun X o => ps_set (i := i) (by rw [o.N]; exact nd) (by rw [o.N]; exact hN) (by rw [o.sc]; exact hx) (UE.pe o e) (hs _ o.sc) (by rcases hf with h | h; exact .inl (o.fn _ h); exact .inr (by rw [o.sc]; exact h))) (st_asg h q)
end
end PD
namespace SP
open PySem PySem.Spec PyProof.Rows L2 PD
variable {g : Gb} {C M CS CG CP CN CB C0 : Addr} {tG : Tok} {n : Nat}
section
variable {f : Addr} {fd : FuncData}
/-! shows: two methods that begin alike -/
end
end SP

/-! An exception without attributes is raised while a mutable thing is about. -/
namespace PD
open PySem PySem.Spec PyProof.Rows L2
section
variable {K : PySem.W.Frag} {ρ : Rho} {m m' : Mo} {tz tu tw : WX → TS} {ts : TS} {tt : TT} {E : Pm} {C : Addr} {b : Bool}
end
section
variable (g : Gb) (l : Lc)
end
section
variable {X : Cx} {CX : CXT} {k : Nat} {f C : Addr} {fd : FuncData} {ps : List Str} {sp : Sp} {E : L2.St → XK} {m : Str} {apos pos : Pos} {o : Expr} {ta : TE}
theorem pe_methZ0 {pl : Sem Bool} (he : PE X o ta) (c : Cls X.K C) (hm : Meth X.K C m f) (F : FnOk X.prog X.w X.K X.mg X.base CX k f fd ps sp) (hr : Room k X.A) (hb : Binds X.K fd ps []) (hx : ∀ σ, PassesAt CX X σ (E σ))
    (ht : eval (.Call (.Attribute o m apos) [] [] pos) X.env = (do
      let ov ← eval o X.env; standAt apos.atName; let (f, first) ← holding [ov] (getMethod ov m pl); callWith pos f first (backTo pos (starEach [] X.env)) (backToKw pos (keywordEach [] X.env)))) : PE X (.Call (.Attribute o m apos) [] [] pos) (tMethZ C m sp E ta tNil) := by
  refine ⟨fun pins s σ H Q I h => PySem.W.methodCall_KW (pl := pl) (thn (he.run pins s σ H _ I h) fun u s1 ⟨x, H1, I1, rx, a, dx, fs, ex, ea, l, q⟩ => ?_) ht⟩
  subst ex
  obtain rfl : u = Value.ref a := rx
  refine getmeth_ok I1 ea c hm l ?_
  exact PySem.W.callWith_K0 (first := [.ref a]) I1.kIn hm.kp (run_fnS (us := [.ref a]) (vs := [.ref a]) F hr hb (hx σ) I1 (.cons rfl .nil) q)
end
section
variable {g : Gb} {l : Lc} {ρ : Rho} {m m' : Mo} {c o : Expr} {st : Stmt} {sts body orelse : List Stmt} {E : Pm} {C CS p : Addr} {b : Bool} {pos apos p1 p2 p3 : Pos} {n : Str} {d : DV}
end
section
variable {g : Gb} {x qual : Str} {st : Stmt} {f C : Addr} {fd : FuncData} {N ps : List Str} {k : Nat}
end
end PD

/-! x in l, instances with an own ==. -/
namespace GQ
open PySem PySem.SeqAt
open PySem.AutoSeq1 (wpAny_loadPart')
open PySem.MeetsSeq PySem.MeetsSeq2 PySem.MeetsSeq3 SeqRoads2
section
variable {prog : Program} {w : World} {A : Around} {R : Result → Shared → Prop}
end
end GQ
namespace PD
open PySem PySem.Spec PyProof.Rows L2
section
variable {X : Cx} {pins : List (Addr × Obj)} {σ : L2.St} {H S : Hp} {s : Shared}
end
end PD

/-! What a def gives is new, where nothing of its kind was handed in. -/
namespace PD
open PySem PySem.Spec PyProof.Rows L2
section
variable {K : PySem.W.Frag} {S S2 : Hp}
end
section
variable {K : PySem.W.Frag} {ρ : Rho} {te : TE} {ta tx : TA} {ds es : List DV} {d : DV} {C : Addr} {gs : List (Str × DV)} {n : Str}
end
end PD

/-! What is new is changed and let go. -/
namespace PD
open PySem PySem.Spec PyProof.Rows L2 MX PySem.W
section
variable {X : Cx} {n : Nat} {e o x : Expr} {t te : TE} {ta : TA} {apos cpos pos : Pos} {r : V → List V → Hp → VK → Prop} {name : Str} {T id : String}
end
section
variable {K : PySem.W.Frag} {ρ : Rho} {te : TE} {es : List DV} {d : DV} {E : Po} {C : Addr} {gs : List (Str × DV)} {n : Str} {w : World} {ks vs : List DV}
end
end PD
namespace PD
open PySem PySem.Spec PyProof.Rows L2
section
variable {g : Gb} {n k : Nat} {l : Lc} {ρ : Rho} {e o x : Expr} {es : List Expr} {ds xs ks vs : List DV} {d dx : DV} {nm f : Str} {p pos apos cpos : Pos} {C : Addr} {gs : List (Str × DV)} {R : List DV → DV → Prop} {E : Po}
end
end PD

/-! Things that a def makes anew, as such; an __init__ whose last attribute is one. -/
namespace PD
open PySem PySem.Spec PyProof.Rows L2
section
variable {K : PySem.W.Frag} {w : World} {ρ : Rho} {te : TE} {ds : List DV} {d : DV}
end
section
variable {g : Gb} {n : Nat} {l : Lc} {ρ : Rho} {C : Addr} {gs gs' gs2 : List (Str × DV)} {e : Expr} {f nm fn : Str} {d : DV} {p1 p2 p3 : Pos} {st : Stmt} {rest : List Stmt} {te : TE}
end
end PD

/-! Plan, NoPlan made of a list, a dict of one's own. -/
namespace PD
open PySem PySem.Spec PyProof.Rows L2
section
variable {K : PySem.W.Frag} {w : World} {ρ : Rho} {m : Mo} {C : Addr} {fn : Str} {R : List DV → List (Str × DV) → Prop} {xs : List DV} {i j : Nat}
end
end PD
namespace SP
open PySem PySem.Spec PyProof.Rows L2 PD
variable {g : Gb} {CP CN : Addr} {n : Nat}
end SP
namespace PD
open PySem PySem.Spec PyProof.Rows L2
section
variable {g : Gb} {n : Nat} {l : Lc} {ρ : Rho} {C : Addr} {gs : List (Str × DV)} {e kx vx tg iter : Expr} {ifs : List Expr} {f nm : Str} {d : DV} {ds : List DV} {p1 p2 p3 pos : Pos} {scope : Scope} {own : List (Str × Nat)}
end
end PD
namespace SP
open PySem PySem.Spec PyProof.Rows L2 PD
variable {g : Gb} {CP CN : Addr} {n : Nat}
end SP

/-! A list and a dict of one's own handed in, then changed. -/
namespace PD
open PySem PySem.Spec PyProof.Rows L2
section
variable {K : PySem.W.Frag} {w : World} {ρ : Rho} {m : Mo} {C D : Addr} {f1 fn : Str} {R : List DV → List (Str × DV) → Prop} {xs : List DV} {i j k : Nat} {fl : Fl2} {W d : DV} {E : Pm}
end
section
variable {K : PySem.W.Frag} {w : World} {ρ : Rho} {m m1 m2 : Mo} {D : Addr} {xs : List DV} {i j k : Nat} {fl : Fl2} {d d1 d2 dT : DV} {c : Int} {E : Pm} {te1 te2 teL teT tk tv : TE} {ts : TS}
end
end PD

/-! An instance made with some keywords, defaults between them. -/
namespace PD
open PySem PySem.Spec PyProof.Rows L2
section
variable {g : Gb} {l : Lc} {ρ : Rho} {e : Expr} {es : List Expr} {pos : Pos} {ds es' : List DV} {d : DV} {C : Addr} {gs : List (Str × DV)} {n : Str} {kws : List Keyword}
end
end PD
namespace PD
open PySem PySem.Spec PyProof.Rows L2
section
variable {K : PySem.W.Frag} {ρ : Rho} {te ta tb : TE} {tx tr : TA} {ds : List DV} {d : DV} {C : Addr} {gs : Fds} {hss : List Fds} {eqf : Fds → Bool} {R : List DV → DV → Prop} {R' : List DV → List (Str × DV) → Prop}
end
section
variable {g : Gb} {l : Lc} {ρ : Rho} {a b e : Expr} {es : List Expr} {ds : List DV} {d : DV} {C : Addr} {gs : Fds} {hss : List Fds} {eqf : Fds → Bool} {R : List DV → DV → Prop} {R' : List DV → List (Str × DV) → Prop} {pos p : Pos} {k : Nat} {x : Str}
end
end PD

/-! != of dicts, l * n, len with a bound. -/
namespace MX
open PySem PySem.W
open Sem (wp)
section
variable {prog : Program} {w : World} {A : Around} {E : Value → Shared → Prop} {s : Shared}
end
end MX
namespace PD
open PySem PySem.Spec PyProof.Rows L2 MX PySem.W
section
variable {g : Gb} {n : Nat} {l : Lc} {ρ : Rho} {a b e : Expr} {es : List Expr} {pos p : Pos} {fl fl2 : List (DV × Int)} {xs ds : List DV} {da db d : DV} {k : Nat} {x : Bool} {K : PySem.W.Frag} {ta tb : TE}
/-- l * n, l new -/
theorem rpa_rep {S : Hp} {vs : List V} (r : RpA K S vs xs) : ∀ k : Nat, RpA K S (List.replicate k vs).flatten (List.replicate k xs).flatten
  | 0 => .nil
  | k + 1 => by
    rw [List.replicate_succ, List.replicate_succ, List.flatten_cons, List.flatten_cons]
    exact r.append (rpa_rep r k)
theorem el_rep (ha : EvL K ta ρ xs) (hb : EvD K tb ρ (.int (k : Int))) (hz : xs.length * k ≤ 100000) (hk : k ≤ 100000) : EvL K (tOp rRep ta tb) ρ (List.replicate k xs).flatten := fun H0 σ S H e n Q q =>
  ha H0 σ S H e n _ fun p vs S1 H1 hp g1 nS hh r => hb H0 σ S1 H1 g1.sub (n.go g1) _ fun v S2 H2 g2 r2 => by
    cases r2
    have g := g1.tr g2
    refine ⟨p, (k : Int), vs, rfl, rfl, g2.h _ _ hh, by omega, by omega, by rw [r.len, Int.toNat_natCast]; exact Nat.le_trans hz (by decide), fun p2 hp2 => ?_⟩
    rw [Int.toNat_natCast]
    exact q p2 _ S2 _ (g.h.free hp2) (g.chg (g.sub.free hp2) (g.h.free hp2)) (g.sub.free hp2) upd_same (rpa_rep (r.up g2.s) k)
theorem dl_rep (ha : DL g l a ρ xs) (hb : DE g l b ρ (.int (k : Int))) (hz : xs.length * k ≤ 100000) (hk : k ≤ 100000) : DL g l (.BinOp a .Mult b pos) ρ (List.replicate k xs).flatten := DL.by _ (fun X o => pe_op op_rep (UE.pe o a) (UE.pe o b)) (el_rep ha hb hz hk)
end
section
variable {X : Cx} {n : Nat} {x : Str} {id : String} {p pos : Pos} {e : Expr} {es : List Expr} {t : TA} {r : List V → Hp → VK → Prop}
end
section
variable {g : Gb} {n : Nat} {l : Lc} {ρ : Rho} {a b e : Expr} {pos p : Pos} {ds : List DV} {da db : DV} {x : Bool}
end
end PD

/-! t * k for a tuple; _law_bad_part. -/
namespace PD
open PySem PySem.Spec PyProof.Rows L2
section
variable {g : Gb} {l : Lc} {ρ : Rho} {a b : Expr} {pos : Pos} {K : PySem.W.Frag} {xs : List DV} {k : Nat}
end
end PD
namespace SP
open PySem PySem.Spec PyProof.Rows L2 PD
section
variable {g : Gb}
end
end SP

/-! A class whose __init__ raises; File, where a part is not allowed. -/
namespace PD
open PySem PySem.Spec PyProof.Rows L2
section
variable {X : Cx} {CX : CXT} {k n : Nat} {f C : Addr} {fd : FuncData} {ps ks : List Str} {sp : Sp} {E : L2.St → XK} {x : Str} {p pos : Pos} {e : Expr} {es : List Expr} {kws : List Keyword} {t tk : TA} {gg : List Value → List Value → List Value} {gV : List V → List V → List V}
end
section
variable {g : Gb} {l : Lc} {ρ : Rho} {e : Expr} {es : List Expr} {pos p : Pos} {ds es' : List DV} {C C' : Addr} {gs : List (Str × DV)} {n : Str} {kws : List Keyword}
end
end PD
namespace SP
open PySem PySem.Spec PyProof.Rows L2 PD
section
variable {g : Gb} {C CB : Addr} {txt : Str}
/-! _law_made -/
end
end SP

/-! Beside a mutable thing: values, or exceptions with attributes; an object of plain data as such a thing. -/
namespace PD
open PySem PySem.Spec PyProof.Rows L2
/-- what may be raised -/
abbrev Zs := Addr → List (Str × DV) → Prop
def OkY (K : PySem.W.Frag) (S0 H0 B : Hp) (W : WX) (Z : Zs) : Prop := ∀ C gs cls d ρ m σ S H, Z C gs → Sm K S0 H0 B σ S H ρ m → ExD K S C gs cls d → W cls d σ H
def StY (K : PySem.W.Frag) (tz : WX → TS) (ρ : Rho) (m : Mo) (E : Pm) (Z : Zs) : Prop := ∀ S0 H0 B σ S H D W, Sm K S0 H0 B σ S H ρ m → Okm K S0 H0 B D E → OkY K S0 H0 B W Z → tz W D σ H
def EvY (K : PySem.W.Frag) (tz : WX → TE) (ρ : Rho) (m : Mo) (R : DV → Mo → Prop) (Z : Zs) : Prop := ∀ S0 H0 B σ S H W, Sm K S0 H0 B σ S H ρ m → OkY K S0 H0 B W Z → ∀ Q : VK, (∀ d m' v S' H', R d m' → Sm K S0 H0 B σ S' H' ρ m' → Ex S S' → Rp K S' v d → Q v H') → tz W σ H Q
/-- a promise over data and a mutable thing: a value or an exception -/
def spY (K : PySem.W.Frag) (A : Mo → List DV → (DV → Mo → Prop) → Zs → Prop) : Sp := fun vs H Q E => ∃ S m ds R Z, Ex S H ∧ (∀ q, m.dom q → S q = none ∧ H q ≠ none) ∧ m.P S H ∧ RpA K S vs ds ∧ A m ds R Z ∧ (∀ d m' v S' H', R d m' → Bk m S H m' S' H' → Rp K S' v d → Q v H') ∧ ∀ C gs cls d m' S' H', Z C gs → Bk m S H m' S' H' → ExD K S' C gs cls d → E cls d H'
section
variable {K : PySem.W.Frag} {ρ ρ' : Rho} {m m' : Mo} {tz tu tw : WX → TS} {te : WX → TE} {t0 : TE} {ts : TS} {tt : TT} {E : Pm} {Z : Zs} {b : Bool} {R : DV → Mo → Prop} {d : DV}
theorem StY.of (h : StM K ts ρ m E) : StY K (fun _ => ts) ρ m E Z := fun S0 H0 B σ S H D W s o _ => h S0 H0 B σ S H D s o
theorem EvY.of (h : EvR K t0 ρ m R) : EvY K (fun _ => t0) ρ m R Z := fun S0 H0 B σ S H W s _ Q q => h S0 H0 B σ S H s Q q
theorem sty_seq (h : StY K tu ρ m { E with nx := fun ρ' m' => StY K tw ρ' m' E Z } Z) : StY K (fun W => tSeq (tu W) (tw W)) ρ m E Z := fun S0 H0 B σ S H D W s o z =>
  h S0 H0 B σ S H { D with nx := tw W D } W s ⟨fun ρ' m' σ' S' H' q s' => q S0 H0 B σ' S' H' D W s' o z, o.rt, o.bk, o.ct⟩ z
theorem sty_if (h : EvBU K tt ρ m b m') (h1 : b = true → StY K tu ρ m' E Z) (h2 : b = false → StY K tw ρ m' E Z) : StY K (fun W => tIfS tt (tu W) (tw W)) ρ m E Z := fun S0 H0 B σ S H D W s o z =>
  h S0 H0 B σ S H s _ fun S1 H1 s1 _ => by
    cases b with
    | true =>
      rw [if_pos rfl]
      exact h1 rfl S0 H0 B σ S1 H1 D W s1 o z
    | false =>
      rw [if_neg (by decide)]
      exact h2 rfl S0 H0 B σ S1 H1 D W s1 o z
theorem sty_while (I : Nat → Rho → Mo → Prop) (n0 : Nat) (h0 : I n0 ρ m)
    (hs : ∀ n ρ' m', I n ρ' m' → ∃ b m2, EvBU K tt ρ' m' b m2 ∧ (b = true → StY K tu ρ' m2 { nx := fun ρ2 m2 => ∃ k, k < n ∧ I k ρ2 m2, ct := fun ρ2 m2 => ∃ k, k < n ∧ I k ρ2 m2, bk := E.nx, rt := E.rt } Z) ∧ (b = false → E.nx ρ' m2)) : StY K (fun W => tWhile tt (tu W)) ρ m E Z := fun S0 H0 B σ S H D W s o z => by
  refine ⟨fun n σ2 H2 => ∃ ρ' m' S2, I n ρ' m' ∧ Sm K S0 H0 B σ2 S2 H2 ρ' m', ⟨n0, ρ, m, S, h0, s⟩, ?_⟩
  rintro n σ2 H2 ⟨ρ', m', S2, hI, s2⟩
  obtain ⟨b, m2, h1, h2, h3⟩ := hs n ρ' m' hI
  refine h1 S0 H0 B σ2 S2 H2 s2 _ fun S3 H3 s3 _ => ?_
  cases b with
  | true =>
    rw [if_pos rfl]
    refine ⟨fun σ' H' => ∃ k, k < n ∧ ∃ ρ' m' S2, I k ρ' m' ∧ Sm K S0 H0 B σ' S2 H' ρ' m', fun σ' H' ⟨k, hk, z⟩ => ⟨k, hk, z⟩, h2 rfl S0 H0 B σ2 S3 H3 _ W s3 ⟨?_, o.rt, o.nx, ?_⟩ z⟩
    · exact fun ρ5 m5 σ5 S5 H5 ⟨k, hk, q⟩ s5 => ⟨k, hk, ρ5, m5, S5, q, s5⟩
    · exact fun ρ5 m5 σ5 S5 H5 ⟨k, hk, q⟩ s5 => ⟨k, hk, ρ5, m5, S5, q, s5⟩
  | false =>
    rw [if_neg (by decide)]
    exact o.nx ρ' m2 σ2 S3 H3 (h3 rfl) s3
theorem sty_asg {i : Nat} (h : EvY K te ρ m R Z) (q : ∀ d m', R d m' → E.nx (ρ.set i (.val d)) m') : StY K (fun W => tAsg (te W) (gName i)) ρ m E Z := fun S0 H0 B σ S H D W s o z =>
  h S0 H0 B σ S H W s z _ fun d m' v S1 H1 r s1 e1 r1 => o.nx _ m' _ S1 H1 (q d m' r) (s1.set r1)
theorem sty_drop (h : EvY K te ρ m R Z) (q : ∀ d m', R d m' → E.nx ρ m') : StY K (fun W => tDrop (te W)) ρ m E Z := fun S0 H0 B σ S H D W s o z =>
  h S0 H0 B σ S H W s z _ fun d m' v S1 H1 r s1 e1 r1 => o.nx _ m' _ S1 H1 (q d m' r) s1
theorem sty_ret (h : EvY K te ρ m R Z) (q : ∀ d m', R d m' → E.rt d m') : StY K (fun W => tRet (te W)) ρ m E Z := fun S0 H0 B σ S H D W s o z =>
  h S0 H0 B σ S H W s z _ fun d m' v S1 H1 r s1 e1 r1 => o.rt d m' v S1 H1 (q d m' r) ⟨s1.g, s1.d, r1⟩
/-- a method -/
theorem evy_meth {ta : TA} {A : Mo → List DV → (DV → Mo → Prop) → Zs → Prop} {n : Str} {p CS : Addr} {ds : List DV} (hI : InsAt m p CS n) (h : EvD K t0 ρ (.adr p)) (ha : EvA K ta ρ ds) (hA : A m (.adr p :: ds) R Z) : EvY K (fun W => tMethZ CS n (spY K A) (WE W) t0 ta) ρ m R Z := fun S0 H0 B σ S H W s z Q q =>
  h _ σ S H s.g.sub s.n _ fun v S1 H1 g1 r1 => by
    have s1 := s.go g1
    cases r1
    obtain ⟨dx, fs, hp, hl⟩ := hI S1 H1 s1.d.p
    refine ⟨p, dx, fs, rfl, hp, hl, ha _ σ S1 H1 s1.g.sub s1.n _ fun vs S2 H2 g2 r2 => ?_⟩
    have s2 := s1.go g2
    exact ⟨S2, m, _, R, Z, s2.g.sub, fun q y => ⟨(s2.d.z q y).2.2.1, (s2.d.z q y).2.2.2⟩, s2.d.p, .cons (.adr p) r2, hA, fun d m' v S3 H3 hR b r3 => q d m' v S3 H3 hR (s2.back b) ((g1.s.tr g2.s).tr b.s) r3, fun C gs cls d m' S3 H3 hz b x3 => z C gs cls d ρ m' σ S3 H3 hz (s2.back b) x3⟩
/-- raise C(e) -/
theorem sty_raise1 {ta : TA} {C : Addr} {txt fld : Str} (h : EvA K ta ρ [d]) (hf : fitD txt d) (tzz : (Str.empty ++ txt).length ≤ sizeLine) (q : Z C [(fld, d)]) : StY K (fun W _ σ H => tMkO C (spO C txt fld) [] ta σ H fun cls d H' => W cls d σ H') ρ m E Z := fun S0 H0 B σ S H D W s k z =>
  h _ σ S H s.g.sub s.n _ fun vs S1 H1 g1 r1 => by
    have s1 := s.go g1
    cases r1 with
    | cons r t =>
      cases t
      rename_i y
      refine ⟨by show 1 ≤ 1000; decide, fun a ha => ?_⟩
      have fv : fitV txt y := by
        cases r <;> first | exact hf | exact hf.elim
      refine ⟨a, y, rfl, fv, tzz, upd_same, fun dx hd hne => ⟨rfl, dx, [(fld, y)], upd_same, ?_, ?_, ?_⟩⟩
      · rw [upd_ne hne, upd_same]
      · rw [upd_ne hne] at hd
        exact hd
      · have hd1 : H1 dx = none := by rw [upd_ne hne] at hd; exact hd
        have e : upd (del (upd (upd (upd H1 a (exo a C none)) dx (exd dx [(fld, y)])) a (exo a C (some dx))) a) dx (.xd [(fld, y)]) = upd H1 dx (.xd [(fld, y)]) := by
          funext b
          by_cases h1 : b = dx
          · rw [h1, upd_same, upd_same]
          · rw [upd_ne h1, upd_ne h1]
            by_cases h2 : b = a
            · rw [h2, del_same, ha]
            · rw [del_ne h2, upd_ne h2, upd_ne h1, upd_ne h2]
        rw [e]
        have g2 := Go.up (o := .xd [(fld, y)]) s1.g.sub hd1
        exact z C [(fld, d)] _ _ ρ m σ _ _ q (s1.go g2) ⟨rfl, .inr ⟨dx, _, rfl, upd_same, .cons (r.up g2.s) .nil⟩⟩
/-- a new instance, whose __init__ may raise -/
def tMakeY (C : Addr) (sp : Sp) (E : L2.St → XK) (t : TA) : TE := fun σ H Q => t σ H fun vs H1 => ∀ x dx, H1 x = none → H1 dx = none → dx ≠ x → sp (.ref x :: vs) (upd (upd H1 dx (.own x)) x (.ins C dx [])) (fun v H2 => v = .non ∧ Q (.ref x) H2) (E σ)
theorem sm_new {S0 H0 B S H : Hp} {σ : L2.St} {C x dx : Addr} (s : Sm K S0 H0 B σ S H ρ .emp) (nx : H x = none) (ndx : H dx = none) (nex : dx ≠ x) : Sm K S0 H0 B σ S (upd (upd H dx (.own x)) x (.ins C dx [])) ρ (newMo C x) := by
  have sx : S x = none := s.g.sub.free nx
  have e1 : Ex H (upd (upd H dx (.own x)) x (.ins C dx [])) := fun a u z => by
    rw [upd_ne (ne_of_none z nx), upd_ne (ne_of_none z ndx)]
    exact z
  have h0 : H0 x = none := s.h0 (.inr nx)
  have em : ∀ a, a ≠ x → mix (newMo C x) H0 (upd (upd H dx (.own x)) x (.ins C dx [])) a = H0 a := fun a w => mix_out w
  have g9 := s.g
  rw [mix_emp] at g9
  have n9 := s.n
  rw [mix_emp] at n9
  refine ⟨⟨s.g.s, fun a u z => ?_, s.g.sub.tr e1, fun a u z w => ?_⟩, s.b, ?_, ⟨fun a z => ?_, dx, upd_same⟩⟩
  · by_cases w : a = x
    · rw [mix_in (m := newMo C x) w] at z; exact z
    · rw [em a w] at z
      exact e1 a u (g9.h a u z)
  · have ne : a ≠ x := ne_of_none z sx
    rw [em a ne]
    exact g9.new a u z w
  · refine ⟨n9.len, fun i v y a c => ?_, n9.sep⟩
    have k := n9.at_ i v y a c
    cases y with
    | un => trivial
    | exo _ _ _ => exact k
    | val d' => exact k
    | ownD d' =>
      obtain ⟨p', o', k1, k2, k3, k4, k5⟩ := k
      have ne : p' ≠ x := ne_of_none k4 nx
      exact ⟨p', o', k1, by rw [em p' ne]; exact k2, k3, e1 _ _ k4, k5⟩
  · have z' : a = x := z
    subst z'
    refine ⟨h0, ?_, sx, by rw [upd_same]; exact fun w => by cases w⟩
    cases e : S0 a with
    | none => rfl
    | some u =>
      have := s.g.s a u e
      rw [sx] at this
      cases this
theorem evy_make {ta : TA} {C : Addr} {ds : List DV} {A : Mo → List DV → (DV → Mo → Prop) → Zs → Prop} {R : Addr → Mo → Prop} (ha : EvA K ta ρ ds) (hA : ∀ x, A (newMo C x) (.adr x :: ds) (fun d m' => d = .non ∧ R x m') Z) : EvY K (fun W => tMakeY C (spY K A) (WE W) ta) ρ .emp (fun d m' => ∃ x, d = .adr x ∧ R x m') Z := fun S0 H0 B σ S H W s z Q q =>
  ha _ σ S H s.g.sub s.n _ fun vs S1 H1 g1 r1 => fun x dx nx ndx nex => by
    have s1 := s.go g1
    have s2 := sm_new (C := C) s1 nx ndx nex
    have e1 : Ex H1 (upd (upd H1 dx (.own x)) x (.ins C dx [])) := fun a u z => by
      rw [upd_ne (ne_of_none z nx), upd_ne (ne_of_none z ndx)]
      exact z
    refine ⟨S1, newMo C x, _, _, Z, s1.g.sub.tr e1, fun a z => ⟨(s2.d.z a z).2.2.1, (s2.d.z a z).2.2.2⟩, s2.d.p, .cons (.adr x) r1, hA x, fun d m' v S3 H3 ⟨ed, hR⟩ b r3 => ?_, fun C gs cls d m' S3 H3 hz b x3 => z C gs cls d ρ m' σ S3 H3 hz (s2.back b) x3⟩
    subst ed
    cases r3
    exact ⟨rfl, q (.adr x) m' _ S3 H3 ⟨x, rfl, hR⟩ (s2.back b) (g1.s.tr b.s) (.adr x)⟩
end
end PD

/-! The same by syntax; an instance of plain data that is changed. -/
namespace PD
open PySem PySem.Spec PyProof.Rows L2
def putG (f : Str) (d : DV) : List (Str × DV) → List (Str × DV)
  | [] => [(f, d)]
  | (k, x) :: r => if k = f then (k, d) :: r else (k, x) :: putG f d r
theorem rpf_put {K : PySem.W.Frag} {S : Hp} {f : Str} {v : V} {d : DV} (r : Rp K S v d) : ∀ {fs : List (Str × V)} {gs : List (Str × DV)}, RpF K S fs gs → RpF K S (putF f v fs) (putG f d gs)
  | _, _, .nil => .cons r .nil
  | _, _, .cons (n := n) a t => by
    unfold putF putG
    by_cases h : n = f
    · rw [if_pos h, if_pos h]; exact .cons r t
    · rw [if_neg h, if_neg h]; exact .cons a (rpf_put r t)
theorem rpf_len {K : PySem.W.Frag} {S : Hp} : ∀ {fs : List (Str × V)} {gs : List (Str × DV)}, RpF K S fs gs → fs.length = gs.length
  | _, _, .nil => rfl
  | _, _, .cons _ t => congrArg (· + 1) (rpf_len t)
/-- an instance of plain data -/
def insM (K : PySem.W.Frag) (C p : Addr) (gs : List (Str × DV)) : Mo := ⟨fun q => q = p, fun S H => ∃ dx fs, H p = some (.ins C dx fs) ∧ RpF K S fs gs, fun S H S' H' e k ⟨dx, fs, h, r⟩ => ⟨dx, fs, by rw [k p rfl]; exact h, r.up e⟩⟩
theorem insM_at {K : PySem.W.Frag} {C p : Addr} {gs : List (Str × DV)} {n : Str} (h : gs.lookup n = none) : InsAt (insM K C p gs) p C n := fun S H ⟨dx, fs, a, r⟩ => ⟨dx, fs, a, r.no h⟩
theorem insM_vw {K : PySem.W.Frag} {C p : Addr} {gs : List (Str × DV)} : Vw K (insM K C p gs) p (.obj C gs) where
  v := fun S H hz hp => by
    obtain ⟨dx, fs, a, r⟩ := hp
    refine ⟨[], fun q es e => (nomatch e), fun q es e => (nomatch e), fun ods => ?_⟩
    have e1 : Ex S (mix (insM K C p gs) S (lockA H [] ods)) := fun b u y => by
      rw [mix_out (fun z => by rw [hz b z] at y; cases y)]; exact y
    refine .obj (dx := dx) (fs := fs) ?_ (r.up e1)
    rw [mix_in (m := insM K C p gs) (show (insM K C p gs).dom p from rfl), lockA_out (by rfl)]
    exact a
  nt := fun S H q xs ⟨dx, fs, a, r⟩ hq h => by
    have hq' : q = p := hq
    subst hq'
    rcases h with h | ⟨o, h⟩ <;> (rw [a] at h; cases h)
theorem sm_ins0 {K : PySem.W.Frag} {S0 H0 B S H : Hp} {σ : L2.St} {ρ : Rho} {C x : Addr} (s : Sm K S0 H0 B σ S H ρ (newMo C x)) : Sm K S0 H0 B σ S H ρ (insM K C x []) :=
  ⟨s.g, s.b, s.n, ⟨s.d.z, let ⟨dx, h⟩ := s.d.p; ⟨dx, [], h, .nil⟩⟩⟩
section
variable {K : PySem.W.Frag} {ρ : Rho} {C p : Addr} {gs : List (Str × DV)} {E : Pm} {te : TE} {f : Str} {d : DV} {i : Nat}
/-- self.f = e -/
theorem stm_fld (c : Cls K C) (n : NoAttr K C f) (hi : ρ[i]? = some (.val (.adr p))) (h : EvD K te ρ d) (hl : gs.length < 900) (q : E.nx ρ (insM K C p (putG f d gs))) : StM K (sFld K (tVar i) te f) ρ (insM K C p gs) E := fun S0 H0 B σ S H D s ok =>
  h _ σ S H s.g.sub s.n _ fun v S1 H1 g1 r1 => by
    have s1 := s.go g1
    obtain ⟨u, hu, r⟩ := s1.n.val hi
    cases r
    obtain ⟨dx, fs, a, rf⟩ := s1.d.p
    refine ⟨_, hu, p, C, dx, fs, rfl, a, c, n, by rw [rpf_len rf]; omega, ?_⟩
    exact ok.nx ρ _ σ S1 _ q (SP.Sm.upd' (m' := insM K C p (putG f d gs)) s1 (show (insM K C p gs).dom p from rfl) (fun q h => h) ⟨dx, _, upd_same, rpf_put r1 rf⟩)
/-- self.f = e, where the instance is new -/
theorem stm_fld0 (c : Cls K C) (n : NoAttr K C f) (hi : ρ[i]? = some (.val (.adr p))) (h : EvD K te ρ d) (q : E.nx ρ (insM K C p [(f, d)])) : StM K (sFld K (tVar i) te f) ρ (newMo C p) E := fun S0 H0 B σ S H D s ok =>
  stm_fld (gs := []) c n hi h (by show 0 < 900; decide) q S0 H0 B σ S H D (sm_ins0 s) ok
/-- self.f += k -/
theorem stm_aug {k j : Int} (c : Cls K C) (n : NoAttr K C f) (hi : ρ[i]? = some (.val (.adr p))) (hl : gs.lookup f = some (.int k)) (hn : gs.length < 900) (q : E.nx ρ (insM K C p (putG f (.int (k + j)) gs))) : StM K (sFldAug K (tVar i) (tC (.int j)) rAdd f) ρ (insM K C p gs) E := fun S0 H0 B σ S H D s ok => by
  obtain ⟨u, hu, r⟩ := s.n.val hi
  cases r
  obtain ⟨dx, fs, a, rf⟩ := s.d.p
  obtain ⟨v, hv, rv⟩ := rf.look hl
  cases rv
  refine ⟨_, hu, p, C, dx, fs, _, rfl, a, c, n, hv, k, j, rfl, rfl, dx, fs, a, by rw [rpf_len rf]; omega, ?_⟩
  exact ok.nx ρ _ σ S _ q (SP.Sm.upd' (m' := insM K C p (putG f (.int (k + j)) gs)) s (show (insM K C p gs).dom p from rfl) (fun q h => h) ⟨dx, _, upd_same, rpf_put (.int _) rf⟩)
end
section
variable {K : PySem.W.Frag} {ρ : Rho} {m m' : Mo} {tu : WX → TS} {te : WX → TE} {E : Pm} {Z : Zs} {R : DV → Mo → Prop} {i : Nat} {d : DV} {ds : List DV}
theorem sty_freeze (hi : ρ[i]? = some (.ownD d)) (h : StY K tu (ρ.set i (.val d)) m E Z) : StY K tu ρ m E Z := fun S0 H0 B σ S H D W s o z => by
  obtain ⟨p, ob, hp, h0, hs, hh, r⟩ := s.n.ownD hi
  have nd : ¬ m.dom p := fun z => by
    rw [mix_in z, hh] at h0
    cases h0
  refine h S0 H0 B σ (upd S p ob) H D W ⟨s.g.frz hs h0 hh, s.b.tr (Ex.new hs), s.n.lend hi hp hs r, ?_⟩ o z
  refine ⟨fun x hx => ?_, m.stb _ _ _ _ (Ex.new hs) (fun _ _ => rfl) s.d.p⟩
  obtain ⟨a, c, c', n⟩ := s.d.z x hx
  exact ⟨a, c, by rw [upd_ne (show x ≠ p from fun z => nd (by rw [← z]; exact hx))]; exact c', n⟩
/-- x = [e] -/
theorem sty_setL1 (h : EvY K te ρ m R Z) (q : ∀ d m', R d m' → E.nx (ρ.set i (.own [d])) m') : StY K (fun W => tAsg (tLst (tCons (te W) tNil)) (gName i)) ρ m E Z := fun S0 H0 B σ S H D W s o z =>
  h S0 H0 B σ S H W s z _ fun d m' v S1 H1 r s1 e1 r1 => by
    refine ⟨by show 1 ≤ sizeLine; decide, fun p hp => ?_⟩
    have x1 : Ex H1 (upd H1 p (.lst [v])) := Ex.new hp
    have mp : mix m' H0 H1 p = none := s1.g.h.free hp
    have sp := s1.g.sub.free hp
    have s2 := s1.go (Go.side s1.g.sub x1)
    refine o.nx _ m' _ S1 _ (q d m' r) ⟨s2.g, s2.b, ?_, s2.d⟩
    refine s2.n.setOwn (by rw [s1.d.mix x1]; exact mp) sp upd_same (.cons r1 .nil) fun j hj es' hes y => ?_
    obtain ⟨p', vs', e1, _, _, h2, _⟩ := s1.n.ownD hes
    rw [e1] at y
    cases y
    rw [hp] at h2
    cases h2
theorem sm_chg {S0 H0 B S H : Hp} {σ : L2.St} {p : Addr} {vs : List V} {es : List DV} (s : Sm K S0 H0 B σ S H ρ m) (hi : ρ[i]? = some (.own ds)) (hp : σ[i]? = some (some (.ref p))) (r : RpA K S vs es) : Sm K S0 H0 B σ S (upd H p (.lst vs)) (ρ.set i (.own es)) m := by
  obtain ⟨p', vs', hp', h0, hs, hh, r'⟩ := s.n.own hi
  rw [hp] at hp'
  cases hp'
  have nd : ¬ m.dom p := fun z => by
    rw [mix_in z, hh] at h0
    cases h0
  have em : mix m H0 (upd H p (.lst vs)) = mix m H0 H := funext fun q => by
    by_cases z : m.dom q
    · rw [mix_in z, mix_in z, upd_ne (fun y => nd (by rw [← y]; exact z))]
    · rw [mix_out z, mix_out z]
  refine ⟨by rw [em]; exact s.g.chg hs h0, s.b, by rw [em]; exact s.n.chg hi hp hs r, ⟨fun q z => ?_, m.stb _ _ _ _ (Ex.rf S) (fun q z => by rw [upd_ne (fun y => nd (by rw [← y]; exact z))]) s.d.p⟩⟩
  obtain ⟨a, b, c, e⟩ := s.d.z q z
  exact ⟨a, b, c, by rw [upd_ne (fun y => nd (by rw [← y]; exact z))]; exact e⟩
/-- x.append(e) -/
theorem sty_append (hi : ρ[i]? = some (.own ds)) (h : EvY K te ρ m R Z) (hl : ds.length < 100000) (q : ∀ d m', R d m' → E.nx (ρ.set i (.own (ds ++ [d]))) m') : StY K (fun W => tDrop (tBM K "list" rAppend (tVar i) (tCons (te W) tNil))) ρ m E Z := fun S0 H0 B σ S H D W s o z => by
  obtain ⟨p, vs, hp, h0, hs, hh, r⟩ := s.n.own hi
  refine ⟨.ref p, hp, .inl ⟨rfl, vs, .inl (.inl hh)⟩, h S0 H0 B σ S H W s z _ fun d m' v S1 H1 hr s1 e1 r1 => ?_⟩
  obtain ⟨p', vs', hp', h0', hs', hh', r'⟩ := s1.n.own hi
  rw [hp] at hp'
  cases hp'
  refine ⟨p, vs', v, rfl, rfl, hh', Nat.lt_of_lt_of_le (by rw [r'.len]; exact hl) (by decide), ?_⟩
  exact o.nx _ m' _ S1 _ (q d m' hr) (sm_chg s1 hi hp (r'.snoc r1))
end
/-! ### by syntax -/
section
variable (g : Gb) (l : Lc)
def DSY (st : Stmt) (ρ : Rho) (m : Mo) (E : Pm) (Z : Zs) : Prop := StY g.K (USZ g l st) ρ m E Z
def DSsY (sts : List Stmt) (ρ : Rho) (m : Mo) (E : Pm) (Z : Zs) : Prop := StY g.K (USsZ g l sts) ρ m E Z
def DEY (e : Expr) (ρ : Rho) (m : Mo) (R : DV → Mo → Prop) (Z : Zs) : Prop := EvY g.K (UEZ g l e) ρ m R Z
end
section
variable {X : Cx} {CX : CXT} {k : Nat} {f C : Addr} {fd : FuncData} {ps : List Str} {sp : Sp} {E : L2.St → XK} {x : Str} {p pos : Pos} {e : Expr} {es : List Expr} {t : TA}
theorem pe_makeY (M : Mk X.K C f) (F : FnOk X.prog X.w X.K X.mg X.base CX k f fd ps sp) (hr : Room (k + 1) X.A) (hg : Gl X x) (hm : X.mg x = some (.ref C)) (hb : L2.Binds X.K fd ps []) (hx : ∀ σ, PassesAt CX X σ (E σ))
    (ha : PA X (e :: es) t) (hdb : (x == ("__debug__" : Str)) = false := by decide) (he : starEach (e :: es) X.env = (false, eval e X.env) :: starEach es X.env := by rfl) (hpl : (backTo pos (starEach es X.env)).any (·.1) = false := by rfl) :
    PE X (.Call (.Name x p) (e :: es) [] pos) (tMakeY C sp E t) := by
  refine ⟨fun pins s σ H Q I h => wpAny_Call_Name_kw (ld_glob I hg hm (PySem.W.callWith_K (h₀ := X.base) I.ok.mod.kin M.kp (thn (ha.run pos pins s σ H _ I h) fun us s1 ⟨vs, H1, I1, r, q⟩ => ⟨I1.kIn, ?_⟩) he hpl) hdb)⟩
  have at2 := q (s1.heap.objs.size + 1) s1.heap.objs.size (I1.hok.fresh (Nat.le_succ _)) (I1.hok.fresh (Nat.le_refl _)) (Nat.ne_of_lt (Nat.lt_succ_self _))
  have J := Inv.made (C := C) I1
  have self1 : Vals (V.ref (s1.heap.objs.size + 1) :: vs) (Value.ref (s1.heap.objs.size + 1) :: us) := .cons rfl r
  have lp : us.length + 1 = ps.length := by
    have := F.len _ _ _ _ at2
    rw [List.length_cons, r.length] at this
    exact this
  have bt := hb _ (Value.ref (s1.heap.objs.size + 1) :: us) J.kIn (by rw [List.append_nil, List.length_cons]; exact lp)
  rw [List.append_nil] at bt
  refine wpAny_call (make_map (f := f) I1.kIn M.makes M.init (beq_iff_eq.mp M.fn) (codeAny_mono (F.run _ X.stack _ _ ⟨Value.ref (s1.heap.objs.size + 1) :: us, []⟩ (Value.ref (s1.heap.objs.size + 1) :: us) _ _ (E σ) (hr.make C us []) (J.env0.make C us []) bt self1 at2) fun w s' hq => ?_))
  match w, hq with
  | .error e, hq => exact hx σ pins _ _ e s' J hq
  | .ok (.ret u), hq =>
    obtain ⟨v, H', I3, rv, ev, q3⟩ := J.after hq
    subst ev
    exact ⟨rv, ⟨V.ref (s1.heap.objs.size + 1), H', I3, rfl, q3⟩⟩
  | .ok .next, hq => exact False.elim hq
  | .ok .brk, hq => exact False.elim hq
  | .ok .cont, hq => exact False.elim hq
end
/-- a method that may raise; a class whose __init__ may -/
structure MeY (g : Gb) (k : Nat) (CS : Addr) (n : Str) (A : Mo → List DV → (DV → Mo → Prop) → Zs → Prop) : Prop where
  ex : ∃ f, Meth g.K CS n f ∧ ∃ fd ps, FnOk g.P g.w g.K g.mg g.base (L2.CX g.P g.w) k f fd ps (spY g.K A) ∧ L2.Binds g.K fd ps []
structure MkY (g : Gb) (k : Nat) (C : Addr) (x : Str) (A : Mo → List DV → (DV → Mo → Prop) → Zs → Prop) : Prop where
  mg : g.mg x = some (.ref C)
  ex : ∃ f fd ps, Mk g.K C f ∧ FnOk g.P g.w g.K g.mg g.base (L2.CX g.P g.w) k f fd ps (spY g.K A) ∧ L2.Binds g.K fd ps []
section
variable {g : Gb} {l : Lc} {ρ ρ' : Rho} {m m' : Mo} {c o e : Expr} {es : List Expr} {st : Stmt} {sts body orelse : List Stmt} {E : Pm} {Z : Zs} {C CS p : Addr} {b : Bool} {pos apos p1 p2 p3 py : Pos} {n f : Str} {d : DV} {ds : List DV} {R : DV → Mo → Prop} {gs : List (Str × DV)}
theorem DSY.by (t : WX → TS) (h : ∀ X W, OfZ g l X W → PS X st (t W)) (v : StY g.K t ρ m E Z) : DSY g l st ρ m E Z := fun S0 H0 B σ S H D W s k z => ⟨t W, fun X ok => h X W ok, v S0 H0 B σ S H D W s k z⟩
theorem DSsY.by (t : WX → TS) (h : ∀ X W, OfZ g l X W → PSs X sts (t W)) (v : StY g.K t ρ m E Z) : DSsY g l sts ρ m E Z := fun S0 H0 B σ S H D W s k z => ⟨t W, fun X ok => h X W ok, v S0 H0 B σ S H D W s k z⟩
theorem DEY.by (t : WX → TE) (h : ∀ X W, OfZ g l X W → PE X e (t W)) (v : EvY g.K t ρ m R Z) : DEY g l e ρ m R Z := fun S0 H0 B σ S H W s k z => fun q => ⟨t W, fun X ok => h X W ok, v S0 H0 B σ S H W s k z q⟩
theorem DSY.of (h : DSM g l st ρ m E) : DSY g l st ρ m E Z := .by (fun _ => US g l st) (fun X W o => US.ps o.o st) (StY.of h)
theorem DSsY.of (h : DSsM g l sts ρ m E) : DSsY g l sts ρ m E Z := .by (fun _ => USs g l sts) (fun X W o => USs.pss o.o sts) (StY.of h)
theorem DEY.of (h : DER g l e ρ m R) : DEY g l e ρ m R Z := .by (fun _ => UE g l e) (fun X W o => UE.pe o.o e) (EvY.of h)
theorem dssy_cons (h : DSY g l st ρ m { E with nx := fun ρ' m' => DSsY g l sts ρ' m' E Z } Z) : DSsY g l (st :: sts) ρ m E Z := .by _ (fun X W o => pss_cons (USZ.ps o st) (USsZ.pss o sts)) (sty_seq h)
theorem dssy_one (h : DSY g l st ρ m E Z) : DSsY g l [st] ρ m E Z := .by _ (fun X W o => pss_one (USZ.ps o st)) h
theorem dssy_nil (h : E.nx ρ m) : DSsY g l [] ρ m E Z := .of (dssm_nil h)
theorem dssy_freeze (i : Nat) (hi : ρ[i]? = some (.ownD d)) (h : DSsY g l sts (ρ.set i (.val d)) m E Z) : DSsY g l sts ρ m E Z := sty_freeze hi h
theorem dsy_if (h : DTM g l c ρ m b m') (h1 : b = true → DSsY g l body ρ m' E Z) (h2 : b = false → DSsY g l orelse ρ m' E Z) : DSY g l (.If c body orelse pos) ρ m E Z := .by _ (fun X W o => ps_if (UT.pt o.o c) (USsZ.pss o body) (USsZ.pss o orelse)) (sty_if h h1 h2)
theorem dsy_while (I : Nat → Rho → Mo → Prop) (n0 : Nat) (h0 : I n0 ρ m)
    (hs : ∀ n ρ' m', I n ρ' m' → ∃ b m2, DTM g l c ρ' m' b m2 ∧ (b = true → DSsY g l body ρ' m2 { nx := fun ρ2 m2 => ∃ k, k < n ∧ I k ρ2 m2, ct := fun ρ2 m2 => ∃ k, k < n ∧ I k ρ2 m2, bk := E.nx, rt := E.rt } Z) ∧ (b = false → E.nx ρ' m2)) (hcl : l.cb = true := by rfl) : DSY g l (.While c body [] pos) ρ m E Z :=
  .by _ (fun X W o => ps_while (o.o.po hcl) (UT.pt o.o c) (USsZ.pss o body)) (sty_while I n0 h0 hs)
theorem dsy_set (i : Nat) (nd : l.N.Nodup) (h : DEY g l e ρ m R Z) (q : ∀ d m', R d m' → E.nx (ρ.set i (.val d)) m') (hN : l.N[i]? = some n := by rfl) (hx : Loc l.sc n := by first | exact Or.inl rfl | exact Or.inr rfl) (hf : l.fn n = true ∨ l.sc.names.lookup n = some .local := by first | exact .inl rfl | exact .inr rfl)
    (hs : ∀ env, swapsWith e (some (.Name n py)) pos.line env = pure false := by intro _; rfl) : DSY g l (.Assign [.Name n py] e pos) ρ m E Z :=
  .by _ (fun X W o => ps_set (i := i) (by rw [o.o.N]; exact nd) (by rw [o.o.N]; exact hN) (by rw [o.o.sc]; exact hx) (UEZ.pe o e) (hs _) (by rcases hf with h | h; exact .inl (o.o.fn _ h); exact .inr (by rw [o.o.sc]; exact h))) (sty_asg h q)
theorem dsy_ex (h : DEY g l e ρ m R Z) (q : ∀ d m', R d m' → E.nx ρ m') (hs : ∀ env, swapsWith e none pos.line env = pure false := by intro _; rfl) : DSY g l (.Expr e pos) ρ m E Z := .by _ (fun X W o => ps_expr (UEZ.pe o e) (hs _)) (sty_drop h q)
theorem dsy_ret (h : DEY g l e ρ m R Z) (q : ∀ d m', R d m' → E.rt d m') : DSY g l (.Return (some e) pos) ρ m E Z := .by _ (fun X W o => ps_ret (UEZ.pe o e)) (sty_ret h q)
theorem dsy_raise1 {txt fld : Str} (c : Xi g C n txt fld) (h : DE g l e ρ d) (hf : fitD txt d) (q : Z C [(fld, d)]) (hk : 2 ≤ l.k := by decide) (hg : GlN l n := by rfl) (hdb : (n == ("__debug__" : Str)) = false := by decide)
    (hs : ∀ env, starEach [e] env = [(false, eval e env)] := by intro _; rfl) (hcl : l.cb = true := by rfl) : DSY g l (.Raise (some (.Call (.Name n p1) [e] [] p3)) none pos) ρ m E Z := by
  obtain ⟨hm, T, ⟨fI, fd, nm, iC, tI, F1, hb⟩, tz⟩ := c
  exact .by (fun W _ σ H => tMkO C (spO C txt fld) [] (UA g l [e]) σ H fun cls d H' => W cls d σ H') (fun X W oz => have o := oz.o; ps_raise (o.calm hcl) oz.tk (pmk_oex (CX := CX0) (k := 1) (ds := []) (dvs := []) (by rw [o.K]; exact T) (by rw [o.K]; exact iC) (by rw [o.K]; exact tI) (by rw [o.prog, o.w, o.K, o.mg, o.base]; exact F1) ((o.room hcl).mono hk) (by rw [o.K]; exact hb) .nil pass0 (o.gl hg) (by rw [o.mg]; exact hm) (UA.pa o _) hdb (by rw [hs]; rfl) (by rfl)))
    (sty_raise1 (da_cons h da_nil (by intro env; rw [hs env]; rfl)) hf tz q)
theorem dsy_setL1 {x1 : Pos} (i : Nat) (nd : l.N.Nodup) (h : DEY g l e ρ m R Z) (q : ∀ d m', R d m' → E.nx (ρ.set i (.own [d])) m') (hN : l.N[i]? = some n := by rfl) (hx : Loc l.sc n := by first | exact Or.inl rfl | exact Or.inr rfl) (hf : l.fn n = true ∨ l.sc.names.lookup n = some .local := by first | exact .inl rfl | exact .inr rfl)
    (hs1 : ∀ env, starEach [e] env = (false, eval e env) :: starEach [] env := by intro _; rfl)
    (hs : ∀ env, swapsWith (.List [e] x1) (some (.Name n py)) pos.line env = pure false := by intro _; rfl) : DSY g l (.Assign [.Name n py] (.List [e] x1) pos) ρ m E Z :=
  .by (fun W => tAsg (tLst (tCons (UEZ g l e W) tNil)) (gName i)) (fun X W o => ps_set (i := i) (by rw [o.o.N]; exact nd) (by rw [o.o.N]; exact hN) (by rw [o.o.sc]; exact hx) (pe_lst (pa_cons (UEZ.pe o e) pa_nil (hs1 _))) (hs _) (by rcases hf with h | h; exact .inl (o.o.fn _ h); exact .inr (by rw [o.o.sc]; exact h))) (sty_setL1 h q)
theorem dsy_append (i : Nat) {cpos : Pos} (hi : ρ[i]? = some (.own ds)) (h : DEY g l e ρ m R Z) (hl : ds.length < 100000) (q : ∀ d m', R d m' → E.nx (ρ.set i (.own (ds ++ [d]))) m') (hN : l.N[i]? = some n := by rfl) (hv : Vis l.sc n := by first | exact Or.inl rfl | exact Or.inr (Or.inl rfl) | exact Or.inr (Or.inr rfl))
    (hd : (n == ("__debug__" : Str)) = false := by decide) (hcd : (n == ("__classdict__" : Str)) = false := by decide) (hst : ∀ env, starEach [e] env = [(false, eval e env)] := by intro _; rfl)
    (hbase : ∀ env, attributeBase (.Name n p2) ("append" : Str) env (eval (.Name n p2) env) = eval (.Name n p2) env := by intro _; rfl) (hline : (apos.endLine == cpos.line) = true := by rfl)
    (hfew : ∀ env, ((backTo cpos (starEach [e] env)).all (fun x => !x.1) && (backToKw cpos (keywordEach [] env)).all (fun x => x.1.isSome) && decide (([e] : List Expr).length + ([] : List Keyword).length + (if ([] : List Keyword).isEmpty then 0 else 1) < 30)) = true := by intro _; rfl)
    (hs : ∀ env, swapsWith (.Call (.Attribute (.Name n p2) "append" apos) [e] [] cpos) none pos.line env = pure false := by intro _; rfl) : DSY g l (.Expr (.Call (.Attribute (.Name n p2) "append" apos) [e] [] cpos) pos) ρ m E Z :=
  .by (fun W => tDrop (tBM g.K "list" rAppend (tVar i) (tCons (UEZ g l e W) tNil))) (fun X W oz => by
    have o := oz.o
    have he : PE X (.Call (.Attribute (.Name n p2) "append" apos) [e] [] cpos) (tBM X.K "list" rAppend (tVar i) (tCons (UEZ g l e W) tNil)) :=
      pe_bm PySem.F.plainAttrs_list PySem.F.slot_list_append PySem.F.type_list_append mt_append (pe_var (i := i) (by rw [o.N]; exact hN) (o.vis hv) hd hcd) (pa_cons (UEZ.pe oz e) pa_nil (by rw [hst]; rfl)) (hbase _) (hfew _) hline (by rw [hst]; rfl) (by rfl)
    rw [o.K] at he
    exact ps_expr he (hs _)) (sty_append hi h hl q)
theorem dey_meth {k : Nat} {pl : Env → Sem Bool} {A : Mo → List DV → (DV → Mo → Prop) → Zs → Prop} (c : Cls g.K CS) (M : MeY g k CS n A) (hI : InsAt m p CS n) (h : DE g l o ρ (.adr p)) (ha : DA g l (e :: es) ρ ds) (hA : A m (.adr p :: ds) R Z) (hk : k ≤ l.k := by decide)
    (hst : ∀ env, starEach (e :: es) env = (false, eval e env) :: starEach es env := by intro _; rfl) (hpl : ∀ env, (backTo pos (starEach es env)).any (·.1) = false := by intro _; rfl)
    (ht : ∀ env, eval (.Call (.Attribute o n apos) (e :: es) [] pos) env = (do
      let ov ← eval o env; standAt apos.atName; let (f, first) ← holding [ov] (getMethod ov n (pl env)); callWith pos f first (backTo pos (starEach (e :: es) env)) (backToKw pos (keywordEach [] env))) := by intro _; rfl) (hcl : l.cb = true := by rfl) : DEY g l (.Call (.Attribute o n apos) (e :: es) [] pos) ρ m R Z := by
  obtain ⟨f, hm, fd, ps, ok, hb⟩ := M.ex
  exact .by (fun W => tMethZ CS n (spY g.K A) (WE W) (UE g l o) (UA g l (e :: es))) (fun X W oz => have w := oz.o; pe_methZ (pl := pl _) (CX := L2.CX X.prog X.w) (k := k) (UE.pe w o) (by rw [w.K]; exact c) (by rw [w.K]; exact hm) (by rw [w.prog, w.w, w.K, w.mg, w.base]; exact ok) ((w.room hcl).mono hk) (by rw [w.K]; exact hb) (fun σ => passAt oz.tk σ) (UA.pa w _) (hst _) (hpl _) (ht _)) (evy_meth hI h ha hA)
theorem dey_meth0 {k : Nat} {pl : Env → Sem Bool} {A : Mo → List DV → (DV → Mo → Prop) → Zs → Prop} (c : Cls g.K CS) (M : MeY g k CS n A) (hI : InsAt m p CS n) (h : DE g l o ρ (.adr p)) (hA : A m [.adr p] R Z) (hk : k ≤ l.k := by decide)
    (ht : ∀ env, eval (.Call (.Attribute o n apos) [] [] pos) env = (do
      let ov ← eval o env; standAt apos.atName; let (f, first) ← holding [ov] (getMethod ov n (pl env)); callWith pos f first (backTo pos (starEach [] env)) (backToKw pos (keywordEach [] env))) := by intro _; rfl) (hcl : l.cb = true := by rfl) : DEY g l (.Call (.Attribute o n apos) [] [] pos) ρ m R Z := by
  obtain ⟨f, hm, fd, ps, ok, hb⟩ := M.ex
  exact .by (fun W => tMethZ CS n (spY g.K A) (WE W) (UE g l o) tNil) (fun X W oz => have w := oz.o; pe_methZ0 (pl := pl _) (CX := L2.CX X.prog X.w) (k := k) (UE.pe w o) (by rw [w.K]; exact c) (by rw [w.K]; exact hm) (by rw [w.prog, w.w, w.K, w.mg, w.base]; exact ok) ((w.room hcl).mono hk) (by rw [w.K]; exact hb) (fun σ => passAt oz.tk σ) (ht _)) (evy_meth hI h ea_nil hA)
theorem dey_make {k : Nat} {cp : Pos} {A : Mo → List DV → (DV → Mo → Prop) → Zs → Prop} {R : Addr → Mo → Prop} (M : MkY g k C n A) (ha : DA g l (e :: es) ρ ds) (hA : ∀ x, A (newMo C x) (.adr x :: ds) (fun d m' => d = .non ∧ R x m') Z) (hk : k + 1 ≤ l.k := by decide) (hg : GlN l n := by rfl) (hdb : (n == ("__debug__" : Str)) = false := by decide)
    (he : ∀ env, starEach (e :: es) env = (false, eval e env) :: starEach es env := by intro _; rfl) (hpl : ∀ env, (backTo pos (starEach es env)).any (·.1) = false := by intro _; rfl) (hcl : l.cb = true := by rfl) : DEY g l (.Call (.Name n cp) (e :: es) [] pos) ρ .emp (fun d m' => ∃ x, d = .adr x ∧ R x m') Z := by
  obtain ⟨hmg, f, fd, ps, mk, ok, hb⟩ := M
  exact .by (fun W => tMakeY C (spY g.K A) (WE W) (UA g l (e :: es))) (fun X W oz => have o := oz.o; pe_makeY (CX := L2.CX X.prog X.w) (k := k) (by rw [o.K]; exact mk) (by rw [o.prog, o.w, o.K, o.mg, o.base]; exact ok) ((o.room hcl).mono hk) (o.gl hg) (by rw [o.mg]; exact hmg) (by rw [o.K]; exact hb) (fun σ => passAt oz.tk σ) (UA.pa o _) hdb (he _) (hpl _)) (evy_make ha hA)
end
section
variable {g : Gb} {x qual : Str} {st : Stmt} {f : Addr} {fd : FuncData} {N ps : List Str} {k : Nat}
/-- a def with a mutable thing handed in, either outcome -/
theorem fn_okY {A : Mo → List DV → (DV → Mo → Prop) → Zs → Prop} (F : Fun g.K x qual st f fd) (S : FnScope N ps (defScope st)) (len : ∀ m ds R Z, A m ds R Z → ds.length = ps.length)
    (body : ∀ m ds R Z, A m ds R Z → DSsY g ⟨k, N, defScope st, fun _ => true, true, none⟩ (defBody st) (rho0 N ds) m { nx := fun _ m' => R .non m', rt := R } Z) : FnOk g.P g.w g.K g.mg g.base (L2.CX g.P g.w) (k + 1) f fd ps (spY g.K A) := by
  refine F.okX S (fun vs H Q E ⟨S0, m, ds, R, Z, e, _, _, ra, hA, _⟩ => by rw [ra.len]; exact len m ds R Z hA) (fun cdv A' outer s H vs Q E hr ⟨S0, m, ds, R, Z, e, hz, hp, ra, hA, q, z⟩ => ?_)
  refine ⟨USsZ g ⟨k, N, defScope st, fun _ => true, true, none⟩ (defBody st) (fun cls d _ H => E cls d H), USsZ.pss ⟨⟨rfl, rfl, rfl, rfl, rfl, rfl, rfl, fun _ _ => rfl, fun _ => rfl, fun _ => hr, hr.un, fun _ => passes_of rfl, fun _ _ _ h => by cases h⟩, takes_of rfl rfl rfl rfl, rfl, rfl⟩ _, ?_⟩
  refine body m ds R Z hA S0 (hidM m H) S0 _ S0 H _ _ ⟨by rw [mix_hid]; exact Go.rf e, Ex.rf _, en_start ra, ⟨fun q y => ⟨hidM_in y, (hz q y).1, (hz q y).1, (hz q y).2⟩, hp⟩⟩ ⟨fun ρ m' σ S1 H1 y s1 => ?_, fun d m' v S1 H1 y r1 => ?_, fun _ _ _ _ _ z => z.elim, fun _ _ _ _ _ z => z.elim⟩ fun C gs cls d ρ m' σ S1 H1 hz s1 x1 => z C gs cls d m' S1 H1 hz (bk_of s1.g s1.d) x1
  · exact q .non m' .non S1 H1 y (bk_of s1.g s1.d) .non
  · exact q d m' v S1 H1 y (bk_of r1.go r1.md) r1.rp
/-- what is left of a mutable thing that nobody holds any more -/
theorem go_drop {m : Mo} {S0 H0 S H : Hp} (g : Go S0 (mix m H0 H) S H) (d : Md m S0 H0 S H) (e : Ex S0 H0) : Go S0 H0 S H := by
  refine ⟨g.s, fun a u y => ?_, g.sub, fun a u y n => ?_⟩
  · have nd : ¬ m.dom a := fun w => by rw [(d.z a w).1] at y; cases y
    exact g.h a u (by rw [mix_out nd]; exact y)
  · have nd : ¬ m.dom a := fun w => by rw [(d.z a w).2.2.1] at y; cases y
    have := g.new a u y n
    rw [mix_out nd] at this
    exact this
/-- a def that makes such a thing for itself, either outcome -/
theorem fn_okYE {R : List DV → Out → Prop} (F : Fun g.K x qual st f fd) (S : FnScope N ps (defScope st)) (len : ∀ ds o, R ds o → ds.length = ps.length)
    (body : ∀ ds o, R ds o → DSsY g ⟨k, N, defScope st, fun _ => true, true, none⟩ (defBody st) (rho0 N ds) .emp { nx := fun _ _ => o = .val .non, rt := fun d _ => o = .val d } fun C gs => o = .exc C gs) : FnOk g.P g.w g.K g.mg g.base (L2.CX g.P g.w) (k + 1) f fd ps (spZ g.K R) := by
  refine F.okX S (fun vs H Q E ⟨S0, ds, o, e, ra, hR, _⟩ => by rw [ra.len]; exact len ds o hR) (fun cdv A outer s H vs Q E hr ⟨S0, ds, o, e, ra, hR, q, z⟩ => ?_)
  refine ⟨USsZ g ⟨k, N, defScope st, fun _ => true, true, none⟩ (defBody st) (fun cls d _ H => E cls d H), USsZ.pss ⟨⟨rfl, rfl, rfl, rfl, rfl, rfl, rfl, fun _ _ => rfl, fun _ => rfl, fun _ => hr, hr.un, fun _ => passes_of rfl, fun _ _ _ h => by cases h⟩, takes_of rfl rfl rfl rfl, rfl, rfl⟩ _, ?_⟩
  refine body ds o hR S0 H S0 _ S0 H _ _ ⟨by rw [mix_emp]; exact Go.rf e, Ex.rf _, by rw [mix_emp]; exact en_start ra, ⟨fun q y => y.elim, True.intro⟩⟩ ⟨fun ρ m' σ S1 H1 y s1 => ?_, fun d m' v S1 H1 y r1 => ?_, fun _ _ _ _ _ z => z.elim, fun _ _ _ _ _ z => z.elim⟩ fun C gs cls d ρ m' σ S1 H1 hz s1 x1 => z C gs cls d S1 H1 hz (go_drop s1.g s1.d e) x1
  · exact q .non y .non S1 H1 (go_drop s1.g s1.d e) .non
  · exact q d y v S1 H1 (go_drop r1.go r1.md e) r1.rp
end
/-! ### attributes of an instance of plain data -/
section
variable {g : Gb} {l : Lc} {ρ : Rho} {E : Pm} {C p : Addr} {gs : List (Str × DV)} {i : Nat} {f nm : Str} {d : DV} {e : Expr} {p1 p2 p3 p4 : Pos}
theorem dsm_fld (c : Cls g.K C) (n : NoAttr g.K C f) (i : Nat) (hi : ρ[i]? = some (.val (.adr p))) (h : DE g l e ρ d) (hl : gs.length < 900) (q : E.nx ρ (insM g.K C p (putG f d gs))) (hN : l.N[i]? = some nm := by rfl) (hv : Vis l.sc nm := by first | exact Or.inl rfl | exact Or.inr (Or.inl rfl) | exact Or.inr (Or.inr rfl))
    (hd : (nm == ("__debug__" : Str)) = false := by decide) (hcd : (nm == ("__classdict__" : Str)) = false := by decide) (hs : ∀ env, swapsWith e (some (.Attribute (.Name nm p1) f p2)) p4.line env = pure false := by intro _; rfl) : DSM g l (.Assign [.Attribute (.Name nm p1) f p2] e p4) ρ (insM g.K C p gs) E :=
  DSM.by (sFld g.K (tVar i) (UE g l e) f) (fun X x => by
    have := ps_fld (X := X) (o := .Name nm p1) (f := f) (pos' := p2) (pos := p4) (pe_var (i := i) (by rw [x.N]; exact hN) (x.vis hv) hd hcd) (UE.pe x e) (hs _)
    rw [x.K] at this
    exact this) (stm_fld c n hi h hl q)
theorem dsm_fld0 (c : Cls g.K C) (n : NoAttr g.K C f) (i : Nat) (hi : ρ[i]? = some (.val (.adr p))) (h : DE g l e ρ d) (q : E.nx ρ (insM g.K C p [(f, d)])) (hN : l.N[i]? = some nm := by rfl) (hv : Vis l.sc nm := by first | exact Or.inl rfl | exact Or.inr (Or.inl rfl) | exact Or.inr (Or.inr rfl))
    (hd : (nm == ("__debug__" : Str)) = false := by decide) (hcd : (nm == ("__classdict__" : Str)) = false := by decide) (hs : ∀ env, swapsWith e (some (.Attribute (.Name nm p1) f p2)) p4.line env = pure false := by intro _; rfl) : DSM g l (.Assign [.Attribute (.Name nm p1) f p2] e p4) ρ (newMo C p) E :=
  DSM.by (sFld g.K (tVar i) (UE g l e) f) (fun X x => by
    have := ps_fld (X := X) (o := .Name nm p1) (f := f) (pos' := p2) (pos := p4) (pe_var (i := i) (by rw [x.N]; exact hN) (x.vis hv) hd hcd) (UE.pe x e) (hs _)
    rw [x.K] at this
    exact this) (stm_fld0 c n hi h q)
theorem dsm_aug {jj : Nat} {k j : Int} (c : Cls g.K C) (n : NoAttr g.K C f) (i : Nat) (hi : ρ[i]? = some (.val (.adr p))) (hl : gs.lookup f = some (.int k)) (hn : gs.length < 900) (q : E.nx ρ (insM g.K C p (putG f (.int (k + j)) gs))) (hN : l.N[i]? = some nm := by rfl) (hv : Vis l.sc nm := by first | exact Or.inl rfl | exact Or.inr (Or.inl rfl) | exact Or.inr (Or.inr rfl))
    (hd : (nm == ("__debug__" : Str)) = false := by decide) (hcd : (nm == ("__classdict__" : Str)) = false := by decide) : DSM g l (.AugAssign (.Attribute (.Name nm p1) f p2) .Add (.Constant (.int j) jj p3) p4) ρ (insM g.K C p gs) E :=
  DSM.by (sFldAug g.K (tVar i) (tC (.int j)) rAdd f) (fun X x => by
    have := ps_fldaug (X := X) (o := .Name nm p1) (value := .Constant (.int j) jj p3) (f := f) (tpos := p2) (pos := p4) (pe_var (i := i) (by rw [x.N]; exact hN) (x.vis hv) hd hcd) pe_int in_add
    rw [x.K] at this
    exact this) (stm_aug c n hi hl hn q)
end
end PD

/-! Data: f'..', x or y of texts, str(x), split, upper, replace of written texts. -/
namespace PD
open PySem PySem.Spec PyProof.Rows L2
section
variable {K : PySem.W.Frag} {ρ : Rho} {te ta tb : TE} {d da : DV}
theorem ev_fmtS {y : Str} (hz : y.length ≤ 100000) (h : EvD K te ρ (.str y)) : EvD K (tFmt te) ρ (.str y) := fun H0 σ S H e n Q q => h H0 σ S H e n _ fun x S1 H1 g1 r1 => by
  cases r1
  exact .inl ⟨y, rfl, sz5 hz, q _ S1 H1 g1 (.str y)⟩
theorem ev_fmtI {i : Int} (hz : i.natAbs.log2 < 1920) (h : EvD K te ρ (.int i)) : EvD K (tFmt te) ρ (.str (toString i)) := fun H0 σ S H e n Q q => h H0 σ S H e n _ fun x S1 H1 g1 r1 => by
  cases r1
  exact .inr ⟨i, rfl, hz, q _ S1 H1 g1 (.str _)⟩
inductive FpD (K : PySem.W.Frag) (ρ : Rho) : List TE → List Str → Prop
  | nil : FpD K ρ [] []
  | cons {t : TE} {y : Str} {ts : List TE} {ys : List Str} : EvD K t ρ (.str y) → FpD K ρ ts ys → FpD K ρ (t :: ts) (y :: ys)
def catJ (acc : Str) : List Str → Str
  | [] => acc
  | y :: ys => catJ (acc ++ y) ys
theorem len_app (x y : Str) : (x ++ y).length = x.length + y.length := Str.length_append x y
theorem ev_joined {ts : List TE} {ys : List Str} (h : FpD K ρ ts ys) : ∀ acc : Str, acc.length + (ys.map (·.length)).sum ≤ 100000 → ∀ H0 σ S0 H00 S H, Go S0 H00 S H → En K H0 S H σ ρ → ∀ Q : VK, Rs K S0 H00 (.str (catJ acc ys)) Q → tJs ts acc σ H fun out H1 => Q (.str out) H1 := by
  induction h with
  | nil => exact fun acc hz H0 σ S0 H00 S H g n Q q => q _ S H g (.str _)
  | @cons t y ts ys ht hr ih =>
    intro acc hz H0 σ S0 H00 S H g n Q q
    rw [List.map_cons, List.sum_cons] at hz
    refine ht H0 σ S H g.sub n _ fun x S1 H1 g1 r1 => ?_
    cases r1
    refine ⟨y, rfl, sz5 (by rw [len_app]; omega), ih (acc ++ y) (by rw [len_app]; omega) H0 σ S0 H00 S1 H1 (g.tr g1) (n.go g1) Q q⟩
theorem ev_orS {x y : Str} (hz : x.length ≤ 100000) (h1 : EvD K ta ρ (.str x)) (h2 : EvD K tb ρ (.str y)) : EvD K (tOrT K ta tb) ρ (.str (if x.length = 0 then y else x)) := fun H0 σ S H e n Q q => h1 H0 σ S H e n _ fun v S1 H1 g1 r1 => by
  cases r1
  by_cases c : x.length = 0
  · rw [if_pos c] at q
    refine ⟨false, ⟨sz5 hz, ?_⟩, ?_⟩
    · rw [c]; rfl
    · rw [if_neg (by decide)]
      exact h2 H0 σ S1 H1 g1.sub (n.go g1) Q fun u S2 H2 g2 r2 => q u S2 H2 (g1.tr g2) r2
  · rw [if_neg c] at q
    refine ⟨true, ⟨sz5 hz, ?_⟩, ?_⟩
    · have : ((x.length : Int) != 0) = true := bne_iff_ne.mpr (by omega)
      exact this.symm
    · rw [if_pos rfl]
      exact q _ S1 H1 g1 (.str x)
end
section
variable {g : Gb} {l : Lc} {ρ : Rho} {e a b : Expr} {es : List Expr} {pos apos p : Pos} {n : Nat} {d da : DV} {x y : Str}
theorem de_fmtS (hz : y.length ≤ 100000) (h : DE g l e ρ (.str y)) : DE g l (.FormattedValue e (-1) none pos) ρ (.str y) := .by _ (fun X o => pe_fmt (UE.pe o e)) (ev_fmtS hz h)
theorem de_fmtI {i : Int} (hz : i.natAbs.log2 < 1920) (h : DE g l e ρ (.int i)) : DE g l (.FormattedValue e (-1) none pos) ρ (.str (toString i)) := .by _ (fun X o => pe_fmt (UE.pe o e)) (ev_fmtI hz h)
inductive DJ (g : Gb) (l : Lc) (ρ : Rho) : List Expr → List Str → Prop
  | nil : DJ g l ρ [] []
  | cons {e : Expr} {y : Str} {es : List Expr} {ys : List Str} : DE g l e ρ (.str y) → DJ g l ρ es ys → DJ g l ρ (e :: es) (y :: ys)
theorem DJ.pj {X : Cx} (o : Of g l X) : ∀ es : List Expr, PJ X es (es.map (UE g l))
  | [] => .nil
  | e :: es => .cons (UE.pe o e) (DJ.pj o es)
theorem DJ.fp {ys : List Str} (h : DJ g l ρ es ys) : FpD g.K ρ (es.map (UE g l)) ys := by
  induction h with
  | nil => exact .nil
  | cons h r ih => exact .cons h ih
theorem de_joined {v1 v2 : Expr} {rest : List Expr} {ys : List Str} (h : DJ g l ρ (v1 :: v2 :: rest) ys) (hz : (ys.map (·.length)).sum ≤ 100000) : DE g l (.JoinedStr (v1 :: v2 :: rest) pos) ρ (.str (catJ Str.empty ys)) :=
  .by _ (fun X o => pe_joined (DJ.pj o _)) fun H0 σ S H e n Q q => ev_joined h.fp Str.empty (by rw [show Str.empty.length = 0 from rfl]; omega) H0 σ S H S H (Go.rf e) n Q q
theorem de_orS (hz : x.length ≤ 100000) (h1 : DE g l a ρ (.str x)) (h2 : DE g l b ρ (.str y)) : DE g l (.BoolOp .Or [a, b] pos) ρ (.str (if x.length = 0 then y else x)) :=
  .by (tOrT g.K (UE g l a) (UE g l b)) (fun X o => by have := pe_orT (pos := pos) (UE.pe o a) (pe_one (pos := pos) (op := .Or) (UE.pe o b)); rw [o.K] at this; exact this) (ev_orS hz h1 h2)
theorem de_strI {i : Int} (hm : g.mg "str" = none) (hz : i.natAbs.log2 < 1920) (h : DE g l e ρ (.int i)) (hg : GlN l "str" := by rfl) (hs : ∀ env, starEach [e] env = [(false, eval e env)] := by intro _; rfl) : DE g l (.Call (.Name "str" p) [e] [] pos) ρ (.str (toString i)) :=
  de_ct (r := fun xs H Q => ∃ i, xs = [.int i] ∧ i.natAbs.log2 < 1920 ∧ Q (.str (toString i)) H) (fun X o => call_str_int) hm (by decide +kernel) (fun S H xs ex r0 Q q => by
    obtain ⟨v, rfl, r1⟩ := one r0
    cases r1
    exact ⟨i, rfl, hz, q _ S H (Go.rf ex) (.str _)⟩) (da_cons h da_nil (by intro env; rw [hs env]; rfl)) hg (by decide) (by decide) (by intro env; rw [hs env]; rfl) (by intro env; rfl)
theorem dl_split (hz : x.length ≤ 100000) (hy : y.length ≠ 0) (h1 : DE g l a ρ (.str x)) (h2 : DE g l e ρ (.str y)) (hs : ∀ env, starEach [e] env = [(false, eval e env)] := by intro _; rfl)
    (hbase : ∀ env, attributeBase a ("split" : Str) env (eval a env) = eval a env := by intro _; rfl) (hline : (apos.endLine == pos.line) = true := by rfl) : DL g l (.Call (.Attribute a "split" apos) [e] [] pos) ρ ((Txt.split x y).map DV.str) :=
  DL.by _ (fun X o => pe_split (X := X) (apos := apos) (pos := pos) (UE.pe o a) (UE.pe o e) (hs _) (hbase _) hline) fun H0 σ S H ex n Q q => h1 H0 σ S H ex n _ fun v S1 H1 g1 r1 => by
    cases r1
    refine ⟨⟨x, rfl⟩, h2 H0 σ S1 H1 g1.sub (n.go g1) _ fun u S2 H2 g2 r2 => ?_⟩
    cases r2
    refine ⟨x, y, rfl, rfl, beq_eq_false_iff_ne.mpr hy, Nat.le_trans (Nat.add_le_add_right hz 2) (by decide), fun p hp => ?_⟩
    have gg := g1.tr g2
    refine q p _ S2 _ (gg.h.free hp) (Go.tr gg (Go.side gg.sub (Ex.new hp))) (gg.sub.free hp) upd_same ?_
    have go : ∀ ys : List Str, RpA g.K S2 (ys.map V.str) (ys.map DV.str) := by
      intro ys
      induction ys with
      | nil => exact .nil
      | cons y ys ih => exact .cons (.str y) ih
    exact go _
theorem de_upper (hz : x.length ≤ 100000) (h1 : DE g l a ρ (.str x)) (hbase : ∀ env, attributeBase a ("upper" : Str) env (eval a env) = eval a env := by intro _; rfl) (hline : (apos.endLine == pos.line) = true := by rfl) :
    DE g l (.Call (.Attribute a "upper" apos) [] [] pos) ρ (.str (Txt.upper x)) :=
  .by _ (fun X o => pe_upper (X := X) (apos := apos) (pos := pos) (UE.pe o a) (hbase _) hline) fun H0 σ S H ex n Q q => h1 H0 σ S H ex n _ fun v S1 H1 g1 r1 => by
    cases r1
    exact ⟨⟨x, rfl⟩, x, rfl, rfl, by omega, q _ S1 H1 g1 (.str _)⟩
/-- x.replace(y, z) of written texts: from states that have given an identity out -/
theorem den_replC {z : Str} {j k : Nat} {c0 c1 : Pos} (hn : 1 ≤ n) (hz : x.length + (x.length + 1) * z.length ≤ 16777216) (h : DE g l a ρ (.str x)) (hyz : (y == z) = false := by decide)
    (hst : ∀ env, starEach [.Constant (.str y) j c0, .Constant (.str z) k c1] env = [(false, eval (.Constant (.str y) j c0) env), (false, eval (.Constant (.str z) k c1) env)] := by intro _; rfl)
    (hbase : ∀ env, attributeBase a ("replace" : Str) env (eval a env) = eval a env := by intro _; rfl) (hline : (apos.endLine == pos.line) = true := by rfl) :
    DEN g n l (.Call (.Attribute a "replace" apos) [.Constant (.str y) j c0, .Constant (.str z) k c1] [] pos) ρ (.str (Txt.replace x y z)) :=
  .by (CwR.tReplC (UE g l a) y z) (fun X o => ⟨fun pins s σ H Q ht I q => CwR.pet_replC (X := X) (apos := apos) (pos := pos) (UE.pe o a) hyz (hst _) (hbase _) hline pins s σ H Q (Nat.le_trans hn ht) I q⟩)
    fun H0 σ S H ex n Q q => h H0 σ S H ex n _ fun v S1 H1 g1 r1 => by
      cases r1
      exact ⟨x, rfl, hz, q _ S1 H1 g1 (.str _)⟩
end
end PD

/-! Lines: letters_line .. write_line, terminated, over data. -/
namespace SP
open PySem PySem.Spec PyProof.Rows L2 PD
def strI (i : Int) : Str := toString i
def pieceW (p : Str) : Str := if p.length = 0 then ("-" : Str) else p
def lettersL (ls : Str) : Str := catJ Str.empty [("letters " : Str), ls]
def pieceL (p : Str) : Str := catJ Str.empty [("piece " : Str), pieceW p]
def orderJ (o : List Nat) : Str := Txt.join (" " : Str) (o.map fun (b : Nat) => strI (b : Int))
def orderW (o : List Nat) : Str := if (orderJ o).length = 0 then ("-" : Str) else orderJ o
def orderL (o : List Nat) : Str := catJ Str.empty [("order " : Str), orderW o]
def priceL (n : Str) (p : Int) : Str := catJ Str.empty [n, (" " : Str), strI p]
def tornL (b : Bool) : Str := if b then ("torn yes" : Str) else ("torn no" : Str)
def writeL : Wr → Str
  | .order o => orderL o
  | .piece b p => catJ Str.empty [("piece " : Str), strI (b : Int), (" " : Str), pieceW p]
def lineN (x : Str) : Str := catJ Str.empty [x, ("\n" : Str)]
def termL (ls : List Str) : Str := Txt.join ("" : Str) (ls.map lineN)
theorem strI_nat : ∀ b : Nat, b < 10 → (strI (b : Int)).length = 1 ∧ (b : Int).natAbs.log2 < 1920 := by decide +kernel
theorem strI_int {p : Int} (h : 0 ≤ p ∧ p < 10) : (strI p).length = 1 ∧ p.natAbs.log2 < 1920 := by
  have := strI_nat p.toNat (by omega)
  rwa [Int.toNat_of_nonneg h.1] at this
theorem pieceW_len {p : Str} {m : Nat} (h : p.length ≤ m) (hm : 1 ≤ m) : (pieceW p).length ≤ m := by
  unfold pieceW
  split
  · exact hm
  · exact h
theorem catJ_len : ∀ (ys : List Str) (a : Str), (catJ a ys).length = a.length + (ys.map (·.length)).sum
  | [], a => rfl
  | y :: ys, a => by
    show (catJ (a ++ y) ys).length = _
    rw [catJ_len ys (a ++ y), len_app, List.map_cons, List.sum_cons, Nat.add_assoc]
theorem catJ0_len (ys : List Str) : (catJ Str.empty ys).length = (ys.map (·.length)).sum := by
  rw [catJ_len]
  show 0 + _ = _
  omega
theorem sum_const {l : List Nat} {f : Nat → Nat} {c : Nat} (h : ∀ b ∈ l, f b = c) : (l.map f).sum = l.length * c := by
  induction l with
  | nil => simp
  | cons b l ih =>
    rw [List.map_cons, List.sum_cons, h b (List.mem_cons_self ..), ih fun x hx => h x (List.mem_cons_of_mem _ hx), List.length_cons, Nat.add_mul]
    omega
theorem orderJ_len {o : List Nat} (h1 : o.length ≤ 3) (h2 : ∀ b ∈ o, b < 4) : (orderJ o).length ≤ 5 := by
  unfold orderJ
  rw [eq_of_beq (PyProof.Rows.join_plain_closes _ _)]
  cases o with
  | nil => exact Nat.zero_le _
  | cons a l =>
    have e : ((((a :: l).map fun (b : Nat) => strI (b : Int))).map (·.length)).sum = (a :: l).length := by
      rw [List.map_map]
      show ((a :: l).map fun (b : Nat) => (strI (b : Int)).length).sum = _
      rw [sum_const (c := 1) fun b hb => (strI_nat b (Nat.lt_of_lt_of_le (h2 b hb) (by decide))).1, Nat.mul_one]
    rw [List.map_cons] at e
    rw [List.map_cons, len_join_cons, e, List.length_map]
    rw [List.length_cons] at h1 ⊢
    have : ((" " : Str)).length = 1 := rfl
    rw [this]
    omega
theorem orderW_len {o : List Nat} (h1 : o.length ≤ 3) (h2 : ∀ b ∈ o, b < 4) : (orderW o).length ≤ 5 := by
  unfold orderW
  split
  · decide +kernel
  · exact orderJ_len h1 h2
theorem priceL_len {n : Str} {p : Int} (h : 0 ≤ p ∧ p < 10) : (priceL n p).length = n.length + 2 := by
  unfold priceL
  rw [catJ0_len, List.map_cons, List.map_cons, List.map_cons, (strI_int h).1]
  show n.length + (1 + (1 + 0)) = _
  omega
variable {g : Gb}
theorem scPW : FnScope ["piece"] ["piece"] (defScope s_piece_word) := ⟨rfl, rfl, rfl, by decide +kernel, rfl, by decide +kernel, by decide +kernel⟩
def R_pword : List DV → DV → Prop := fun ds d => ∃ p : Str, p.length ≤ 100 ∧ ds = [.str p] ∧ d = .str (pieceW p)
structure Ct (g : Gb) : Prop where
  nothing : ∃ t, g.mg "NOTHING" = some (.str "-" t)
  join : True
theorem Ct.de {l : Lc} {ρ : Rho} {pos : Pos} (C : Ct g) (hg : GlN l "NOTHING" := by rfl) : DE g l (.Name "NOTHING" pos) ρ (.str "-") := by
  obtain ⟨t, h⟩ := C.nothing
  exact de_gl (v := .str "-") h ⟨t, rfl⟩ (fun S => .str _) hg
theorem ok_pword (C : Ct g) {f : Addr} {fd : FuncData} (F : Fun g.K "piece_word" "piece_word" s_piece_word f fd) : FnOk g.P g.w g.K g.mg g.base CX0 1 f fd ["piece"] (spR g.K R_pword) := by
  refine fn_ok F scPW (fun ds d ⟨p, _, e, _⟩ => by rw [e]; rfl) fun ds d ⟨p, h, e, ed⟩ => ?_
  subst e ed
  exact dss_one (ds_ret (de_orS (Nat.le_trans h (by decide)) (de_v 0) C.de) rfl)
theorem scTL : FnScope ["torn"] ["torn"] (defScope s_torn_line) := ⟨rfl, rfl, rfl, by decide +kernel, rfl, by decide +kernel, by decide +kernel⟩
def R_tline : List DV → DV → Prop := fun ds d => ∃ b, ds = [.bl b] ∧ d = .str (tornL b)
theorem ok_tline {f : Addr} {fd : FuncData} (F : Fun g.K "torn_line" "torn_line" s_torn_line f fd) : FnOk g.P g.w g.K g.mg g.base CX0 1 f fd ["torn"] (spR g.K R_tline) := by
  refine fn_ok F scTL (fun ds d ⟨p, e, _⟩ => by rw [e]; rfl) fun ds d ⟨b, e, ed⟩ => ?_
  subst e ed
  exact dss_one (ds_ret (de_if (x := b) (dt_e (de_v 0)) (fun h => by subst h; exact de_str) (fun h => by subst h; exact de_str)) rfl)
theorem scLLn : FnScope ["letters"] ["letters"] (defScope s_letters_line) := ⟨rfl, rfl, rfl, by decide +kernel, rfl, by decide +kernel, by decide +kernel⟩
def R_lline : List DV → DV → Prop := fun ds d => ∃ p : Str, p.length ≤ 100 ∧ ds = [.str p] ∧ d = .str (lettersL p)
theorem ok_lline {f : Addr} {fd : FuncData} (F : Fun g.K "letters_line" "letters_line" s_letters_line f fd) : FnOk g.P g.w g.K g.mg g.base CX0 1 f fd ["letters"] (spR g.K R_lline) := by
  refine fn_ok F scLLn (fun ds d ⟨p, _, e, _⟩ => by rw [e]; rfl) fun ds d ⟨p, h, e, ed⟩ => ?_
  subst e ed
  refine dss_one (ds_ret (de_joined (.cons de_str (.cons (de_fmtS (Nat.le_trans h (by decide)) (de_v 0)) .nil)) ?_) rfl)
  show 8 + (p.length + 0) ≤ 100000
  omega
theorem scPLn : FnScope ["piece"] ["piece"] (defScope s_piece_line) := ⟨rfl, rfl, rfl, by decide +kernel, rfl, by decide +kernel, by decide +kernel⟩
def R_pline : List DV → DV → Prop := fun ds d => ∃ p : Str, p.length ≤ 100 ∧ ds = [.str p] ∧ d = .str (pieceL p)
theorem ok_pline (W : Fn g 1 "piece_word" R_pword) {f : Addr} {fd : FuncData} (F : Fun g.K "piece_line" "piece_line" s_piece_line f fd) : FnOk g.P g.w g.K g.mg g.base CX0 2 f fd ["piece"] (spR g.K R_pline) := by
  refine fn_ok F scPLn (fun ds d ⟨p, _, e, _⟩ => by rw [e]; rfl) fun ds d ⟨p, h, e, ed⟩ => ?_
  subst e ed
  have hw := pieceW_len h (by decide)
  refine dss_one (ds_ret (de_joined (.cons de_str (.cons (de_fmtS (Nat.le_trans hw (by decide)) (de_call W (da_cons (de_v 0) da_nil) ⟨p, h, rfl, rfl⟩)) .nil)) ?_) rfl)
  show 6 + ((pieceW p).length + 0) ≤ 100000
  omega
theorem scPr : FnScope ["name", "price"] ["name", "price"] (defScope s_price_line) := ⟨rfl, rfl, rfl, by decide +kernel, rfl, by decide +kernel, by decide +kernel⟩
def R_prline : List DV → DV → Prop := fun ds d => ∃ (n : Str) (p : Int), n.length ≤ 100 ∧ (0 ≤ p ∧ p < 10) ∧ ds = [.str n, .int p] ∧ d = .str (priceL n p)
theorem ok_prline {f : Addr} {fd : FuncData} (F : Fun g.K "price_line" "price_line" s_price_line f fd) : FnOk g.P g.w g.K g.mg g.base CX0 1 f fd ["name", "price"] (spR g.K R_prline) := by
  refine fn_ok F scPr (fun ds d ⟨n, p, _, _, e, _⟩ => by rw [e]; rfl) fun ds d ⟨n, p, h, hp, e, ed⟩ => ?_
  subst e ed
  obtain ⟨l1, l2⟩ := strI_int hp
  refine dss_one (ds_ret (de_joined (.cons (de_fmtS (Nat.le_trans h (by decide)) (de_v 0)) (.cons de_str (.cons (de_fmtI l2 (de_v 1)) .nil))) ?_) rfl)
  show n.length + (1 + ((strI p).length + 0)) ≤ 100000
  omega
end SP

/-! Lines: order_line, write_line, price_lines, terminated, file_text, writes_text. -/
namespace PD
open PySem PySem.Spec PyProof.Rows L2
section
variable {g : Gb} {l : Lc} {ρ : Rho} {e b : Expr} {K : PySem.W.Frag} {te tb : TE}
theorem iv_rng2 {i j : Nat} (h : EvD K te ρ (.int (i : Int))) (h2 : EvD K tb ρ (.int (j : Int))) (hi : i ≤ 100000) (hj : j ≤ 100000) : IvD K (iRng2 (tCons te (tCons tb tNil))) ρ (rangeD i (j - i)) := fun H0 σ S H e m R q =>
  h H0 σ S H e m _ fun v S1 H1 g1 r1 => h2 H0 σ S1 H1 g1.sub (m.go g1) _ fun w S2 H2 g2 r2 => by
    cases r1
    cases r2
    refine ⟨(i : Int), (j : Int), rfl, ⟨by omega, by omega, by omega, by omega⟩, q _ S2 H2 (g1.tr g2) ?_⟩
    have e1 : ((j : Int) - (i : Int)).toNat = j - i := by omega
    rw [e1]
    exact wk_r i (j - i)
theorem di_rng2 {tg : Expr} {i j : Nat} {p pos : Pos} (hm : g.mg "range" = none) (hi : i ≤ 100000) (hj : j ≤ 100000) (h : DE g l e ρ (.int (i : Int))) (h2 : DE g l b ρ (.int (j : Int))) (hg : GlN l "range" := by rfl) (hs : ∀ env, starEach [e, b] env = [(false, eval e env), (false, eval b env)] := by intro _; rfl) (hs2 : ∀ env, starEach [b] env = [(false, eval b env)] := by intro _; rfl) : DI g l tg (.Call (.Name "range" p) [e, b] [] pos) ρ (rangeD i (j - i)) :=
  DI.by _ (fun X o => pi_range2 (o.gl hg) (by rw [o.mg]; exact hm) (pa_cons (UE.pe o e) (pa_cons (UE.pe o b) pa_nil (by rw [hs2]; rfl)) (by rw [hs, hs2])) (hs _) (hs2 _)) (iv_rng2 h h2 hi hj)
end
end PD
namespace SP
open PySem PySem.Spec PyProof.Rows L2 PD
variable {g : Gb} {C : Addr}
theorem scOL : FnScope ["order", "words", "block"] ["order"] (defScope s_order_line) := ⟨rfl, rfl, rfl, by decide +kernel, rfl, by decide +kernel, by decide +kernel⟩
def R_oline : List DV → DV → Prop := fun ds d => ∃ o : List Nat, o.length ≤ 3 ∧ (∀ b ∈ o, b < 4) ∧ ds = [.tup (odD o)] ∧ d = .str (orderL o)
theorem ok_oline (C : Ct g) (B : Bt g) (hstr : g.mg "str" = none) {f : Addr} {fd : FuncData} (F : Fun g.K "order_line" "order_line" s_order_line f fd) : FnOk g.P g.w g.K g.mg g.base CX0 1 f fd ["order"] (spR g.K R_oline) := by
  refine fn_ok F scOL (fun ds d ⟨o, _, _, e, _⟩ => by rw [e]; rfl) fun ds d ⟨o, h1, h2, e, ed⟩ => ?_
  subst e ed
  have hl := orderJ_len h1 h2
  refine dss_cons (ds_set 1 scOL.nd (d := .str (orderJ o)) (de_join (sep := (" " : Str)) (ys := o.map fun (b : Nat) => strI (b : Int)) (da := .lst ((o.map fun (b : Nat) => strI (b : Int)).map DV.str)) de_str (DE.is (dl_rL (own := [("block", 2)]) scOL.nd (by decide +kernel) (rL.ev (is := [2]) (di_t (de_v 0)) ?_ (by decide)
    (fun d => [.val (.tup (odD o)), .un, .val d]) (fun _ => true) (fun d => match d with | .int i => .str (strI i) | _ => .non) (fun d hd => dg_n 2 scOL.nd) (fun d hd => dts_nil) (fun d hd _ => ?_))).de ?_) rfl ?_) ?_)
  · rw [odD_len]
    exact Nat.le_trans h1 (by decide)
  · unfold odD at hd
    rw [List.mem_map] at hd
    obtain ⟨b, hb, rfl⟩ := hd
    exact de_strI hstr (strI_nat b (Nat.lt_of_lt_of_le (h2 b hb) (by decide))).2 (de_v 2)
  · rw [filt]
    unfold odD
    rw [List.map_map, List.map_map]
    rfl
  · have e1 : ((o.map fun (b : Nat) => strI (b : Int)).map (·.length)).sum = o.length := by
      rw [List.map_map]
      show (o.map fun (b : Nat) => (strI (b : Int)).length).sum = _
      rw [sum_const (c := 1) fun b hb => (strI_nat b (Nat.lt_of_lt_of_le (h2 b hb) (by decide))).1, Nat.mul_one]
    rw [e1, List.length_map]
    show o.length + o.length * 1 ≤ _
    omega
  · refine dss_one (ds_ret (de_joined (.cons de_str (.cons (de_fmtS ?_ (de_orS (x := orderJ o) (y := "-") ?_ (de_v 1) C.de)) .nil)) ?_) rfl)
    · exact Nat.le_trans (orderW_len h1 h2) (by decide)
    · exact Nat.le_trans hl (by decide)
    · have := orderW_len h1 h2
      show 6 + ((orderW o).length + 0) ≤ 100000
      omega
theorem scWL : FnScope ["write"] ["write"] (defScope s_write_line) := ⟨rfl, rfl, rfl, by decide +kernel, rfl, by decide +kernel, by decide +kernel⟩
def okL : Wr → Prop
  | .order o => o.length ≤ 3 ∧ ∀ b ∈ o, b < 4
  | .piece b p => b < 4 ∧ p.length ≤ 4
theorem writeL_len {w : Wr} (h : okL w) : (writeL w).length ≤ 20 := by
  cases w with
  | order o =>
    have := orderW_len h.1 h.2
    show (catJ Str.empty _).length ≤ _
    rw [catJ0_len]
    show 6 + ((orderW o).length + 0) ≤ 20
    omega
  | piece b p =>
    have := pieceW_len h.2 (by decide)
    have e := (strI_nat b (Nat.lt_of_lt_of_le h.1 (by decide))).1
    show (catJ Str.empty _).length ≤ _
    rw [catJ0_len]
    show 6 + ((strI (b : Int)).length + (1 + ((pieceW p).length + 0))) ≤ 20
    omega
theorem okL_vw {ls : Str} {n : Nat} {w : Wr} (h : VW ls n w) (hn : n ≤ 4) : okL w := by
  cases w with
  | order o => exact ⟨h.1, fun b hb => Nat.lt_of_lt_of_le (h.2 b hb) hn⟩
  | piece b p => exact ⟨Nat.lt_of_lt_of_le h.1 hn, Nat.le_trans (wordOk_len h.2) (by decide)⟩
def R_wline : List DV → DV → Prop := fun ds d => ∃ w, okL w ∧ ds = [Wr.d w] ∧ d = .str (writeL w)
theorem ok_wline (O : Fn g 1 "order_line" R_oline) (W : Fn g 1 "piece_word" R_pword) {f : Addr} {fd : FuncData} (F : Fun g.K "write_line" "write_line" s_write_line f fd) : FnOk g.P g.w g.K g.mg g.base CX0 2 f fd ["write"] (spR g.K R_wline) := by
  refine fn_ok F scWL (fun ds d ⟨w, _, e, _⟩ => by rw [e]; rfl) fun ds d ⟨w, h, e, ed⟩ => ?_
  subst e ed
  cases w with
  | order o =>
    refine dss_cons (ds_if (x := true) (DT.is (dt_eqS (de_ixT (d := .str "order") rfl (de_v 0) de_int) de_str) (by decide)) (fun _ => dss_one (ds_ret (de_call O (da_cons (de_ixT (d := .tup (odD o)) rfl (de_v 0) de_int) da_nil) ⟨o, h.1, h.2, rfl, rfl⟩) rfl)) fun z => by cases z)
  | piece b p =>
    refine dss_cons (ds_if (x := false) (DT.is (dt_eqS (de_ixT (d := .str "piece") rfl (de_v 0) de_int) de_str) (by decide)) (fun z => by cases z) fun _ => dss_nil ?_)
    have hw := pieceW_len h.2 (by decide)
    have e := strI_nat b (Nat.lt_of_lt_of_le h.1 (by decide))
    refine dss_one (ds_ret (de_joined (.cons de_str (.cons (de_fmtI e.2 (de_ixT (d := .int (b : Int)) rfl (de_v 0) de_int)) (.cons de_str (.cons (de_fmtS (Nat.le_trans hw (by decide)) (de_call W (da_cons (de_ixT (d := .str p) rfl (de_v 0) de_int) da_nil) ⟨p, Nat.le_trans h.2 (by decide), rfl, rfl⟩)) .nil)))) ?_) rfl)
    have e1 := e.1
    show 6 + ((strI (b : Int)).length + (1 + ((pieceW p).length + 0))) ≤ 100000
    omega
theorem scPLs : FnScope ["name", "price"] ["name"] (defScope s_price_lines) := ⟨rfl, rfl, rfl, by decide +kernel, rfl, by decide +kernel, by decide +kernel⟩
def pricesI : List Int := [1, 2, 3, 4, 5]
def R_prlines (w : World) : List DV → DV → Prop := fun ds d => ∃ n : Str, (n = "piece_price" ∨ n = "order_price") ∧ ds = [.str n] ∧ d = .dct w (pricesI.map fun p => .str (priceL n p)) (pricesI.map DV.int)
theorem nd_prices : (nkAll (pricesI.map fun p => DV.str (priceL "piece_price" p))).Nodup ∧ (nkAll (pricesI.map fun p => DV.str (priceL "order_price" p))).Nodup := by decide +kernel
theorem ok_prlines (B : Bt g) (Cf : Cf g) (Pr : Fn g 1 "price_line" R_prline) {f : Addr} {fd : FuncData} (F : Fun g.K "price_lines" "price_lines" s_price_lines f fd) : FnOk g.P g.w g.K g.mg g.base CX0 2 f fd ["name"] (spR g.K (R_prlines g.w)) := by
  refine fn_ok F scPLs (fun ds d ⟨o, _, e, _⟩ => by rw [e]; rfl) fun ds d ⟨n, h, e, ed⟩ => ?_
  subst e ed
  obtain ⟨t, ht⟩ := Cf.mp
  have hn : n.length ≤ 100 := by rcases h with rfl | rfl <;> decide +kernel
  have rng : rangeD 1 5 = pricesI.map DV.int := rfl
  refine dss_one (ds_ret (DE.is (de_dc (own := [("price", 1)]) scPLs.nd (by decide +kernel) (di_rng2 (i := 1) (j := 6) B.range (by decide) (by decide) de_int (de_add (i := 5) (j := 1) (de_gl (v := .int 5) ht ⟨t, rfl⟩ fun S => .int 5) de_int)) (by decide) (is := [1]) (by decide) (fun d => [.val (.str n), .val d]) (fun _ => true)
    (fun d => match d with | .int i => .str (priceL n i) | _ => .non) (fun d => d) (fun d hd => dg_n 1 scPLs.nd) (fun d hd => dts_nil) (fun d hd _ => ?_) (fun d hd _ => de_v 1)) ?_) rfl)
  · have hd' : d ∈ pricesI.map DV.int := hd
    rw [List.mem_map] at hd'
    obtain ⟨i, hi, rfl⟩ := hd'
    have hb : 0 ≤ i ∧ i < 10 := by
      simp only [pricesI, List.mem_cons, List.not_mem_nil, or_false] at hi
      omega
    refine ⟨de_call Pr (da_cons (de_v 0) (da_cons (de_v 1) da_nil)) ⟨n, i, hn, hb, rfl, rfl⟩, ?_⟩
    rfl
  · rw [show rangeD ((1 : Nat) : Int) (6 - 1) = pricesI.map DV.int from rfl]
    rw [dputs_all _ _ _ rfl (by
      rw [List.nil_append, List.map_map]
      rcases h with rfl | rfl
      · exact nd_prices.1
      · exact nd_prices.2)]
    rw [List.nil_append, List.nil_append, List.map_map, List.map_map]
    rfl
theorem scTm : FnScope ["lines", "line"] ["lines"] (defScope s_terminated) := ⟨rfl, rfl, rfl, by decide +kernel, rfl, by decide +kernel, by decide +kernel⟩
def R_term : List DV → DV → Prop := fun ds d => ∃ L : List Str, L.length ≤ 50 ∧ (∀ x ∈ L, x.length ≤ 100) ∧ ds = [.lst (L.map DV.str)] ∧ d = .str (termL L)
theorem lineN_len (x : Str) : (lineN x).length = x.length + 1 := by
  unfold lineN
  rw [catJ0_len]
  show x.length + (1 + 0) = _
  omega
theorem sum_lines {L : List Str} (h : ∀ x ∈ L, x.length ≤ 100) : ((L.map lineN).map (·.length)).sum ≤ L.length * 101 := by
  refine Nat.le_trans (sum_le (m := 101) fun x hx => ?_) (by rw [List.length_map, List.length_map]; exact Nat.le_refl _)
  rw [List.map_map, List.mem_map] at hx
  obtain ⟨y, hy, rfl⟩ := hx
  have := h y hy
  show (lineN y).length ≤ 101
  rw [lineN_len]
  omega
theorem ok_term {f : Addr} {fd : FuncData} (F : Fun g.K "terminated" "terminated" s_terminated f fd) : FnOk g.P g.w g.K g.mg g.base CX0 1 f fd ["lines"] (spR g.K R_term) := by
  refine fn_ok F scTm (fun ds d ⟨o, _, _, e, _⟩ => by rw [e]; rfl) fun ds d ⟨L, h1, h2, e, ed⟩ => ?_
  subst e ed
  have sl := sum_lines h2
  refine dss_one (ds_ret (de_join (sep := ("" : Str)) (ys := L.map lineN) (da := .lst ((L.map lineN).map DV.str)) de_str (DE.is (dl_rL (own := [("line", 1)]) scTm.nd (by decide +kernel) (rL.ev (is := [1]) (di_l (de_v 0)) ?_ (by decide)
    (fun d => [.val (.lst (L.map DV.str)), .val d]) (fun _ => true) (fun d => match d with | .str i => .str (lineN i) | _ => .non) (fun d hd => dg_n 1 scTm.nd) (fun d hd => dts_nil) (fun d hd _ => ?_))).de ?_) rfl ?_) rfl)
  · rw [List.length_map]
    omega
  · rw [List.mem_map] at hd
    obtain ⟨x, hx, rfl⟩ := hd
    have := h2 x hx
    refine de_joined (.cons (de_fmtS (by omega) (de_v 1)) (.cons de_str .nil)) ?_
    show x.length + (1 + 0) ≤ 100000
    omega
  · rw [filt, List.map_map, List.map_map]
    rfl
  · show _ + _ * 0 ≤ _
    omega
end SP

/-! file_text, writes_text. -/
namespace SP
open PySem PySem.Spec PyProof.Rows L2 PD
variable {g : Gb} {C : Addr}
def linesOf (ls : Str) (ps : List Str) (od : List Nat) (pp op : Int) (tn : Bool) : List Str := [lettersL ls] ++ ps.map pieceL ++ [orderL od] ++ [priceL "piece_price" pp] ++ [priceL "order_price" op] ++ [tornL tn]
theorem scFT : FnScope ["file", "lines", "piece"] ["file"] (defScope s_file_text) := ⟨rfl, rfl, rfl, by decide +kernel, rfl, by decide +kernel, by decide +kernel⟩
def R_filet (C : Addr) : List DV → DV → Prop := fun ds d => ∃ ls ps od pp op tn, VS ls ps od ∧ (1 ≤ pp ∧ pp ≤ 5) ∧ (1 ≤ op ∧ op ≤ 5) ∧ ds = [fileD C ls ps od pp op tn] ∧ d = .str (termL (linesOf ls ps od pp op tn))
theorem lets_len {ls : Str} (h : letterSet ls) : ls.length ≤ 3 := by rcases h with rfl | rfl <;> decide +kernel
theorem pieceL_len {p : Str} (h : p.length ≤ 4) : (pieceL p).length ≤ 20 := by
  have := pieceW_len h (by decide)
  unfold pieceL
  rw [catJ0_len]
  show 6 + ((pieceW p).length + 0) ≤ 20
  omega
theorem lettersL_len {p : Str} (h : p.length ≤ 3) : (lettersL p).length ≤ 20 := by
  unfold lettersL
  rw [catJ0_len]
  show 8 + (p.length + 0) ≤ 20
  omega
theorem orderL_len {o : List Nat} (h1 : o.length ≤ 3) (h2 : ∀ b ∈ o, b < 4) : (orderL o).length ≤ 20 := by
  have := orderW_len h1 h2
  unfold orderL
  rw [catJ0_len]
  show 6 + ((orderW o).length + 0) ≤ 20
  omega
theorem tornL_len (b : Bool) : (tornL b).length ≤ 20 := by cases b <;> decide +kernel
theorem VS.b4 {ls : Str} {ps : List Str} {od : List Nat} (v : VS ls ps od) : ∀ b ∈ od, b < 4 := fun b hb => Nat.lt_of_lt_of_le (v.hb b hb) v.hps
theorem VS.p2 {ls : Str} {ps : List Str} {od : List Nat} (v : VS ls ps od) : ∀ p ∈ ps, p.length ≤ 2 := fun p hp => wordOk_len (v.hp p hp)
theorem lines_short {ls : Str} {ps : List Str} {od : List Nat} {pp op : Int} {tn : Bool} (v : VS ls ps od) (h1 : 1 ≤ pp ∧ pp ≤ 5) (h2 : 1 ≤ op ∧ op ≤ 5) : ∀ x ∈ linesOf ls ps od pp op tn, x.length ≤ 20 := by
  intro x hx
  unfold linesOf at hx
  simp only [List.mem_append, List.mem_map, List.mem_cons, List.not_mem_nil, or_false] at hx
  rcases hx with ((((rfl | ⟨p, hp, rfl⟩) | rfl) | rfl) | rfl) | rfl
  · exact lettersL_len (lets_len v.hls)
  · exact pieceL_len (Nat.le_trans (v.p2 p hp) (by decide))
  · exact orderL_len v.hod v.b4
  · rw [priceL_len ⟨by omega, by omega⟩]; decide +kernel
  · rw [priceL_len ⟨by omega, by omega⟩]; decide +kernel
  · exact tornL_len tn
theorem lines_len {ls : Str} {ps : List Str} {od : List Nat} {pp op : Int} {tn : Bool} : (linesOf ls ps od pp op tn).length = ps.length + 5 := by
  unfold linesOf
  simp only [List.length_append, List.length_map, List.length_cons, List.length_nil]
  omega
theorem ok_filet (L : Fl g C) (P : Fp g C) (Ck : Fn g 1 "check_file" (R_cfile C)) (LL : Fn g 1 "letters_line" R_lline) (PL : Fn g 2 "piece_line" R_pline) (OL : Fn g 1 "order_line" R_oline) (PR : Fn g 1 "price_line" R_prline) (TL : Fn g 1 "torn_line" R_tline) (TM : Fn g 1 "terminated" R_term)
    {f : Addr} {fd : FuncData} (F : Fun g.K "file_text" "file_text" s_file_text f fd) : FnOk g.P g.w g.K g.mg g.base CX0 3 f fd ["file"] (spR g.K (R_filet C)) := by
  refine fn_ok F scFT (fun ds d ⟨_, _, _, _, _, _, _, _, _, e, _⟩ => by rw [e]; rfl) fun ds d ⟨ls, ps, od, pp, op, tn, v, h1, h2, e, ed⟩ => ?_
  subst e ed
  refine dss_cons (ds_ex (de_call Ck (da_cons (de_v 0) da_nil) ⟨_, rfl, rfl⟩) ?_)
  refine dss_cons (ds_setL 1 scFT.nd (dl_lst (da_cons (de_call LL (da_cons (de_ls L P (de_v 0)) da_nil) ⟨ls, Nat.le_trans (lets_len v.hls) (by decide), rfl, rfl⟩) da_nil)) ?_)
  have hp5 := v.hps
  have pl : (ps.map pieceL).length = ps.length := List.length_map ..
  refine dss_cons (ds_extend 1 (ds := [.str (lettersL ls)]) (es' := (ps.map pieceL).map DV.str) rfl (DE.is (dl_rL (own := [("piece", 2)]) scFT.nd (by decide +kernel) (rL.ev (is := [2]) (di_t (de_ps L P (de_v 0))) ?_ (by decide)
    (fun d => [.val (fileD C ls ps od pp op tn), .own [.str (lettersL ls)], .val d]) (fun _ => true) (fun d => match d with | .str i => .str (pieceL i) | _ => .non) (fun d hd => dg_n 2 scFT.nd) (fun d hd => dts_nil) (fun d hd _ => ?_))).de ?_) ?_ ?_)
  · rw [psD_len]; exact Nat.le_trans v.hps (by decide)
  · unfold psD at hd
    rw [List.mem_map] at hd
    obtain ⟨p, hp, rfl⟩ := hd
    exact de_call PL (da_cons (de_v 2) da_nil) ⟨p, Nat.le_trans (v.p2 p hp) (by decide), rfl, rfl⟩
  · rw [filt]
    unfold psD
    rw [List.map_map, List.map_map]
    rfl
  · rw [List.length_map, pl, List.length_singleton]; omega
  have len0 : ([DV.str (lettersL ls)] ++ (ps.map pieceL).map DV.str).length = ps.length + 1 := by simp
  refine dss_cons (ds_append 1 rfl (de_call OL (da_cons (de_od L P (de_v 0)) da_nil) ⟨od, v.hod, v.b4, rfl, rfl⟩) (by rw [len0]; omega) ?_)
  refine dss_cons (ds_append 1 rfl (de_call PR (da_cons de_str (da_cons (de_pp L P (de_v 0)) da_nil)) ⟨"piece_price", pp, by decide +kernel, ⟨by omega, by omega⟩, rfl, rfl⟩) (by rw [List.length_append, len0]; show ps.length + 1 + 1 < _; omega) ?_)
  refine dss_cons (ds_append 1 rfl (de_call PR (da_cons de_str (da_cons (de_oq L P (de_v 0)) da_nil)) ⟨"order_price", op, by decide +kernel, ⟨by omega, by omega⟩, rfl, rfl⟩) (by rw [List.length_append, List.length_append, len0]; show ps.length + 1 + 1 + 1 < _; omega) ?_)
  refine dss_cons (ds_append 1 rfl (de_call TL (da_cons (de_tn L P (de_v 0)) da_nil) ⟨tn, rfl, rfl⟩) (by rw [List.length_append, List.length_append, List.length_append, len0]; show ps.length + 1 + 1 + 1 + 1 < _; omega) ?_)
  refine dss_freeze 1 rfl (dss_one (ds_ret (de_call TM (da_cons (de_v 1) da_nil) ⟨linesOf ls ps od pp op tn, by rw [lines_len]; omega, fun x hx => Nat.le_trans (lines_short v h1 h2 x hx) (by decide), ?_, rfl⟩) rfl))
  unfold linesOf
  simp only [List.map_append, List.map_cons, List.map_nil]
theorem scWT : FnScope ["file", "writes", "write"] ["file", "writes"] (defScope s_writes_text) := ⟨rfl, rfl, rfl, by decide +kernel, rfl, by decide +kernel, by decide +kernel⟩
def R_wrt (C : Addr) : List DV → DV → Prop := fun ds d => ∃ ls ps od pp op tn W ws, VS ls ps od ∧ chain ls ps od ws ∧ ws.length ≤ 20 ∧ rowOf W ws ∧ ds = [fileD C ls ps od pp op tn, W] ∧ d = .str (termL (ws.map writeL))
theorem chain_okL {ls : Str} : ∀ {ws : List Wr} {ps : List Str} {od : List Nat}, ps.length ≤ 4 → chain ls ps od ws → ∀ w ∈ ws, okL w
  | [], _, _, _, _ => fun w h => by cases h
  | w :: ws, ps, od, hl, ⟨h1, h2, h3⟩ => fun x hx => by
    rcases List.mem_cons.mp hx with rfl | hx
    · exact okL_vw h1 hl
    · exact chain_okL (by rw [afterP_len]; exact hl) h3 x hx
theorem rowOf_items {W : DV} {ws : List Wr} (h : rowOf W ws) : W = .lst (ws.map Wr.d) ∨ W = .tup (ws.map Wr.d) := h
theorem ok_wrt (Ck : Fn g 1 "check_file" (R_cfile C)) (Cw : Fn g 6 "check_writes" (R_cwrs C)) (WL : Fn g 2 "write_line" R_wline) (TM : Fn g 1 "terminated" R_term)
    {f : Addr} {fd : FuncData} (F : Fun g.K "writes_text" "writes_text" s_writes_text f fd) : FnOk g.P g.w g.K g.mg g.base CX0 7 f fd ["file", "writes"] (spR g.K (R_wrt C)) := by
  refine fn_ok F scWT (fun ds d ⟨_, _, _, _, _, _, _, _, _, _, _, _, e, _⟩ => by rw [e]; rfl) fun ds d ⟨ls, ps, od, pp, op, tn, W, ws, v, hc, hl, hW, e, ed⟩ => ?_
  subst e ed
  refine dss_cons (ds_ex (de_call Ck (da_cons (de_v 0) da_nil) ⟨_, rfl, rfl⟩) ?_)
  refine dss_cons (ds_ex (de_call Cw (da_cons (de_v 0) (da_cons (de_v 1) da_nil)) ⟨ls, ps, od, pp, op, tn, W, ws, v, hc, by omega, hW, rfl, rfl⟩) ?_)
  have ok := chain_okL v.hps hc
  refine dss_one (ds_ret (de_call TM (da_cons (DE.is (d' := .lst ((ws.map writeL).map DV.str)) (dl_rL (own := [("write", 2)]) scWT.nd (by decide +kernel) (rL.ev (is := [2]) (ds := ws.map Wr.d) ?_ ?_ (by decide)
    (fun d => [.val (fileD C ls ps od pp op tn), .val W, .val d]) (fun _ => true) (fun d => match d with | .tup [.str _, .tup o] => .str (writeL (.order (o.map fun d => match d with | .int i => i.toNat | _ => 0))) | .tup [.str _, .int b, .str p] => .str (writeL (.piece b.toNat p)) | _ => .non) (fun d hd => dg_n 2 scWT.nd) (fun d hd => dts_nil) (fun d hd _ => ?_))).de ?_) da_nil) ⟨ws.map writeL, by rw [List.length_map]; omega, fun x hx => ?_, rfl, rfl⟩) rfl)
  · rcases rowOf_items hW with rfl | rfl
    · exact di_l (de_v 1)
    · exact di_t (de_v 1)
  · rw [List.length_map]; omega
  · rw [List.mem_map] at hd
    obtain ⟨w, hw, rfl⟩ := hd
    refine DE.is (de_call WL (da_cons (de_v 2) da_nil) ⟨w, ok w hw, rfl, rfl⟩) ?_
    cases w with
    | order o =>
      show DV.str _ = DV.str _
      refine congrArg (fun z => DV.str (writeL (.order z))) ?_
      unfold odD
      rw [List.map_map]
      exact (List.map_id o).symm.trans (List.map_congr_left fun b _ => (Int.toNat_natCast b).symm)
    | piece b p => rfl
  · rw [filt, List.map_map, List.map_map]
    refine congrArg DV.lst (List.map_congr_left fun w hw => ?_)
    cases w with
    | order o =>
      show DV.str _ = DV.str _
      refine congrArg (fun z => DV.str (writeL (.order z))) ?_
      unfold odD
      rw [List.map_map]
      exact ((List.map_id o).symm.trans (List.map_congr_left fun b _ => (Int.toNat_natCast b).symm)).symm
    | piece b p => rfl
  · rw [List.mem_map] at hx
    obtain ⟨w, hw, rfl⟩ := hx
    exact Nat.le_trans (writeL_len (ok w hw)) (by decide)
end SP

/-! class Reader. -/
namespace PD
open PySem PySem.Spec PyProof.Rows L2
section
variable {g : Gb} {l : Lc} {ρ : Rho} {m m' : Mo} {e a : Expr} {d : DV} {pos p1 p3 : Pos} {j : Nat} {E : Pm} {Z : Zs} {C : Addr} {n : Str}
/-- raise C(e), e read off a mutable thing -/
theorem sty_raiseU {K : PySem.W.Frag} {te : TE} {txt fld : Str} (h : EvU K te ρ m d m') (hf : fitD txt d) (tzz : (Str.empty ++ txt).length ≤ sizeLine) (q : Z C [(fld, d)]) : StY K (fun W _ σ H => tMkO C (spO C txt fld) [] (tCons te tNil) σ H fun cls d H' => W cls d σ H') ρ m E Z := fun S0 H0 B σ S H D W s k z =>
  h _ _ _ σ S H s _ fun y S1 H1 s1 e1 r => by
    refine ⟨by show 1 ≤ 1000; decide, fun a ha => ?_⟩
    have fv : fitV txt y := by
      cases r <;> first | exact hf | exact hf.elim
    refine ⟨a, y, rfl, fv, tzz, upd_same, fun dx hd hne => ⟨rfl, dx, [(fld, y)], upd_same, ?_, ?_, ?_⟩⟩
    · rw [upd_ne hne, upd_same]
    · rw [upd_ne hne] at hd
      exact hd
    · have hd1 : H1 dx = none := by rw [upd_ne hne] at hd; exact hd
      have e : upd (del (upd (upd (upd H1 a (exo a C none)) dx (exd dx [(fld, y)])) a (exo a C (some dx))) a) dx (.xd [(fld, y)]) = upd H1 dx (.xd [(fld, y)]) := by
        funext b
        by_cases h1 : b = dx
        · rw [h1, upd_same, upd_same]
        · rw [upd_ne h1, upd_ne h1]
          by_cases h2 : b = a
          · rw [h2, del_same, ha]
          · rw [del_ne h2, upd_ne h2, upd_ne h1, upd_ne h2]
      rw [e]
      have g2 := Go.up (o := .xd [(fld, y)]) s1.g.sub hd1
      exact z C [(fld, d)] _ _ ρ m' σ _ _ q (s1.go g2) ⟨rfl, .inr ⟨dx, _, rfl, upd_same, .cons (r.up g2.s) .nil⟩⟩
theorem dsy_raiseU {txt fld : Str} (c : Xi g C n txt fld) (h : DEM g l e ρ m d m') (hf : fitD txt d) (q : Z C [(fld, d)]) (hk : 2 ≤ l.k := by decide) (hg : GlN l n := by rfl) (hdb : (n == ("__debug__" : Str)) = false := by decide)
    (hs : ∀ env, starEach [e] env = [(false, eval e env)] := by intro _; rfl) (hcl : l.cb = true := by rfl) : DSY g l (.Raise (some (.Call (.Name n p1) [e] [] p3)) none pos) ρ m E Z := by
  obtain ⟨hm, T, ⟨fI, fd, nm, iC, tI, F1, hb⟩, tz⟩ := c
  exact .by (fun W _ σ H => tMkO C (spO C txt fld) [] (tCons (UE g l e) tNil) σ H fun cls d H' => W cls d σ H') (fun X W oz => have o := oz.o; ps_raise (o.calm hcl) oz.tk (pmk_oex (CX := CX0) (k := 1) (ds := []) (dvs := []) (by rw [o.K]; exact T) (by rw [o.K]; exact iC) (by rw [o.K]; exact tI) (by rw [o.prog, o.w, o.K, o.mg, o.base]; exact F1) ((o.room hcl).mono hk) (by rw [o.K]; exact hb) .nil pass0 (o.gl hg) (by rw [o.mg]; exact hm) (pa_cons (UE.pe o e) pa_nil (by rw [hs]; rfl)) hdb (by rw [hs]; rfl) (by rfl)))
    (sty_raiseU h hf tz q)
end
theorem cut_init {α : Type} (xs : List α) (x : α) : cutG (xs ++ [x]) none (some (-1)) = xs := by
  have e1 : HT.sIx (xs ++ [x]).length 0 none = 0 := rfl
  have e2 : HT.sIx (xs ++ [x]).length (xs ++ [x]).length (some (-1)) = xs.length := by
    unfold HT.sIx
    rw [List.length_append, List.length_singleton]
    show _ = _
    simp
    omega
  unfold cutG
  rw [e1, e2, List.drop_zero, Nat.sub_zero, List.take_left']
  rfl
theorem at_last {α : Type} (xs : List α) (x : α) : atI (xs ++ [x]) (-1) = some x := by
  have e : ixN (xs ++ [x]).length (-1) = some xs.length := by
    unfold ixN
    rw [List.length_append, List.length_singleton, if_neg (by decide), if_pos (by omega)]
    congr 1
    omega
  unfold atI
  rw [e]
  simp
end PD
namespace SP
open PySem PySem.Spec PyProof.Rows L2 PD
variable {g : Gb} {CR CT : Addr}
abbrev txT : Str := "not lines that can be read, from this row on: "
structure Rdr (g : Gb) (CR CT : Addr) : Prop where
  c : Cls g.K CR
  n1 : NoAttr g.K CR "lines"
  n2 : NoAttr g.K CR "rest"
  n3 : NoAttr g.K CR "row"
  x : Xi g CT "BadText" txT "row"
def rgs (L : List Str) (rest : Str) (row : Nat) : List (Str × DV) := [("lines", .lst (L.map DV.str)), ("rest", .str rest), ("row", .int (row : Int))]
theorem ftT : ∀ n : Nat, n ≤ 100 → fitD txT (.int n) := by
  have h : ∀ n : Nat, n ≤ 100 → ((n : Int).natAbs.log2 < 1920 ∧ (Str.empty ++ txT ++ (toString (n : Int) : Str)).length ≤ sizeLine) := by decide +kernel
  exact h
variable {L : List Str} {rest : Str} {r : Nat}
theorem rgs1 : (rgs L rest r).lookup ("lines" : Str) = some (.lst (L.map DV.str)) := by unfold rgs; rw [List.lookup_cons_self]
theorem rgs2 : (rgs L rest r).lookup ("rest" : Str) = some (.str rest) := by unfold rgs; rw [look_ne (by decide +kernel), List.lookup_cons_self]
theorem rgs3 : (rgs L rest r).lookup ("row" : Str) = some (.int (r : Int)) := by unfold rgs; rw [look_ne (by decide +kernel), look_ne (by decide +kernel), List.lookup_cons_self]
theorem rgs_no {n : Str} (h : ((n == ("lines" : Str)) || (n == ("rest" : Str)) || (n == ("row" : Str))) = false) : (rgs L rest r).lookup n = none := by
  simp only [Bool.or_eq_false_iff] at h
  obtain ⟨⟨h1, h2⟩, h3⟩ := h
  unfold rgs
  rw [look_ne h1, look_ne h2, look_ne h3]
  rfl
/-- a Reader -/
abbrev rdM (g : Gb) (CR p : Addr) (L : List Str) (rest : Str) (r : Nat) : Mo := insM g.K CR p (rgs L rest r)
theorem scRI : FnScope ["self", "lines", "cut"] ["self", "lines"] (defScope s_Reader_init) := ⟨rfl, rfl, rfl, by decide +kernel, rfl, by decide +kernel, by decide +kernel⟩
def A_rinit (g : Gb) (CR CT : Addr) : Mo → List DV → (DV → Mo → Prop) → Zs → Prop := fun m ds R Z => ∃ x v, m = newMo CR x ∧ ds = [.adr x, v] ∧
  ((∃ z L rest, v = .str z ∧ z.length ≤ 100000 ∧ Txt.split z ("\n" : Str) = L ++ [rest] ∧ R .non (rdM g CR x L rest 0)) ∨ ((v = .non ∨ ∃ i, v = .int i) ∧ Z CT [("row", .int ((0 : Nat) : Int))]))
theorem ok_rinit (B : Bt g) (D : Rdr g CR CT) {f : Addr} {fd : FuncData} (F : Fun g.K "__init__" "Reader.__init__" s_Reader_init f fd) : FnOk g.P g.w g.K g.mg g.base (L2.CX g.P g.w) 3 f fd ["self", "lines"] (spY g.K (A_rinit g CR CT)) := by
  refine fn_okY F scRI (fun m ds R Z ⟨x, v, _, e, _⟩ => by rw [e]; rfl) fun m ds R Z ⟨x, v, em, e, h⟩ => ?_
  subst em e
  rcases h with ⟨z, L, rest, rfl, hz, hs, hR⟩ | ⟨hv, hZ⟩
  · refine dssy_cons (dsy_if (b := false) (dtm_of (DT.is (dt_not (dt_e (de_isStr (d := .str z) B rfl (de_v 1)))) rfl)) (fun y => by cases y) fun _ => dssy_nil ?_)
    refine dssy_cons (.of (dsm_set 2 scRI.nd (dem_of (dl_split hz (by decide) (de_v 1) de_str).de) ?_))
    rw [hs]
    refine dssy_cons (.of (dsm_fld0 D.c D.n1 0 rfl (d := .lst (L.map DV.str)) (DE.is (de_slL (xs := (L ++ [rest]).map DV.str) (de_v 2) dp_none (dp_some (de_neg de_int))) ?_) ?_))
    · rw [List.map_append]
      exact congrArg DV.lst (cut_init _ _)
    refine dssy_cons (.of (dsm_fld D.c D.n2 0 rfl (d := .str rest) (de_ixL (xs := (L ++ [rest]).map DV.str) (by rw [List.map_append]; exact at_last _ _) (de_v 2) (de_neg de_int)) (by show 1 < 900; decide) ?_))
    refine dssy_one (.of (dsm_fld D.c D.n3 0 rfl (d := .int 0) de_int (by show 2 < 900; decide) ?_))
    exact hR
  · have ho : v.isObj = false := by rcases hv with rfl | ⟨i, rfl⟩ <;> rfl
    refine dssy_cons (dsy_if (b := true) (dtm_of (DT.is (dt_not (dt_e (de_isStr (d := v) B ho (de_v 1)))) (by rcases hv with rfl | ⟨i, rfl⟩ <;> rfl))) (fun _ => dssy_one (dsy_raise1 D.x (d := .int ((0 : Nat) : Int)) de_int (ftT 0 (by decide)) hZ)) fun y => by cases y)
/-- what a table has for the next line -/
def lookV (L : List Str) (r : Nat) (ks vs : List DV) : DV := match L[r]? with
  | some x => (dlook ks vs (.str x)).getD .non
  | none => .non
theorem key_str (x : Str) : (DV.str x).isKeyD = true := rfl
theorem look_mem : ∀ {ks vs : List DV} {d v : DV}, dlook ks vs d = some v → v ∈ vs
  | [], _, _, _, h => by cases h
  | _ :: _, [], _, _, h => by cases h
  | k :: ks, u :: vs, d, v, h => by
    unfold dlook at h
    split at h
    · cases h; exact List.mem_cons_self ..
    · exact List.mem_cons_of_mem _ (look_mem h)
theorem look_key {L : List Str} {r : Nat} {ks vs : List DV} (h : ∀ v ∈ vs, v.isKey = true) : (lookV L r ks vs).isKey = true := by
  unfold lookV
  split
  · rename_i x _
    cases e : dlook ks vs (.str x) with
    | none => rfl
    | some v => exact h v (look_mem e)
  · rfl
theorem scRL : FnScope ["self", "table"] ["self", "table"] (defScope s_Reader_look) := ⟨rfl, rfl, rfl, by decide +kernel, rfl, by decide +kernel, by decide +kernel⟩
def A_look (g : Gb) (CR : Addr) : Mo → List DV → (DV → Mo → Prop) → Prop := fun m ds R => ∃ p L rest r ks vs, m = rdM g CR p L rest r ∧ ds = [.adr p, .dct g.w ks vs] ∧ r ≤ L.length ∧ (∀ v ∈ vs, v.isKey = true) ∧ ∀ d m', d = lookV L r ks vs → m' = m → R d m'
theorem ok_look (B : Bt g) (D : Rdr g CR CT) {f : Addr} {fd : FuncData} (F : Fun g.K "look" "Reader.look" s_Reader_look f fd) : FnOk g.P g.w g.K g.mg g.base CX0 1 f fd ["self", "table"] (spM g.K (A_look g CR)) := by
  refine fn_okM F scRL (fun m ds R ⟨p, L, rest, r, ks, vs, _, e, _⟩ => by rw [e]; rfl) fun m ds R ⟨p, L, rest, r, ks, vs, em, e, hr, hv, hR⟩ => ?_
  subst em e
  have vw : Vw g.K (rdM g CR p L rest r) p (.obj CR (rgs L rest r)) := insM_vw
  refine dssm_cons (dsm_if (b := decide ((r : Int) = (L.length : Int))) (DTM.is (dtm_lend (i := 0) vw rfl (dt_eqI (de_fld D.c D.n3 rgs3 (de_v 0)) (de_len B.len (ds := L.map DV.str) rfl (de_fld D.c D.n1 rgs1 (de_v 0))))) (by rw [List.length_map])) (fun y => dssm_one (dsm_ret (dem_of de_non) (hR _ _ ?_ rfl))) fun y => dssm_nil ?_)
  · have e : r = L.length := by have := of_decide_eq_true y; omega
    unfold lookV
    rw [List.getElem?_eq_none (by omega)]
  · have lt : r < L.length := by have := of_decide_eq_false y; omega
    refine dssm_one (dsm_ret (dem_lendK (i := 0) vw rfl (de_dget1 (key_str L[r]) (de_v 1) (de_ixL (xs := L.map DV.str) (i := (r : Int)) (d := .str L[r]) ?_ (de_fld D.c D.n1 rgs1 (de_v 0)) (de_fld D.c D.n3 rgs3 (de_v 0)))) ?_) (hR _ _ ?_ rfl))
    · exact atI_nat (by rw [List.getElem?_map, List.getElem?_eq_getElem lt]; rfl)
    · have := look_key (L := L) (r := r) (ks := ks) hv
      unfold lookV at this
      rw [List.getElem?_eq_getElem lt] at this
      exact this
    · unfold lookV
      rw [List.getElem?_eq_getElem lt]
theorem scRT : FnScope ["self", "table", "found"] ["self", "table"] (defScope s_Reader_take) := ⟨rfl, rfl, rfl, by decide +kernel, rfl, by decide +kernel, by decide +kernel⟩
def A_take (g : Gb) (CR CT : Addr) : Mo → List DV → (DV → Mo → Prop) → Zs → Prop := fun m ds R Z => ∃ p L rest r ks vs, m = rdM g CR p L rest r ∧ ds = [.adr p, .dct g.w ks vs] ∧ r ≤ L.length ∧ r ≤ 100 ∧ (∀ v ∈ vs, v.isKey = true) ∧
  ((lookV L r ks vs).isN = true → Z CT [("row", .int (r : Int))]) ∧ ((lookV L r ks vs).isN = false → R (lookV L r ks vs) (rdM g CR p L rest (r + 1)))
theorem ok_take (D : Rdr g CR CT) (Lk : MeM g 1 CR "look" (A_look g CR)) {f : Addr} {fd : FuncData} (F : Fun g.K "take" "Reader.take" s_Reader_take f fd) : FnOk g.P g.w g.K g.mg g.base (L2.CX g.P g.w) 3 f fd ["self", "table"] (spY g.K (A_take g CR CT)) := by
  refine fn_okY F scRT (fun m ds R Z ⟨p, L, rest, r, ks, vs, _, e, _⟩ => by rw [e]; rfl) fun m ds R Z ⟨p, L, rest, r, ks, vs, em, e, hr, hm, hv, h1, h2⟩ => ?_
  subst em e
  have vw : Vw g.K (rdM g CR p L rest r) p (.obj CR (rgs L rest r)) := insM_vw
  refine dssy_cons (dsy_set 2 scRT.nd (.of (der_meth (R := fun d m' => d = lookV L r ks vs ∧ m' = rdM g CR p L rest r) D.c Lk (insM_at (rgs_no (by decide +kernel))) (de_v 0) (da_cons (de_v 1) da_nil) ⟨p, L, rest, r, ks, vs, rfl, rfl, hr, hv, fun d m' a b => ⟨a, b⟩⟩)) ?_)
  rintro d m' ⟨rfl, rfl⟩
  refine dssy_cons (dsy_if (b := (lookV L r ks vs).isN) (dtm_of (dt_isN (de_v 2))) (fun y => dssy_one (dsy_raiseU D.x (dem_lendF (i := 0) vw rfl (de_fld D.c D.n3 rgs3 (de_v 0)) rfl) (ftT r hm) (h1 y))) fun y => dssy_nil ?_)
  refine dssy_cons (.of (dsm_aug D.c D.n3 0 rfl rgs3 (by show 3 < 900; decide) ?_))
  refine dssy_one (.of (dsm_ret (dem_of (de_v 2)) ?_))
  exact h2 y
theorem scRE : FnScope ["self"] ["self"] (defScope s_Reader_end) := ⟨rfl, rfl, rfl, by decide +kernel, rfl, by decide +kernel, by decide +kernel⟩
def endBad (L : List Str) (rest : Str) (r : Nat) : Bool := decide (r < L.length) || !decide (rest = ("" : Str))
def A_end (g : Gb) (CR CT : Addr) : Mo → List DV → (DV → Mo → Prop) → Zs → Prop := fun m ds R Z => ∃ p L rest r, m = rdM g CR p L rest r ∧ ds = [.adr p] ∧ r ≤ 100 ∧
  (endBad L rest r = true → Z CT [("row", .int (r : Int))]) ∧ (endBad L rest r = false → R .non (rdM g CR p L rest r))
theorem ok_end (B : Bt g) (D : Rdr g CR CT) {f : Addr} {fd : FuncData} (F : Fun g.K "end" "Reader.end" s_Reader_end f fd) : FnOk g.P g.w g.K g.mg g.base (L2.CX g.P g.w) 3 f fd ["self"] (spY g.K (A_end g CR CT)) := by
  refine fn_okY F scRE (fun m ds R Z ⟨p, L, rest, r, _, e, _⟩ => by rw [e]; rfl) fun m ds R Z ⟨p, L, rest, r, em, e, hm, h1, h2⟩ => ?_
  subst em e
  have vw : Vw g.K (rdM g CR p L rest r) p (.obj CR (rgs L rest r)) := insM_vw
  refine dssy_one (dsy_if (b := endBad L rest r) (DTM.is (dtm_lend (i := 0) vw rfl (dt_w (dw_or (x := decide ((r : Int) < (L.length : Int))) (DT.is (dt_ltI (de_fld D.c D.n3 rgs3 (de_v 0)) (de_len B.len (ds := L.map DV.str) rfl (de_fld D.c D.n1 rgs1 (de_v 0)))) (by rw [List.length_map])) fun _ => dw_or1 (dt_neS (de_fld D.c D.n2 rgs2 (de_v 0)) de_str)))) ?_) (fun y => dssy_one (dsy_raiseU D.x (dem_lendF (i := 0) vw rfl (de_fld D.c D.n3 rgs3 (de_v 0)) rfl) (ftT r hm) (h1 y))) fun y => dssy_nil (h2 y))
  unfold endBad
  congr 1
  exact decide_eq_decide.mpr (by omega)
end SP

/-! read_file. -/
namespace PD
open PySem PySem.Spec PyProof.Rows L2
theorem EvR.u {K : PySem.W.Frag} {te : TE} {ρ : Rho} {m m' : Mo} {R : DV → Mo → Prop} {d : DV} (h : EvR K te ρ m R) (w : ∀ d' m2, R d' m2 → d' = d ∧ m2 = m') : EvU K te ρ m d m' := fun S0 H0 B σ S H s Q q => h S0 H0 B σ S H s Q fun d' m2 v S' H' r s' e rr => by
  obtain ⟨rfl, rfl⟩ := w d' m2 r
  exact q v S' H' s' e rr
section
variable {g : Gb} {l : Lc} {ρ : Rho} {m m' : Mo} {a b : Expr} {x y : Bool} {pos p : Pos} {d : DV} {j : Nat}
theorem dtm_and2 (h1 : DT g l a ρ x) (h2 : x = true → DTM g l b ρ m y m) (h0 : x = false → y = false) : DTM g l (.BoolOp .And [a, b] pos) ρ m y m :=
  .by (tAnd (UT g l a) (UT g l b)) (fun X o => (pw_and (UT.pt o a) (pw_and1 (UT.pt o b))).pt) fun S0 H0 B σ S H s Q q => (ebu_of h1 : EvBU g.K (UT g l a) ρ m x m) S0 H0 B σ S H s _ fun S1 H1 s1 e1 => by
    cases x with
    | true =>
      rw [if_pos rfl]
      exact h2 rfl S0 H0 B σ S1 H1 s1 Q fun S2 H2 s2 e2 => q S2 H2 s2 (e1.tr e2)
    | false =>
      rw [if_neg (by decide)]
      have := h0 rfl
      subst this
      exact q S1 H1 s1 e1
theorem dtm_notN (h : DEM g l a ρ m d m') : DTM g l (.Compare a [.IsNot] [.Constant .none j p] pos) ρ m (!d.isN) m' :=
  .by _ (fun X o => pt_cmpR op_notN (UE.pe o a) (UE.pe o (.Constant .none j p)) (nomark _)) (ebu_test (evu_op h de_non od_notNn))
end
end PD
namespace SP
open PySem PySem.Spec PyProof.Rows L2 PD
variable {g : Gb} {C CR CT : Addr}
/-! ### tables -/
def tk {α : Type} (T : List (Str × α)) (L : List Str) (r : Nat) : Option α := match L[r]? with
  | some x => T.lookup x
  | none => none
def tKs {α : Type} (T : List (Str × α)) : List DV := T.map fun x => .str x.1
def tVs {α : Type} (f : α → DV) (T : List (Str × α)) : List DV := T.map fun x => f x.2
theorem nk_str {x y : Str} : ((DV.str x).nk = (DV.str y).nk) ↔ x = y := ⟨fun h => by
  have h' : NestedKey.text x = NestedKey.text y := h
  exact NestedKey.text.inj h', fun h => by rw [h]⟩
theorem dlook_tab {α : Type} (f : α → DV) : ∀ (T : List (Str × α)) (x : Str), dlook (tKs T) (tVs f T) (.str x) = (T.lookup x).map f
  | [], _ => rfl
  | (y, a) :: T, x => by
    show dlook (.str y :: tKs T) (f a :: tVs f T) (.str x) = _
    rw [List.lookup_cons]
    unfold dlook
    by_cases h : x = y
    · subst h
      simp
    · have e : (x == y) = false := beq_eq_false_iff_ne.mpr h
      rw [e, if_neg (fun z => h (nk_str.mp z).symm), dlook_tab f T x]
def orN {α : Type} (f : α → DV) : Option α → DV
  | some a => f a
  | none => .non
theorem look_tab {α : Type} (f : α → DV) (T : List (Str × α)) (L : List Str) (r : Nat) : lookV L r (tKs T) (tVs f T) = orN f (tk T L r) := by
  unfold lookV tk
  cases L[r]? with
  | none => rfl
  | some x =>
    show (dlook _ _ _).getD .non = orN f (List.lookup x T)
    rw [dlook_tab]
    cases T.lookup x <;> rfl
def lettersT : List (Str × Str) := [("ab" : Str), ("abc" : Str)].map fun x => (lettersL x, x)
def piecesT (ls : Str) : List (Str × Str) := (piecesOf ls).map fun p => (pieceL p, p)
def ordersT (n : Nat) : List (Str × List Nat) := (ordersOf n).map fun o => (orderL o, o)
def pricesT (n : Str) : List (Str × Int) := pricesI.map fun p => (priceL n p, p)
def tornT : List (Str × Bool) := [false, true].map fun b => (tornL b, b)
/-- the pieces that follow -/
def moreP (ls : Str) (L : List Str) : Nat → Nat → List Str
  | _, 0 => []
  | r, k + 1 => match tk (piecesT ls) L r with
    | some p => p :: moreP ls L (r + 1) k
    | none => []
def badRow (CT : Addr) (r : Nat) : Out := .exc CT [("row", .int (r : Int))]
def readF (C CT : Addr) (L : List Str) (rest : Str) : Out := match tk lettersT L 0 with
  | none => badRow CT 0
  | some ls => match tk (piecesT ls) L 1 with
    | none => badRow CT 1
    | some p0 =>
      let ps := p0 :: moreP ls L 2 3
      match tk (ordersT ps.length) L (1 + ps.length) with
      | none => badRow CT (1 + ps.length)
      | some od => match tk (pricesT "piece_price") L (2 + ps.length) with
        | none => badRow CT (2 + ps.length)
        | some pp => match tk (pricesT "order_price") L (3 + ps.length) with
          | none => badRow CT (3 + ps.length)
          | some op => match tk tornT L (4 + ps.length) with
            | none => badRow CT (4 + ps.length)
            | some tn => if endBad L rest (5 + ps.length) then badRow CT (5 + ps.length) else .val (fileD C ls ps od pp op tn)
/-- what a text leads to -/
def readO (C CT : Addr) (v : DV) (o : Out) : Prop := ((v = .non ∨ ∃ i, v = .int i) ∧ o = badRow CT 0) ∨ ∃ z L rest, v = .str z ∧ z.length ≤ 100000 ∧ L.length ≤ 80 ∧ Txt.split z ("\n" : Str) = L ++ [rest] ∧ o = readF C CT L rest
theorem nd_letters : (nkAll (tKs lettersT)).Nodup := by decide +kernel
theorem nd_pieces {ls : Str} (h : letterSet ls) : (nkAll (tKs (piecesT ls))).Nodup := by rcases h with rfl | rfl <;> decide +kernel
theorem nd_orders {n : Nat} (h : n ≤ 4) : (nkAll (tKs (ordersT n))).Nodup := by
  have : n = 0 ∨ n = 1 ∨ n = 2 ∨ n = 3 ∨ n = 4 := by omega
  rcases this with rfl | rfl | rfl | rfl | rfl <;> decide +kernel
theorem nd_torn : (nkAll (tKs tornT)).Nodup := by decide +kernel
theorem lookup_mem {α : Type} : ∀ {T : List (Str × α)} {x : Str} {a : α}, T.lookup x = some a → (x, a) ∈ T
  | [], _, _, h => by cases h
  | (y, b) :: T, x, a, h => by
    rw [List.lookup_cons] at h
    split at h
    · rename_i e
      cases h
      rw [beq_iff_eq.mp e]
      exact List.mem_cons_self ..
    · exact List.mem_cons_of_mem _ (lookup_mem h)
theorem tk_mem {α : Type} {T : List (Str × α)} {L : List Str} {r : Nat} {a : α} (h : tk T L r = some a) : ∃ x, (x, a) ∈ T ∧ L[r]? = some x := by
  unfold tk at h
  split at h
  · rename_i x e
    exact ⟨x, lookup_mem h, e⟩
  · cases h
theorem tk_lt {α : Type} {T : List (Str × α)} {L : List Str} {r : Nat} {a : α} (h : tk T L r = some a) : r < L.length := by
  obtain ⟨x, _, e⟩ := tk_mem h
  exact (List.getElem?_eq_some_iff.mp e).1
theorem tk_letters {L : List Str} {r : Nat} {ls : Str} (h : tk lettersT L r = some ls) : letterSet ls := by
  obtain ⟨x, hx, _⟩ := tk_mem h
  unfold lettersT at hx
  simp only [List.map_cons, List.map_nil, List.mem_cons, Prod.mk.injEq, List.not_mem_nil, or_false] at hx
  rcases hx with ⟨_, rfl⟩ | ⟨_, rfl⟩
  · exact .inl rfl
  · exact .inr rfl
theorem tk_pieces {L : List Str} {r : Nat} {ls p : Str} (h : tk (piecesT ls) L r = some p) : p ∈ piecesOf ls := by
  obtain ⟨x, hx, _⟩ := tk_mem h
  unfold piecesT at hx
  rw [List.mem_map] at hx
  obtain ⟨y, hy, e⟩ := hx
  cases e
  exact hy
theorem tk_orders {L : List Str} {r n : Nat} {o : List Nat} (h : tk (ordersT n) L r = some o) : o ∈ ordersOf n := by
  obtain ⟨x, hx, _⟩ := tk_mem h
  unfold ordersT at hx
  rw [List.mem_map] at hx
  obtain ⟨y, hy, e⟩ := hx
  cases e
  exact hy
theorem tk_prices {L : List Str} {r : Nat} {n : Str} {p : Int} (h : tk (pricesT n) L r = some p) : 1 ≤ p ∧ p ≤ 5 := by
  obtain ⟨x, hx, _⟩ := tk_mem h
  unfold pricesT pricesI at hx
  simp only [List.map_cons, List.map_nil, List.mem_cons, Prod.mk.injEq, List.not_mem_nil, or_false] at hx
  omega
theorem moreP_mem (ls : Str) (L : List Str) : ∀ k r, ∀ p ∈ moreP ls L r k, p ∈ piecesOf ls
  | 0, r, p, h => by cases h
  | k + 1, r, p, h => by
    unfold moreP at h
    split at h
    · rename_i p' e
      rcases List.mem_cons.mp h with rfl | h
      · exact tk_pieces e
      · exact moreP_mem ls L k (r + 1) p h
    · cases h
end SP

/-! read_file, either outcome. -/
namespace SP
open PySem PySem.Spec PyProof.Rows L2 PD
variable {g : Gb} {C CR CT : Addr}
abbrev rfN : List Str := ["lines", "reader", "letters", "choices", "pieces", "order", "piece_price", "order_price", "torn", "choice", "piece"]
theorem scRF : FnScope rfN ["lines"] (defScope s_read_file) := ⟨rfl, rfl, rfl, by decide +kernel, rfl, by decide +kernel, by decide +kernel⟩
theorem isN_key {α : Type} {f : α → DV} (hf : ∀ a, (f a).isN = false) (o : Option α) : (orN f o).isN = o.isNone := by
  cases o with
  | none => rfl
  | some a => exact hf a
theorem vs_key {α : Type} {f : α → DV} (hf : ∀ a, (f a).isKey = true) (T : List (Str × α)) : ∀ v ∈ tVs f T, v.isKey = true := fun v h => by
  unfold tVs at h
  rw [List.mem_map] at h
  obtain ⟨x, _, rfl⟩ := h
  exact hf _
theorem key_od : ∀ o : List Nat, keyAll (odD o) = true
  | [] => rfl
  | _ :: o => key_od o
/-- reader.take(table) -/
theorem dey_take {α : Type} {f : α → DV} {T : List (Str × α)} {l : Lc} {ρ : Rho} {o e : Expr} {pos apos : Pos} {p : Addr} {L : List Str} {rest : Str} {r : Nat} {R : DV → Mo → Prop} {Z : Zs} {pl : Env → Sem Bool} (D : Rdr g CR CT) (Tk : MeY g 3 CR "take" (A_take g CR CT)) (hf : ∀ a, (f a).isKey = true) (hn : ∀ a, (f a).isN = false)
    (h : DE g l o ρ (.adr p)) (ha : DE g l e ρ (.dct g.w (tKs T) (tVs f T))) (hr : r ≤ L.length) (hm : r ≤ 100) (h1 : tk T L r = none → Z CT [("row", .int (r : Int))]) (h2 : ∀ a, tk T L r = some a → R (f a) (rdM g CR p L rest (r + 1))) (hk : 3 ≤ l.k := by decide)
    (hs : ∀ env, starEach [e] env = (false, eval e env) :: starEach [] env := by intro _; rfl) (hpl : ∀ env, (backTo pos (starEach [] env)).any (·.1) = false := by intro _; rfl)
    (ht : ∀ env, eval (.Call (.Attribute o "take" apos) [e] [] pos) env = (do
      let ov ← eval o env; standAt apos.atName; let (f, first) ← holding [ov] (getMethod ov "take" (pl env)); callWith pos f first (backTo pos (starEach [e] env)) (backToKw pos (keywordEach [] env))) := by intro _; rfl) (hcl : l.cb = true := by rfl) : DEY g l (.Call (.Attribute o "take" apos) [e] [] pos) ρ (rdM g CR p L rest r) R Z := by
  refine dey_meth (pl := pl) D.c Tk (insM_at (rgs_no (by decide +kernel))) h (da_cons ha da_nil hs) ⟨p, L, rest, r, _, _, rfl, rfl, hr, hm, vs_key hf T, fun z => h1 ?_, fun z => ?_⟩ hk hs hpl ht hcl
  · rw [look_tab, isN_key hn] at z
    exact Option.isNone_iff_eq_none.mp z
  · rw [look_tab, isN_key hn] at z
    rw [look_tab]
    cases e2 : tk T L r with
    | none => rw [e2] at z; cases z
    | some a => exact h2 a e2
/-- {line(x): x for x in xs} -/
theorem nil_dputs {α : Type} (f : α → DV) (fl : DV → DV) (kl : α → Str) (xs : List α) (hl : ∀ a ∈ xs, fl (f a) = .str (kl a)) (nd : (nkAll (tKs (xs.map fun a => (kl a, a)))).Nodup) : dputs (fun _ => true) fl (fun d => d) (xs.map f) ([], []) = (tKs (xs.map fun a => (kl a, a)), tVs f (xs.map fun a => (kl a, a))) := by
  have e1 : (xs.map f).map fl = tKs (xs.map fun a => (kl a, a)) := by
    unfold tKs
    rw [List.map_map, List.map_map]
    exact List.map_congr_left hl
  rw [dputs_all _ _ _ rfl (by rw [List.nil_append, e1]; exact nd), List.nil_append, List.nil_append, e1]
  refine congrArg (Prod.mk _) ?_
  unfold tVs
  rw [List.map_map, List.map_map]
  rfl
def R_readf (C CT : Addr) : List DV → Out → Prop := fun ds o => ∃ v, ds = [v] ∧ readO C CT v o
theorem len_own {l : Lc} {ρ : Rho} {e : Expr} {p pos : Pos} {ds : List DV} (B : Bt g) (i : Nat) (hi : ρ[i]? = some (.own ds)) (h : DE g l e (ρ.set i (.val (.lst ds))) (.lst ds)) (hg : GlN l "len" := by rfl) (hs : ∀ env, starEach [e] env = [(false, eval e env)] := by intro _; rfl) : DE g l (.Call (.Name "len" p) [e] [] pos) ρ (.int ds.length) :=
  ev_tmp hi (de_len B.len rfl h hg hs) rfl
theorem ok_readf (B : Bt g) (S : Cs g) (Cf : Cf g) (D : Rdr g CR CT) (P : Fp g C) (LL : Fn g 1 "letters_line" R_lline) (PL : Fn g 2 "piece_line" R_pline) (OL : Fn g 1 "order_line" R_oline) (PR : Fn g 2 "price_lines" (R_prlines g.w)) (TL : Fn g 1 "torn_line" R_tline)
    (AP : Fn g 2 "all_pieces" R_allp) (AO : Fn g 2 "all_orders" R_allo) (Mk : MkY g 3 CR "Reader" (A_rinit g CR CT)) (Lk : MeM g 1 CR "look" (A_look g CR)) (Tk : MeY g 3 CR "take" (A_take g CR CT)) (En : MeY g 3 CR "end" (A_end g CR CT))
    {f : Addr} {fd : FuncData} (F : Fun g.K "read_file" "read_file" s_read_file f fd) : FnOk g.P g.w g.K g.mg g.base (L2.CX g.P g.w) 6 f fd ["lines"] (spZ g.K (R_readf C CT)) := by
  refine fn_okYE F scRF (fun ds o ⟨v, e, _⟩ => by rw [e]; rfl) fun ds o ⟨v, e, h⟩ => ?_
  subst e
  obtain ⟨tB, hB⟩ := Cf.mb
  obtain ⟨TS, hT, hTS⟩ := Cf.sets
  rcases h with ⟨hv, rfl⟩ | ⟨z, L, rest, rfl, hz, hL, hs, rfl⟩
  · refine dssy_cons (dsy_set 1 scRF.nd (dey_make (R := fun _ _ => False) Mk (da_cons (de_v 0) da_nil) fun x => ⟨x, v, rfl, rfl, .inr ⟨hv, rfl⟩⟩) ?_)
    rintro d m' ⟨x, _, h⟩
    exact h.elim
  · refine dssy_cons (dsy_set 1 scRF.nd (dey_make (R := fun x m' => m' = rdM g CR x L rest 0) Mk (da_cons (de_v 0) da_nil) fun x => ⟨x, _, rfl, rfl, .inl ⟨z, L, rest, rfl, hz, hs, rfl, rfl⟩⟩) ?_)
    rintro d m' ⟨x, rfl, rfl⟩
    refine dssy_cons (dsy_set 2 scRF.nd (dey_take (f := DV.str) (T := lettersT) (R := fun d m' => ∃ ls, tk lettersT L 0 = some ls ∧ d = .str ls ∧ m' = rdM g CR x L rest 1) D Tk (fun _ => rfl) (fun _ => rfl) (de_v 1) (DE.is (de_dc (own := [("choice", 9)]) scRF.nd (by decide +kernel) (di_t (ds := [.str "ab", .str "abc"]) (de_gl (v := .ref TS) hT rfl hTS)) (by decide) (is := [9]) (by decide)
      (fun d => [.val (.str z), .val (.adr x), .un, .un, .un, .un, .un, .un, .un, .val d, .un]) (fun _ => true) (fun d => match d with | .str y => .str (lettersL y) | _ => .non) (fun d => d) (fun d hd => dg_n 9 scRF.nd) (fun d hd => dts_nil) (fun d hd _ => ?_) (fun d hd _ => de_v 9)) ?_) (Nat.zero_le _) (by decide) (fun e => ?_) (fun a e => ⟨a, e, rfl, rfl⟩)) ?_)
    · simp only [List.mem_cons, List.not_mem_nil, or_false] at hd
      rcases hd with rfl | rfl
      · exact ⟨de_call LL (da_cons (de_v 9) da_nil) ⟨"ab", by decide +kernel, rfl, rfl⟩, rfl⟩
      · exact ⟨de_call LL (da_cons (de_v 9) da_nil) ⟨"abc", by decide +kernel, rfl, rfl⟩, rfl⟩
    · have := nil_dputs DV.str (fun d => match d with | .str y => .str (lettersL y) | _ => .non) lettersL [("ab" : Str), ("abc" : Str)] (fun a _ => rfl) nd_letters
      have e2 : dputs (fun _ => true) (fun d => match d with | .str y => .str (lettersL y) | _ => .non) (fun d => d) [DV.str "ab", DV.str "abc"] ([], []) = (tKs lettersT, tVs DV.str lettersT) := this
      rw [e2]
    · unfold readF
      rw [e]
      rfl
    rintro d m' ⟨ls, e1, rfl, rfl⟩
    have hls := tk_letters e1
    have l1 : 1 ≤ L.length := tk_lt e1
    have w : ∀ p ∈ piecesOf ls, p.length ≤ 2 := fun p hp => wordOk_len (pieces_word hls p hp)
    have pd : dputs (fun _ => true) (fun d => match d with | .str y => .str (pieceL y) | _ => .non) (fun d => d) (psD (piecesOf ls)) ([], []) = (tKs (piecesT ls), tVs DV.str (piecesT ls)) := nil_dputs DV.str (fun d => match d with | .str y => .str (pieceL y) | _ => .non) pieceL (piecesOf ls) (fun a _ => rfl) (nd_pieces hls)
    refine dssy_cons (.of (dsm_of (E' := { nx := fun ρ' => ρ' = [.val (.str z), .val (.adr x), .val (.str ls), .val (.dct g.w (tKs (piecesT ls)) (tVs DV.str (piecesT ls))), .un, .un, .un, .un, .un, .un, .un] }) (ds_dcV 3 (own := [("piece", 10)]) scRF.nd (by decide +kernel) (di_l (de_call AP (da_cons (de_v 2) da_nil) ⟨ls, hls, rfl, rfl⟩)) ?_ (is := [10]) (by decide)
      (fun d => [.val (.str z), .val (.adr x), .val (.str ls), .un, .un, .un, .un, .un, .un, .un, .val d]) (fun _ => true) (fun d => match d with | .str y => .str (pieceL y) | _ => .non) (fun d => d) (fun d hd => dg_n 10 scRF.nd) (fun d hd => dts_nil) (fun d hd _ => ?_) (fun d hd _ => de_v 10) ?_) ?_ (fun _ z => z) (fun _ z => z.elim) fun _ z => z.elim))
    · rw [psD_len]
      have := piecesOf_len hls
      omega
    · unfold psD at hd
      rw [List.mem_map] at hd
      obtain ⟨p, hp, rfl⟩ := hd
      exact ⟨de_call PL (da_cons (de_v 10) da_nil) ⟨p, Nat.le_trans (w p hp) (by decide), rfl, rfl⟩, rfl⟩
    · rw [pd]
      rfl
    rintro ρ rfl
    -- the first piece
    refine dssy_cons (dsy_setL1 4 scRF.nd (dey_take (f := DV.str) (T := piecesT ls) (R := fun d m' => ∃ p, tk (piecesT ls) L 1 = some p ∧ d = .str p ∧ m' = rdM g CR x L rest 2) D Tk (fun _ => rfl) (fun _ => rfl) (de_v 1) (de_v 3) l1 (by decide) (fun e => ?_) (fun a e => ⟨a, e, rfl, rfl⟩)) ?_)
    · unfold readF
      rw [e1]
      show (match tk (piecesT ls) L 1 with | none => badRow CT 1 | some p0 => _) = _
      rw [e]
      rfl
    rintro d m' ⟨p0, e2, rfl, rfl⟩
    have l2 : 2 ≤ L.length := tk_lt e2
    -- the others
    refine dssy_cons (dsy_while (E := _) (fun n ρ' m' => ∃ ps : List Str, n = 4 - ps.length ∧ 1 ≤ ps.length ∧ ps.length ≤ 4 ∧ 1 + ps.length ≤ L.length ∧ ps ++ moreP ls L (1 + ps.length) (4 - ps.length) = p0 :: moreP ls L 2 3 ∧ m' = rdM g CR x L rest (1 + ps.length) ∧
      ρ' = [.val (.str z), .val (.adr x), .val (.str ls), .val (.dct g.w (tKs (piecesT ls)) (tVs DV.str (piecesT ls))), .own (psD ps), .un, .un, .un, .un, .un, .un]) 3 ⟨[p0], rfl, Nat.le_refl _, (by show 1 ≤ 4; decide), l2, rfl, rfl, rfl⟩ ?_)
    rintro n ρ' m' ⟨ps, hn, h1, h4, hl, hmore, rfl, rfl⟩
    refine ⟨decide (ps.length < 4) && (tk (piecesT ls) L (1 + ps.length)).isSome, rdM g CR x L rest (1 + ps.length), dtm_and2 (x := decide (ps.length < 4)) (DT.is (dt_ltI (i := (ps.length : Int)) (j := 4) (DE.is (len_own (ds := psD ps) B 4 rfl (de_v 4)) (by rw [psD_len])) (de_gl (v := .int 4) hB ⟨tB, rfl⟩ fun S => .int 4)) (decide_eq_decide.mpr (by omega))) (fun hx => ?_) (fun hx => by rw [hx]; rfl), fun hb => ?_, fun hb => ?_⟩
    · refine DTM.is (dtm_notN (d := orN DV.str (tk (piecesT ls) L (1 + ps.length))) (m' := rdM g CR x L rest (1 + ps.length)) (EvR.u (der_meth (R := fun d m' => d = orN DV.str (tk (piecesT ls) L (1 + ps.length)) ∧ m' = rdM g CR x L rest (1 + ps.length)) D.c Lk (insM_at (rgs_no (by decide +kernel))) (de_v 1) (da_cons (de_v 3) da_nil) ⟨x, L, rest, 1 + ps.length, tKs (piecesT ls), tVs DV.str (piecesT ls), rfl, rfl, hl, vs_key (fun _ => rfl) _, fun d m' a b => ⟨by rw [a, look_tab], b⟩⟩) fun d m' h => h)) ?_
      rw [isN_key (fun _ => rfl), hx]
      cases tk (piecesT ls) L (1 + ps.length) <;> rfl
    · rw [Bool.and_eq_true] at hb
      obtain ⟨hb1, hb2⟩ := hb
      have lt : ps.length < 4 := of_decide_eq_true hb1
      obtain ⟨p, hp⟩ := Option.isSome_iff_exists.mp hb2
      refine dssy_one (dsy_append 4 rfl (dey_take (f := DV.str) (T := piecesT ls) (R := fun d m' => d = .str p ∧ m' = rdM g CR x L rest (1 + ps.length + 1)) D Tk (fun _ => rfl) (fun _ => rfl) (de_v 1) (de_v 3) hl (by omega) (fun e => by rw [hp] at e; cases e) (fun a e => by rw [hp] at e; cases e; exact ⟨rfl, rfl⟩)) (by rw [psD_len]; omega) ?_)
      rintro d m' ⟨rfl, rfl⟩
      have e4 : 4 - ps.length = (4 - (ps ++ [p]).length) + 1 := by rw [List.length_append, List.length_singleton]; omega
      refine ⟨4 - (ps ++ [p]).length, by omega, ps ++ [p], rfl, by simp, by rw [List.length_append, List.length_singleton]; omega, by rw [List.length_append, List.length_singleton]; have := tk_lt hp; omega, ?_, by rw [List.length_append, List.length_singleton, Nat.add_assoc], ?_⟩
      · rw [← hmore, e4]
        conv => rhs; unfold moreP
        rw [hp, List.append_assoc, List.length_append, List.length_singleton, Nat.add_assoc]
        rfl
      · unfold psD
        rw [List.map_append]
        rfl
    · have hps : ps = p0 :: moreP ls L 2 3 := by
        have e0 : moreP ls L (1 + ps.length) (4 - ps.length) = [] := by
          cases k : 4 - ps.length with
          | zero => rfl
          | succ k' =>
            have lt : ps.length < 4 := by omega
            rw [decide_eq_true lt, Bool.true_and] at hb
            unfold moreP
            cases ek : tk (piecesT ls) L (1 + ps.length) with
            | none => rfl
            | some p => rw [ek] at hb; cases hb
        rw [e0, List.append_nil] at hmore
        exact hmore
      have hmem : ∀ p ∈ ps, p ∈ piecesOf ls := fun p hp => by
        rw [hps] at hp
        rcases List.mem_cons.mp hp with rfl | hp
        · exact tk_pieces e2
        · exact moreP_mem ls L 3 2 p hp
      have rf : readF C CT L rest = (match tk (ordersT ps.length) L (1 + ps.length) with
        | none => badRow CT (1 + ps.length)
        | some od => match tk (pricesT "piece_price") L (2 + ps.length) with
          | none => badRow CT (2 + ps.length)
          | some pp => match tk (pricesT "order_price") L (3 + ps.length) with
            | none => badRow CT (3 + ps.length)
            | some op => match tk tornT L (4 + ps.length) with
              | none => badRow CT (4 + ps.length)
              | some tn => if endBad L rest (5 + ps.length) then badRow CT (5 + ps.length) else .val (fileD C ls ps od pp op tn)) := by
        unfold readF
        rw [e1]
        dsimp only
        rw [e2]
        dsimp only
        rw [← hps]
      rw [rf]
      clear rf hmore
      -- the order
      refine dssy_cons (dsy_set 5 scRF.nd (dey_take (f := oD) (T := ordersT ps.length) (R := fun d m' => ∃ od, tk (ordersT ps.length) L (1 + ps.length) = some od ∧ d = oD od ∧ m' = rdM g CR x L rest (2 + ps.length)) D Tk key_od (fun _ => rfl) (de_v 1) (DE.is (de_dc (own := [("choice", 9)]) scRF.nd (by decide +kernel) (di_l (de_call AO (da_cons (DE.is (len_own (ds := psD ps) B 4 rfl (de_v 4)) (by rw [psD_len])) da_nil) ⟨ps.length, h4, rfl, rfl⟩)) ?_ (is := [9]) (by decide)
        (fun d => [.val (.str z), .val (.adr x), .val (.str ls), .val (.dct g.w (tKs (piecesT ls)) (tVs DV.str (piecesT ls))), .own (psD ps), .un, .un, .un, .un, .val d, .un]) (fun _ => true) (fun d => match d with | .tup o => .str (orderL (o.map fun d => match d with | .int i => i.toNat | _ => 0)) | _ => .non) (fun d => d) (fun d hd => dg_n 9 scRF.nd) (fun d hd => dts_nil) (fun d hd _ => ?_) (fun d hd _ => de_v 9)) ?_) hl (by omega) (fun e => ?_) (fun a e => ⟨a, e, rfl, by rw [show 1 + ps.length + 1 = 2 + ps.length by omega]⟩)) ?_)
      · rw [List.length_map]
        have := ordersOf_len h4
        omega
      · rw [List.mem_map] at hd
        obtain ⟨o, ho, rfl⟩ := hd
        obtain ⟨o1, o2⟩ := orders_ok h4 o ho
        refine ⟨DE.is (de_call OL (da_cons (de_v 9) da_nil) ⟨o, o1, fun b hb => Nat.lt_of_lt_of_le (o2 b hb) h4, rfl, rfl⟩) ?_, rfl⟩
        show DV.str _ = DV.str _
        refine congrArg (fun z => DV.str (orderL z)) ?_
        unfold odD
        rw [List.map_map]
        exact (List.map_id o).symm.trans (List.map_congr_left fun b _ => (Int.toNat_natCast b).symm)
      · rw [nil_dputs oD _ orderL (ordersOf ps.length) (fun o _ => ?_) (nd_orders h4)]
        · rfl
        show DV.str _ = DV.str _
        refine congrArg (fun z => DV.str (orderL z)) ?_
        unfold odD
        rw [List.map_map]
        exact ((List.map_id o).symm.trans (List.map_congr_left fun b _ => (Int.toNat_natCast b).symm)).symm
      · rw [e]
        rfl
      rintro d m' ⟨od, e3, rfl, rfl⟩
      rw [e3]
      have l3 := tk_lt e3
      obtain ⟨o1, o2⟩ := orders_ok h4 od (tk_orders e3)
      -- the prices
      refine dssy_cons (dsy_set 6 scRF.nd (dey_take (f := DV.int) (T := pricesT "piece_price") (R := fun d m' => ∃ pp, tk (pricesT "piece_price") L (2 + ps.length) = some pp ∧ d = .int pp ∧ m' = rdM g CR x L rest (3 + ps.length)) D Tk (fun _ => rfl) (fun _ => rfl) (de_v 1) (DE.is (de_call PR (da_cons de_str da_nil) ⟨"piece_price", .inl rfl, rfl, rfl⟩) ?_) (by omega) (by omega) (fun e => ?_) (fun a e => ⟨a, e, rfl, by rw [show 2 + ps.length + 1 = 3 + ps.length by omega]⟩)) ?_)
      · unfold tKs tVs pricesT
        rw [List.map_map, List.map_map]
        rfl
      · dsimp only
        rw [e]
        rfl
      rintro d m' ⟨pp, e4, rfl, rfl⟩
      dsimp only
      rw [e4]
      have l4 := tk_lt e4
      refine dssy_cons (dsy_set 7 scRF.nd (dey_take (f := DV.int) (T := pricesT "order_price") (R := fun d m' => ∃ pp, tk (pricesT "order_price") L (3 + ps.length) = some pp ∧ d = .int pp ∧ m' = rdM g CR x L rest (4 + ps.length)) D Tk (fun _ => rfl) (fun _ => rfl) (de_v 1) (DE.is (de_call PR (da_cons de_str da_nil) ⟨"order_price", .inr rfl, rfl, rfl⟩) ?_) (by omega) (by omega) (fun e => ?_) (fun a e => ⟨a, e, rfl, by rw [show 3 + ps.length + 1 = 4 + ps.length by omega]⟩)) ?_)
      · unfold tKs tVs pricesT
        rw [List.map_map, List.map_map]
        rfl
      · dsimp only
        rw [e]
        rfl
      rintro d m' ⟨op, e5, rfl, rfl⟩
      dsimp only
      rw [e5]
      have l5 := tk_lt e5
      -- torn
      refine dssy_cons (dsy_set 8 scRF.nd (dey_take (f := DV.bl) (T := tornT) (R := fun d m' => ∃ b, tk tornT L (4 + ps.length) = some b ∧ d = .bl b ∧ m' = rdM g CR x L rest (5 + ps.length)) D Tk (fun _ => rfl) (fun _ => rfl) (de_v 1) (DE.is (de_dc (own := [("choice", 9)]) scRF.nd (by decide +kernel) (di_t (ds := [.bl false, .bl true]) (de_tup (da_cons de_bl (da_cons de_bl da_nil)))) (by decide) (is := [9]) (by decide)
        (fun d => [.val (.str z), .val (.adr x), .val (.str ls), .val (.dct g.w (tKs (piecesT ls)) (tVs DV.str (piecesT ls))), .own (psD ps), .val (oD od), .val (.int pp), .val (.int op), .un, .val d, .un]) (fun _ => true) (fun d => match d with | .bl y => .str (tornL y) | _ => .non) (fun d => d) (fun d hd => dg_n 9 scRF.nd) (fun d hd => dts_nil) (fun d hd _ => ?_) (fun d hd _ => de_v 9)) ?_) (by omega) (by omega) (fun e => ?_) (fun a e => ⟨a, e, rfl, by rw [show 4 + ps.length + 1 = 5 + ps.length by omega]⟩)) ?_)
      · simp only [List.mem_cons, List.not_mem_nil, or_false] at hd
        rcases hd with rfl | rfl
        · exact ⟨de_call TL (da_cons (de_v 9) da_nil) ⟨false, rfl, rfl⟩, rfl⟩
        · exact ⟨de_call TL (da_cons (de_v 9) da_nil) ⟨true, rfl, rfl⟩, rfl⟩
      · have e2 : dputs (fun _ => true) (fun d => match d with | .bl y => .str (tornL y) | _ => .non) (fun d => d) [DV.bl false, DV.bl true] ([], []) = (tKs tornT, tVs DV.bl tornT) := nil_dputs DV.bl (fun d => match d with | .bl y => .str (tornL y) | _ => .non) tornL [false, true] (fun a _ => rfl) nd_torn
        rw [e2]
      · dsimp only
        rw [e]
        rfl
      rintro d m' ⟨tn, e6, rfl, rfl⟩
      dsimp only
      rw [e6]
      dsimp only
      -- the end
      refine dssy_cons (dsy_ex (dey_meth0 (R := fun d m' => endBad L rest (5 + ps.length) = false) D.c En (insM_at (rgs_no (by decide +kernel))) (de_v 1) ⟨x, L, rest, 5 + ps.length, rfl, rfl, by omega, fun e => by rw [if_pos e]; rfl, fun e => e⟩) ?_)
      intro d m' he
      refine dssy_freeze 4 rfl ?_
      have vs : VS ls ps od := ⟨hls, h1, h4, fun p hp => pieces_word hls p (hmem p hp), o1, o2⟩
      refine dssy_one (dsy_ret (.of (EvU.r (dem_of (de_make P.make (da_cons (de_v 2) (da_cons (de_tupleOf B.tuple (da := .lst (psD ps)) rfl (de_v 4)) (da_cons (de_v 5) da_nil))) (dk_cons (de_v 6) (dk_cons (de_v 7) (dk_cons (de_v 8) dk_nil))) ⟨ls, ps, od, pp, op, tn, vs, tk_prices e4, tk_prices e5, rfl, rfl⟩)))) ?_)
      rintro d m2 ⟨rfl, rfl⟩
      rw [he]
      rfl
end SP

/-! read_writes, either outcome. -/
namespace PD
open PySem PySem.Spec PyProof.Rows L2
theorem dtm_e {g : Gb} {l : Lc} {ρ : Rho} {m m' : Mo} {e : Expr} {x : Bool} (h : DEM g l e ρ m (.bl x) m') (he : ∀ env whole, isTrue e env whole = (do let v ← whole; standAt e.pos; holding [v] (truthy v)) := by intro _ _; rfl) : DTM g l e ρ m x m' := .by _ (fun X o => pt_val (UE.pe o e) (he _)) (ebu_val h)
/-- f(a, b, c), c beside a mutable thing -/
theorem evu_call3 {K : PySem.W.Frag} {ρ : Rho} {m m' : Mo} {R : List DV → DV → Prop} {E : XK} {t1 t2 t3 : TE} {d1 d2 d3 d : DV} (h1 : EvD K t1 ρ d1) (h2 : EvD K t2 ρ d2) (h3 : EvU K t3 ρ m d3 m') (hR : R [d1, d2, d3] d) : EvU K (tCall (spR K R) [] E (tCons t1 (tCons t2 (tCons t3 tNil)))) ρ m d m' := fun S0 H0 B σ S H s Q q =>
  h1 _ σ S H s.g.sub s.n _ fun v1 S1 H1 g1 r1 => by
    have s1 := s.go g1
    refine h2 _ σ S1 H1 s1.g.sub s1.n _ fun v2 S2 H2 g2 r2 => ?_
    have s2 := s1.go g2
    refine h3 S0 H0 B σ S2 H2 s2 _ fun v3 S3 H3 s3 e3 r3 => ?_
    refine ⟨S3, [d1, d2, d3], d, s3.g.sub, .cons ((r1.up g2.s).up e3) (.cons (r2.up e3) (.cons r3 .nil)), hR, fun v S4 H4 g4 r4 => q v S4 H4 (s3.go g4) ((g1.s.tr g2.s).tr (e3.tr g4.s)) r4⟩
theorem dem_call3 {g : Gb} {l : Lc} {ρ : Rho} {m m' : Mo} {e1 e2 e3 : Expr} {pos p : Pos} {n : Str} {k : Nat} {R : List DV → DV → Prop} {d1 d2 d3 d : DV} (F : Fn g k n R) (h1 : DE g l e1 ρ d1) (h2 : DE g l e2 ρ d2) (h3 : DEM g l e3 ρ m d3 m') (hR : R [d1, d2, d3] d) (hk : k ≤ l.k := by decide) (hg : GlN l n := by rfl) (hdb : (n == ("__debug__" : Str)) = false := by decide)
    (s1 : ∀ env, starEach [e1, e2, e3] env = (false, eval e1 env) :: starEach [e2, e3] env := by intro _; rfl) (s2 : ∀ env, starEach [e2, e3] env = (false, eval e2 env) :: starEach [e3] env := by intro _; rfl) (s3 : ∀ env, starEach [e3] env = (false, eval e3 env) :: starEach [] env := by intro _; rfl)
    (hpl : ∀ env, (backTo pos (starEach [e2, e3] env)).any (·.1) = false := by intro _; rfl) (hcl : l.cb = true := by rfl) : DEM g l (.Call (.Name n p) [e1, e2, e3] [] pos) ρ m d m' := by
  obtain ⟨f, fd, ps, ok, hm, hkp, hb⟩ := F.ex
  exact .by (tCall (spR g.K R) [] E0 (tCons (UE g l e1) (tCons (UE g l e2) (tCons (UE g l e3) tNil)))) (fun X o => pe_call (CX := CX0) (k := k) (f := f) (fd := fd) (ps := ps) (ds := []) (by rw [o.prog, o.w, o.K, o.mg, o.base]; exact ok) ((o.room hcl).mono hk) (o.gl hg) (by rw [o.mg]; exact hm) (by rw [o.K]; exact hkp) (by rw [o.K]; exact hb) .nil pass0 (pa_cons (UE.pe o e1) (pa_cons (UE.pe o e2) (pa_cons (UE.pe o e3) pa_nil (s3 _)) (s2 _)) (s1 _)) hdb (s1 _) (hpl _)) (evu_call3 h1 h2 h3 hR)
end PD
namespace SP
open PySem PySem.Spec PyProof.Rows L2 PD
variable {g : Gb} {C CR CT : Addr}
def writesT (ls : Str) (n : Nat) : List (Str × Wr) := (everyOf ls n).map fun w => (writeL w, w)
/-- the writes that follow -/
def goW (ls : Str) (n : Nat) (L : List Str) : Nat → Nat → List Str → List Nat → List Wr
  | 0, _, _, _ => []
  | k + 1, r, ps, od => match tk (writesT ls n) L r with
    | some w => if chg ps od w then w :: goW ls n L k (r + 1) (afterP ps w) (afterO od w) else []
    | none => []
def readW (CT : Addr) (ls : Str) (ps : List Str) (od : List Nat) (L : List Str) (rest : Str) : Out :=
  let ws := goW ls ps.length L (L.length + 1) 0 ps od
  if endBad L rest ws.length then badRow CT ws.length else .val (.lst (ws.map Wr.d))
theorem nd_writes {n : Nat} (h : n ≤ 4) : (nkAll (tKs (writesT "ab" n))).Nodup := by
  have : n = 0 ∨ n = 1 ∨ n = 2 ∨ n = 3 ∨ n = 4 := by omega
  rcases this with rfl | rfl | rfl | rfl | rfl <;> decide +kernel
theorem wr_key (w : Wr) : w.d.isKey = true := by
  cases w with
  | piece b p => rfl
  | order o =>
    show (true && (keyAll (odD o) && true)) = true
    rw [key_od]
    rfl
theorem wr_isN (w : Wr) : w.d.isN = false := by cases w <;> rfl
theorem tk_writes {L : List Str} {r n : Nat} {ls : Str} {w : Wr} (h : tk (writesT ls n) L r = some w) : w ∈ everyOf ls n := by
  obtain ⟨x, hx, _⟩ := tk_mem h
  unfold writesT at hx
  rw [List.mem_map] at hx
  obtain ⟨y, hy, e⟩ := hx
  cases e
  exact hy
abbrev rwN : List Str := ["file", "lines", "reader", "choices", "state", "writes", "write"]
theorem scRW : FnScope rwN ["file", "lines"] (defScope s_read_writes) := ⟨rfl, rfl, rfl, by decide +kernel, rfl, by decide +kernel, by decide +kernel⟩
def R_readw (C CT : Addr) : List DV → Out → Prop := fun ds o => ∃ ps od pp op tn v, VS "ab" ps od ∧ ds = [fileD C "ab" ps od pp op tn, v] ∧
  (((v = .non ∨ ∃ i, v = .int i) ∧ o = badRow CT 0) ∨ ∃ z L rest, v = .str z ∧ z.length ≤ 100000 ∧ L.length ≤ 80 ∧ Txt.split z ("\n" : Str) = L ++ [rest] ∧ o = readW CT "ab" ps od L rest)
theorem wrD_inj (w : Wr) : (match Wr.d w with | .tup [.str _, .tup o] => Wr.order (o.map fun d => match d with | .int i => i.toNat | _ => 0) | .tup [.str _, .int b, .str p] => Wr.piece b.toNat p | _ => Wr.order []) = w := by
  cases w with
  | piece b p => rfl
  | order o =>
    refine congrArg Wr.order ?_
    unfold odD
    rw [List.map_map]
    exact ((List.map_id o).symm.trans (List.map_congr_left fun b _ => (Int.toNat_natCast b).symm)).symm
theorem ok_readw (B : Bt g) (D : Rdr g CR CT) (Lf : Fl g C) (P : Fp g C) (Ck : Fn g 1 "check_file" (R_cfile C)) (WL : Fn g 2 "write_line" R_wline) (EW : Fn g 3 "every_write" R_every) (FS : Fn g 3 "file_state" (R_fstate C)) (IS : Fn g 4 "is_state_write" R_swrite) (SA : Fn g 2 "state_after" R_safter) (Ln : Lo g 1 C (R_flen C))
    (Mk : MkY g 3 CR "Reader" (A_rinit g CR CT)) (Lk : MeM g 1 CR "look" (A_look g CR)) (Tk : MeY g 3 CR "take" (A_take g CR CT)) (En : MeY g 3 CR "end" (A_end g CR CT))
    {f : Addr} {fd : FuncData} (F : Fun g.K "read_writes" "read_writes" s_read_writes f fd) : FnOk g.P g.w g.K g.mg g.base (L2.CX g.P g.w) 6 f fd ["file", "lines"] (spZ g.K (R_readw C CT)) := by
  refine fn_okYE F scRW (fun ds o ⟨_, _, _, _, _, v, _, e, _⟩ => by rw [e]; rfl) fun ds o ⟨ps, od, pp, op, tn, v, vs, e, h⟩ => ?_
  subst e
  refine dssy_cons (.of (dsm_ex (dem_of (de_call Ck (da_cons (de_v 0) da_nil) ⟨_, rfl, rfl⟩)) ?_))
  rcases h with ⟨hv, rfl⟩ | ⟨z, L, rest, rfl, hz, hL, hs, rfl⟩
  · refine dssy_cons (dsy_set 2 scRW.nd (dey_make (R := fun _ _ => False) Mk (da_cons (de_v 1) da_nil) fun x => ⟨x, v, rfl, rfl, .inr ⟨hv, rfl⟩⟩) ?_)
    rintro d m' ⟨x, _, h⟩
    exact h.elim
  · refine dssy_cons (dsy_set 2 scRW.nd (dey_make (R := fun x m' => m' = rdM g CR x L rest 0) Mk (da_cons (de_v 1) da_nil) fun x => ⟨x, _, rfl, rfl, .inl ⟨z, L, rest, rfl, hz, hs, rfl, rfl⟩⟩) ?_)
    rintro d m' ⟨x, rfl, rfl⟩
    have wd : dputs (fun _ => true) (fun d => .str (writeL (match d with | .tup [.str _, .tup o] => Wr.order (o.map fun d => match d with | .int i => i.toNat | _ => 0) | .tup [.str _, .int b, .str p] => Wr.piece b.toNat p | _ => Wr.order []))) (fun d => d) ((everyOf "ab" ps.length).map Wr.d) ([], []) = (tKs (writesT "ab" ps.length), tVs Wr.d (writesT "ab" ps.length)) :=
      nil_dputs Wr.d _ writeL (everyOf "ab" ps.length) (fun w _ => by rw [wrD_inj]) (nd_writes vs.hps)
    refine dssy_cons (.of (dsm_of (E' := { nx := fun ρ' => ρ' = [.val (fileD C "ab" ps od pp op tn), .val (.str z), .val (.adr x), .val (.dct g.w (tKs (writesT "ab" ps.length)) (tVs Wr.d (writesT "ab" ps.length))), .un, .un, .un] }) (ds_dcV 3 (own := [("write", 6)]) scRW.nd (by decide +kernel) (di_l (ds := (everyOf "ab" ps.length).map Wr.d) (de_call EW (da_cons (de_ls Lf P (de_v 0)) (da_cons (de_lenO B Ln ⟨_, ps, od, pp, op, tn, rfl, rfl⟩ (Nat.le_trans vs.hps (by decide)) (de_v 0)) da_nil)) ⟨"ab", ps.length, vs.hls, vs.hps, rfl, rfl⟩)) ?_ (is := [6]) (by decide)
      (fun d => [.val (fileD C "ab" ps od pp op tn), .val (.str z), .val (.adr x), .un, .un, .un, .val d]) (fun _ => true) (fun d => .str (writeL (match d with | .tup [.str _, .tup o] => Wr.order (o.map fun d => match d with | .int i => i.toNat | _ => 0) | .tup [.str _, .int b, .str p] => Wr.piece b.toNat p | _ => Wr.order []))) (fun d => d) (fun d hd => dg_n 6 scRW.nd) (fun d hd => dts_nil) (fun d hd _ => ?_) (fun d hd _ => de_v 6) ?_) ?_ (fun _ z => z) (fun _ z => z.elim) fun _ z => z.elim))
    · rw [List.length_map]
      have : ∀ n, n ≤ 4 → (everyOf "ab" n).length ≤ 50000 := by decide +kernel
      exact this _ vs.hps
    · rw [List.mem_map] at hd
      obtain ⟨w, hw, rfl⟩ := hd
      refine ⟨DE.is (de_call WL (da_cons (de_v 6) da_nil) ⟨w, okL_vw (every_ok vs.hls vs.hps w hw) vs.hps, rfl, rfl⟩) ?_, rfl⟩
      rw [wrD_inj]
    · rw [wd]
      rfl
    rintro ρ rfl
    refine dssy_cons (.of (dsm_set 4 scRW.nd (dem_of (de_call FS (da_cons (de_v 0) da_nil) ⟨_, ps, od, pp, op, tn, rfl, rfl⟩)) ?_))
    refine dssy_cons (.of (dsm_of (E' := { nx := fun ρ' => ρ' = [.val (fileD C "ab" ps od pp op tn), .val (.str z), .val (.adr x), .val (.dct g.w (tKs (writesT "ab" ps.length)) (tVs Wr.d (writesT "ab" ps.length))), .val (stD ps od), .own [], .un] }) (ds_setL 5 scRW.nd (dl_lst da_nil) rfl) ?_ (fun _ z => z) (fun _ z => z.elim) fun _ z => z.elim))
    rintro ρ rfl
    refine dssy_cons (dsy_while (E := _) (fun n ρ' m' => ∃ (ws : List Wr) (P : List Str) (O : List Nat), n = L.length + 1 - ws.length ∧ ws.length ≤ L.length ∧ VS "ab" P O ∧ P.length = ps.length ∧ ws ++ goW "ab" ps.length L (L.length + 1 - ws.length) ws.length P O = goW "ab" ps.length L (L.length + 1) 0 ps od ∧ m' = rdM g CR x L rest ws.length ∧
      ρ' = [.val (fileD C "ab" ps od pp op tn), .val (.str z), .val (.adr x), .val (.dct g.w (tKs (writesT "ab" ps.length)) (tVs Wr.d (writesT "ab" ps.length))), .val (stD P O), .own (ws.map Wr.d), .un]) (L.length + 1) ⟨[], ps, od, rfl, Nat.zero_le _, vs, rfl, rfl, rfl, rfl⟩ ?_)
    rintro n ρ' m' ⟨ws, P', O', hn, hl, vp, hP, hgo, rfl, rfl⟩
    have hb : isWr "ab" P' O' (orN Wr.d (tk (writesT "ab" ps.length) L ws.length)) = (match tk (writesT "ab" ps.length) L ws.length with | some w => chg P' O' w | none => false) := by
      cases e : tk (writesT "ab" ps.length) L ws.length with
      | none => rfl
      | some w =>
        have vw := every_ok vs.hls vs.hps w (tk_writes e)
        rw [← hP] at vw
        exact isWr_d vw
    have hfit : fit (orN Wr.d (tk (writesT "ab" ps.length) L ws.length)) = true := by
      cases e : tk (writesT "ab" ps.length) L ws.length with
      | none => rfl
      | some w => exact fit_wr (every_ok vs.hls vs.hps w (tk_writes e))
    have ek : L.length + 1 - ws.length = (L.length - ws.length) + 1 := by omega
    refine ⟨_, rdM g CR x L rest ws.length, dtm_e (dem_call3 IS (de_ls Lf P (de_v 0)) (de_v 4) (EvR.u (der_meth (R := fun d m' => d = orN Wr.d (tk (writesT "ab" ps.length) L ws.length) ∧ m' = rdM g CR x L rest ws.length) D.c Lk (insM_at (rgs_no (by decide +kernel))) (de_v 2) (da_cons (de_v 3) da_nil) ⟨x, L, rest, ws.length, tKs (writesT "ab" ps.length), tVs Wr.d (writesT "ab" ps.length), rfl, rfl, hl, vs_key wr_key _, fun d m' a b => ⟨by rw [a, look_tab], b⟩⟩) fun d m' h => h) ⟨"ab", P', O', _, vp.hps, hfit, rfl, rfl⟩), fun hx => ?_, fun hx => ?_⟩
    · rw [hb] at hx
      cases e : tk (writesT "ab" ps.length) L ws.length with
      | none => rw [e] at hx; cases hx
      | some w =>
        rw [e] at hx
        have hx' : chg P' O' w = true := hx
        have vw := every_ok vs.hls vs.hps w (tk_writes e)
        have vw' := vw
        rw [← hP] at vw'
        have lt := tk_lt e
        refine dssy_cons (dsy_append 5 rfl (dey_take (f := Wr.d) (T := writesT "ab" ps.length) (R := fun d m' => d = Wr.d w ∧ m' = rdM g CR x L rest (ws.length + 1)) D Tk wr_key wr_isN (de_v 2) (de_v 3) hl (by omega) (fun z => by rw [e] at z; cases z) (fun a z => by rw [e] at z; cases z; exact ⟨rfl, rfl⟩)) (by rw [List.length_map]; omega) ?_)
        rintro d m' ⟨rfl, rfl⟩
        refine dssy_one (.of (dsm_set 4 scRW.nd (dem_of (de_call SA (da_cons (de_v 4) (da_cons (de_ixOwn 5 (j := -1) rfl (at_last _ _) (de_neg de_int)) da_nil)) ⟨P', O', w, ?_, vp.hps, rfl, rfl⟩)) ?_))
        · cases w with
          | piece b p => exact vw'.1
          | order o => exact True.intro
        · refine ⟨L.length + 1 - (ws ++ [w]).length, by rw [List.length_append, List.length_singleton]; omega, ws ++ [w], afterP P' w, afterO O' w, rfl, by rw [List.length_append, List.length_singleton]; omega, vp.after vw', by rw [afterP_len]; exact hP, ?_, by rw [List.length_append, List.length_singleton], by rw [List.map_append]; rfl⟩
          rw [← hgo, ek]
          conv => rhs; unfold goW
          rw [e]
          dsimp only
          rw [if_pos hx', List.append_assoc, List.length_append, List.length_singleton, show L.length + 1 - (ws.length + 1) = L.length - ws.length by omega]
          rfl
    · have e0 : goW "ab" ps.length L (L.length + 1 - ws.length) ws.length P' O' = [] := by
        rw [ek]
        unfold goW
        rw [hb] at hx
        cases e : tk (writesT "ab" ps.length) L ws.length with
        | none => rfl
        | some w =>
          rw [e] at hx
          have hx' : chg P' O' w = false := hx
          dsimp only
          rw [if_neg (by rw [hx']; decide)]
      rw [e0, List.append_nil] at hgo
      have er : readW CT "ab" ps od L rest = if endBad L rest ws.length then badRow CT ws.length else .val (.lst (ws.map Wr.d)) := by
        unfold readW
        rw [← hgo]
      rw [er]
      refine dssy_cons (dsy_ex (dey_meth0 (R := fun d m' => endBad L rest ws.length = false) D.c En (insM_at (rgs_no (by decide +kernel))) (de_v 2) ⟨x, L, rest, ws.length, rfl, rfl, by omega, fun e => by rw [if_pos e]; rfl, fun e => e⟩) ?_)
      intro d m' he
      refine dssy_freeze 5 rfl (dssy_one (dsy_ret (.of (EvU.r (dem_of (de_v 5)))) ?_))
      rintro d m2 ⟨rfl, rfl⟩
      rw [he]
      rfl
end SP

/-! What the checking part computes, as plain functions. -/
namespace SP
open PySem L2 PD
def intsD (xs : List Int) : List DV := xs.map DV.int
theorem intsD_len (xs : List Int) : (intsD xs).length = xs.length := List.length_map ..
theorem plain_ints : ∀ xs : List Int, plainAll (intsD xs) = true
  | [] => by simp [intsD, plainAll]
  | x :: xs => by
    show plainAll (DV.int x :: intsD xs) = true
    rw [plainAll, plain_ints xs, DV.plain]
    rfl
theorem dep_ints : ∀ xs : List Int, depAll (intsD xs) = 0
  | [] => by simp [intsD, depAll]
  | x :: xs => by
    show depAll (DV.int x :: intsD xs) = 0
    rw [depAll, dep_ints xs, DV.dep]
    rfl
theorem ok_ints (xs : List Int) : (DV.lst (intsD xs)).ok = true := by
  unfold DV.ok
  rw [DV.plain, plain_ints, DV.dep, dep_ints]
  rfl
theorem eqv_nil (x : Int) (xs : List Int) : (DV.lst (intsD (x :: xs))).eqv (.lst []) = false := by
  show PyData.eqv (DV.pd _) (DV.pd _) = _
  rw [DV.pd, DV.pd, PyData.eqv]
  show PyData.eqvAll (pdAll (DV.int x :: intsD xs)) (pdAll []) = false
  rw [pdAll, pdAll, PyData.eqvAll]
/-! cells -/
/-! drawn parts -/
/-! texts -/
end SP

namespace SP
open PySem PySem.Spec PyProof.Rows L2 PD
variable {g : Gb} {C : Addr}
theorem ints_get {xs : List Int} {i : Nat} (h : i < xs.length) : (intsD xs)[i]? = some (.int (xs.getD i 0)) := by
  unfold intsD
  rw [List.getElem?_map, List.getElem?_eq_getElem h, List.getD_eq_getElem?_getD, List.getElem?_eq_getElem h]
  rfl
/-- the script: a list, that may be one of the module's own -/
def Scr (D : DV) (xs : List Int) : Prop := D = .lst (intsD xs) ∨ D = .frz (intsD xs)
theorem Scr.ok {D : DV} {xs : List Int} (h : Scr D xs) : D.ok = true := by
  rcases h with rfl | rfl
  · exact ok_ints xs
  · unfold DV.ok
    rw [DV.plain, plain_ints, DV.dep, dep_ints]
    rfl
theorem Scr.eqv {D : DV} {xs : List Int} (h : Scr D xs) (d : DV) : D.eqv d = (DV.lst (intsD xs)).eqv d := by
  rcases h with rfl | rfl
  · rfl
  · unfold DV.eqv
    rw [DV.pd, DV.pd]
theorem psD_at {ps : List Str} {i : Nat} {d : DV} (h : (psD ps)[i]? = some d) : ∃ z, ps[i]? = some z ∧ d = .str z := by
  unfold psD at h
  rw [List.getElem?_map] at h
  cases q : ps[i]? with
  | none => rw [q] at h; cases h
  | some z =>
    rw [q] at h
    cases h
    exact ⟨z, rfl, rfl⟩
end SP

/-! The law's small defs: numbers, files, states, lines. -/
namespace SP
open PySem PySem.Spec PyProof.Rows L2 PD
variable {g : Gb} {C : Addr}
def cellsOf (xs : List Int) : List Int := if xs = [] then [5] else xs
def numOf (xs : List Int) (i : Nat) : Int :=
  let cs := cellsOf xs
  let cell := cs.getD (i % cs.length) 0 + 13 * ((i / cs.length : Nat) : Int)
  let low := cell % 1000003
  let high := (cell / 1000003) % 999983
  let mixed := ((low + 977 * (i : Int)) * 48271 + 31 * high + cs.sum % 65521) % 2147483647
  (mixed * (mixed + 31 * (i : Int) + 7)) % 2147483629 * 65537 + high
theorem num_bd (m n h : Int) : 0 ≤ (m * n) % 2147483629 * 65537 + h % 999983 ∧ (m * n) % 2147483629 * 65537 + h % 999983 < 2 ^ 60 := by
  have h1 : 0 ≤ h % 999983 ∧ h % 999983 < 999983 := ⟨Int.emod_nonneg _ (by decide), Int.emod_lt_of_pos _ (by decide)⟩
  have h2 : 0 ≤ (m * n) % 2147483629 := Int.emod_nonneg _ (by decide)
  have h3 : (m * n) % 2147483629 < 2147483629 := Int.emod_lt_of_pos _ (by decide)
  omega
theorem numOf_nn (xs : List Int) (i : Nat) : 0 ≤ numOf xs i ∧ numOf xs i < 2 ^ 60 := num_bd _ _ _
theorem cells_pos (xs : List Int) : 0 < (cellsOf xs).length := by
  unfold cellsOf
  split
  · decide
  · rename_i h
    exact List.length_pos_iff.mpr h
theorem cut_all {α : Type} {xs : List α} {k : Nat} (h : xs.length ≤ k) : cutG xs none (some (k : Int)) = xs := by
  have e2 : HT.sIx xs.length xs.length (some (k : Int)) = xs.length := by
    rw [HT.sIx_nat]
    exact Nat.min_eq_right h
  unfold cutG
  rw [e2, HT.sIx_none, List.drop_zero, Nat.sub_zero, List.take_length]
theorem scNum : FnScope ["_law_script", "_law_index", "_law_cells", "_law_cell", "_law_low", "_law_high", "_law_mixed"] ["_law_script", "_law_index"] (defScope s__law_number) := ⟨rfl, rfl, rfl, by decide +kernel, rfl, by decide +kernel, by decide +kernel⟩
def R_num : List DV → DV → Prop := fun ds d => ∃ (D : DV) (xs : List Int) (i : Nat), Scr D xs ∧ xs.length ≤ 63 ∧ i ≤ 1000 ∧ ds = [D, .int i] ∧ d = .int (numOf xs i)
theorem ok_num (B : Bt g) {f : Addr} {fd : FuncData} (F : Fun g.K "_law_number" "_law_number" s__law_number f fd) : FnOk g.P g.w g.K g.mg g.base CX0 1 f fd ["_law_script", "_law_index"] (spR g.K R_num) := by
  refine fn_ok F scNum (fun ds d ⟨D, xs, k, _, _, _, e, _⟩ => by rw [e]; rfl) fun ds d ⟨D, xs, i, hD, hl, hi, e, ed⟩ => ?_
  subst e ed
  have hp := cells_pos xs
  refine dss_cons (ds_set 2 scNum.nd (d := .lst (intsD (cellsOf xs))) ?_ ?_)
  · refine de_if (x := !decide (xs = [])) (DT.is (dt_neD hD.ok rfl (de_v 0) (dl_lst da_nil).de) ?_) (fun h => ?_) fun h => ?_
    · rw [hD.eqv]
      cases xs with
      | nil => rfl
      | cons x xs => rw [eqv_nil]; rfl
    · have hne : xs ≠ [] := by simpa using h
      have ec : cellsOf xs = xs := by unfold cellsOf; rw [if_neg hne]
      rw [ec]
      rcases hD with rfl | rfl
      · exact DE.is (de_slL (xs := intsD xs) (de_v 0) dp_none (dp_some de_int)) (by rw [show ((63 : Int)) = ((63 : Nat) : Int) from rfl, cut_all (by rw [intsD_len]; exact hl)])
      · exact DE.is (de_slF (xs := intsD xs) (de_v 0) dp_none (dp_some de_int)) (by rw [show ((63 : Int)) = ((63 : Nat) : Int) from rfl, cut_all (by rw [intsD_len]; exact hl)])
    · have he : xs = [] := by simpa using h
      subst he
      exact (dl_lst (da_cons de_int da_nil)).de
  generalize hcs : cellsOf xs = cs at hp ⊢
  have hc63 : cs.length ≤ 63 := by
    subst hcs
    unfold cellsOf
    split
    · decide
    · exact hl
  refine dss_cons (ds_set 3 scNum.nd (d := .int (cs.getD (i % cs.length) 0 + 13 * ((i / cs.length : Nat) : Int))) (de_add (de_ixL (i := ((i % cs.length : Nat) : Int)) (atI_nat (ints_get (Nat.mod_lt _ hp))) (de_v 2) (DE.is (de_mod (i := (i : Int)) (j := ((intsD cs).length : Int)) (by rw [intsD_len]; omega) (de_intOf B.int (de_v 1)) (de_len B.len (ds := intsD cs) rfl (de_v 2))) (by rw [intsD_len]; rfl)))
    (de_mul (.inl (by decide)) de_int (DE.is (de_fdiv (i := (i : Int)) (j := ((intsD cs).length : Int)) ?_ (de_v 1) (de_len B.len (ds := intsD cs) rfl (de_v 2))) (by rw [intsD_len]; rfl)))) ?_)
  · rw [intsD_len]
    exact ⟨by omega, by omega⟩
  refine dss_cons (ds_par 4 5 scNum.nd (d1 := .int ((cs.getD (i % cs.length) 0 + 13 * ((i / cs.length : Nat) : Int)) % 1000003)) (d2 := .int ((cs.getD (i % cs.length) 0 + 13 * ((i / cs.length : Nat) : Int)) / 1000003 % 999983)) (de_mod (by decide) (de_intOf B.int (de_v 3)) de_int) (de_mod (by decide) (de_intOf B.int (de_fdiv ⟨by decide, by decide⟩ (de_v 3) de_int)) de_int) ?_)
  generalize hcell : cs.getD (i % cs.length) 0 + 13 * ((i / cs.length : Nat) : Int) = cell
  refine dss_cons (ds_set 6 scNum.nd (de_mod (by decide) (de_intOf B.int (de_add (de_add (de_mul (.inr (by decide)) (de_add (de_v 4) (de_mul (.inl (by decide)) de_int (de_v 1))) de_int) (de_mul (.inl (by decide)) de_int (de_v 5))) (de_mod (by decide) (de_intOf B.int (de_sum B.sum (ns := cs) (de_v 2))) de_int))) de_int) ?_)
  generalize hm : ((cell % 1000003 + 977 * (i : Int)) * 48271 + 31 * (cell / 1000003 % 999983) + cs.sum % 65521) % 2147483647 = mixed
  have hm1 : 0 ≤ mixed ∧ mixed < 2147483647 := by
    rw [← hm]
    exact ⟨Int.emod_nonneg _ (by decide), Int.emod_lt_of_pos _ (by decide)⟩
  refine dss_one (ds_ret (de_add (de_mul (.inr (by decide)) (de_mod (by decide) (de_intOf B.int (de_mul (i := mixed) (.inl ⟨by omega, by omega⟩) (de_v 6) (de_add (de_add (de_v 6) (de_mul (.inl (by decide)) de_int (de_v 1))) de_int))) de_int) de_int) (de_v 5)) ?_)
  show DV.int _ = DV.int _
  unfold numOf
  rw [hcs]
  dsimp only
  rw [hcell, hm]
end SP

/-! _law_file, _law_after, _law_state, _law_order, _law_piece, _law_lines, _law_write. -/
namespace SP
open PySem PySem.Spec PyProof.Rows L2 PD
variable {g : Gb} {C : Addr}
def someP : List Str := ["", "a", "b", "ab", "ba", "aa", "bb"]
def partsOf (s : Int) (n : Nat) : List Str := (List.range n).map fun (at_ : Nat) => someP.getD ((s / (3 + 11 * (at_ : Int))) % 7).toNat ""
def rowNat (s : Int) (n : Nat) : List Nat := (List.range ((s / 5) % 4).toNat).map fun (at_ : Nat) => ((s / (17 + 29 * (at_ : Int))) % (n : Int)).toNat
def fpp (s : Int) : Int := 1 + (s / 100) % 3
def fop (s : Int) : Int := 1 + (s / 300) % 3
def ftn (s : Int) : Bool := decide (0 < (s / 7) % 3)
def fileOf (C : Addr) (s : Int) (n : Nat) : DV := fileD C "ab" (partsOf s n) (rowNat s n) (fpp s) (fop s) (ftn s)
theorem some_ok : ∀ p ∈ someP, wordOk "ab" 2 p = true := by decide +kernel
theorem VS_file (s : Int) {n : Nat} (h1 : 1 ≤ n) (h4 : n ≤ 4) : VS "ab" (partsOf s n) (rowNat s n) := by
  refine ⟨.inl rfl, by unfold partsOf; rw [List.length_map, List.length_range]; exact h1, by unfold partsOf; rw [List.length_map, List.length_range]; exact h4, fun p hp => ?_, ?_, fun b hb => ?_⟩
  · unfold partsOf at hp
    rw [List.mem_map] at hp
    obtain ⟨a, _, rfl⟩ := hp
    have h7 : ((s / (3 + 11 * (a : Int))) % 7).toNat < someP.length := by
      have := Int.emod_lt_of_pos (s / (3 + 11 * (a : Int))) (show (0 : Int) < 7 by decide)
      have := Int.emod_nonneg (s / (3 + 11 * (a : Int))) (show (7 : Int) ≠ 0 by decide)
      show _ < 7
      omega
    refine some_ok _ ?_
    rw [List.getD_eq_getElem?_getD, List.getElem?_eq_getElem h7]
    exact List.getElem_mem h7
  · unfold rowNat
    rw [List.length_map, List.length_range]
    have := Int.emod_lt_of_pos (s / 5) (show (0 : Int) < 4 by decide)
    omega
  · unfold rowNat at hb
    rw [List.mem_map] at hb
    obtain ⟨a, _, rfl⟩ := hb
    have := Int.emod_lt_of_pos (s / (17 + 29 * (a : Int))) (show (0 : Int) < n by omega)
    have := Int.emod_nonneg (s / (17 + 29 * (a : Int))) (show (n : Int) ≠ 0 by omega)
    unfold partsOf
    rw [List.length_map, List.length_range]
    omega
theorem scLFi : FnScope ["_law_seed", "_law_blocks", "_law_some", "_law_parts", "_law_count", "_law_row_here", "_law_one", "_law_two", "_law_at"] ["_law_seed", "_law_blocks"] (defScope s__law_file) := ⟨rfl, rfl, rfl, by decide +kernel, rfl, by decide +kernel, by decide +kernel⟩
def R_lfile (C : Addr) : List DV → DV → Prop := fun ds d => ∃ (s : Int) (n : Nat), 0 ≤ s ∧ 1 ≤ n ∧ n ≤ 4 ∧ ds = [.int s, .int n] ∧ d = fileOf C s n
theorem ok_lfile (B : Bt g) (P : Fp g C) {f : Addr} {fd : FuncData} (F : Fun g.K "_law_file" "_law_file" s__law_file f fd) : FnOk g.P g.w g.K g.mg g.base CX0 6 f fd ["_law_seed", "_law_blocks"] (spR g.K (R_lfile C)) := by
  refine fn_ok F scLFi (fun ds d ⟨s, n, _, _, _, e, _⟩ => by rw [e]; rfl) fun ds d ⟨s, n, hs, h1, h4, e, ed⟩ => ?_
  subst e ed
  have vs := VS_file s h1 h4
  have hq : 0 ≤ (s / 5) % 4 ∧ (s / 5) % 4 < 4 := ⟨Int.emod_nonneg _ (by decide), Int.emod_lt_of_pos _ (by decide)⟩
  refine dss_cons (ds_set 2 scLFi.nd (d := .tup (someP.map DV.str)) (de_tup (da_cons de_str (da_cons de_str (da_cons de_str (da_cons de_str (da_cons de_str (da_cons de_str (da_cons de_str da_nil)))))))) ?_)
  refine dss_cons (ds_set 3 scLFi.nd (d := .tup (psD (partsOf s n))) (de_tupleOf B.tuple (da := .lst (psD (partsOf s n))) rfl (DE.is (dl_rL (own := [("_law_at", 8)]) scLFi.nd (by decide +kernel) (rL.ev (is := [8]) (di_r B.range (n := n) (by omega) (de_v 1)) ?_ (by decide)
    (fun d => [.val (.int s), .val (.int n), .val (.tup (someP.map DV.str)), .un, .un, .un, .un, .un, .val d]) (fun _ => true) (fun d => match d with | .int a => .str (someP.getD ((s / (3 + 11 * a)) % 7).toNat "") | _ => .non) (fun d hd => dg_n 8 scLFi.nd) (fun d hd => dts_nil) (fun d hd _ => ?_))).de ?_)) ?_)
  · rw [rangeD_len]; omega
  · unfold rangeD at hd
    rw [List.mem_map] at hd
    obtain ⟨a, ha, rfl⟩ := hd
    have ha := List.mem_range.mp ha
    have h7 : ((s / (3 + 11 * ((0 : Int) + (a : Int)))) % 7).toNat < someP.length := by
      have := Int.emod_lt_of_pos (s / (3 + 11 * ((0 : Int) + (a : Int)))) (show (0 : Int) < 7 by decide)
      have := Int.emod_nonneg (s / (3 + 11 * ((0 : Int) + (a : Int)))) (show (7 : Int) ≠ 0 by decide)
      show _ < 7
      omega
    refine de_ixT (xs := someP.map DV.str) (i := (s / (3 + 11 * ((0 : Int) + (a : Int)))) % 7) ?_ (de_v 2) (de_mod (by decide) (de_intOf B.int (de_fdiv ⟨by omega, by omega⟩ (de_v 0) (de_add de_int (de_mul (.inl (by decide)) de_int (de_v 8))))) de_int)
    have e7 : (s / (3 + 11 * ((0 : Int) + (a : Int)))) % 7 = ((((s / (3 + 11 * ((0 : Int) + (a : Int)))) % 7).toNat : Nat) : Int) := by
      have := Int.emod_nonneg (s / (3 + 11 * ((0 : Int) + (a : Int)))) (show (7 : Int) ≠ 0 by decide)
      omega
    have key : (someP.map DV.str)[((s / (3 + 11 * ((0 : Int) + (a : Int)))) % 7).toNat]? = some (.str (someP.getD ((s / (3 + 11 * ((0 : Int) + (a : Int)))) % 7).toNat "")) := by
      rw [List.getElem?_map, List.getD_eq_getElem?_getD, List.getElem?_eq_getElem h7]
      rfl
    rw [e7]
    exact atI_nat key
  · rw [filt]
    unfold rangeD partsOf psD
    rw [List.map_map, List.map_map]
    refine congrArg DV.lst (List.map_congr_left fun a _ => ?_)
    show DV.str _ = DV.str _
    rw [Int.zero_add]
  refine dss_cons (ds_set 4 scLFi.nd (d := .int ((s / 5) % 4)) (de_mod (by decide) (de_intOf B.int (de_fdiv ⟨by decide, by decide⟩ (de_v 0) de_int)) de_int) ?_)
  have eq : (s / 5) % 4 = ((((s / 5) % 4).toNat : Nat) : Int) := by omega
  refine dss_cons (ds_set 5 scLFi.nd (d := .tup (odD (rowNat s n))) (de_tupleOf B.tuple (da := .lst (odD (rowNat s n))) rfl (DE.is (dl_rL (own := [("_law_at", 8)]) scLFi.nd (by decide +kernel) (rL.ev (is := [8]) (di_r B.range (n := ((s / 5) % 4).toNat) (by omega) (DE.is (de_v 4) (by rw [← eq]))) ?_ (by decide)
    (fun d => [.val (.int s), .val (.int n), .val (.tup (someP.map DV.str)), .val (.tup (psD (partsOf s n))), .val (.int ((s / 5) % 4)), .un, .un, .un, .val d]) (fun _ => true) (fun d => match d with | .int a => .int ((s / (17 + 29 * a)) % (n : Int)) | _ => .non) (fun d hd => dg_n 8 scLFi.nd) (fun d hd => dts_nil) (fun d hd _ => ?_))).de ?_)) ?_)
  · rw [rangeD_len]; omega
  · unfold rangeD at hd
    rw [List.mem_map] at hd
    obtain ⟨a, ha, rfl⟩ := hd
    have ha := List.mem_range.mp ha
    exact de_mod (by omega) (de_intOf B.int (de_fdiv ⟨by omega, by omega⟩ (de_v 0) (de_add de_int (de_mul (.inl (by decide)) de_int (de_v 8))))) (de_v 1)
  · rw [filt]
    unfold rangeD rowNat odD
    rw [List.map_map, List.map_map]
    refine congrArg DV.lst (List.map_congr_left fun a _ => ?_)
    show DV.int _ = DV.int _
    rw [Int.zero_add, Int.toNat_of_nonneg (Int.emod_nonneg _ (by omega))]
  refine dss_cons (ds_par 6 7 scLFi.nd (d1 := .int (fpp s)) (d2 := .int (fop s)) (de_add de_int (de_mod (by decide) (de_intOf B.int (de_fdiv ⟨by decide, by decide⟩ (de_v 0) de_int)) de_int)) (de_add de_int (de_mod (by decide) (de_intOf B.int (de_fdiv ⟨by decide, by decide⟩ (de_v 0) de_int)) de_int)) ?_)
  have b1 : 1 ≤ fpp s ∧ fpp s ≤ 5 := by unfold fpp; omega
  have b2 : 1 ≤ fop s ∧ fop s ≤ 5 := by unfold fop; omega
  exact dss_one (ds_ret (de_make P.make (da_cons de_str (da_cons (de_v 3) (da_cons (de_v 5) da_nil))) (dk_cons (de_v 6) (dk_cons (de_v 7) (dk_cons (de_gtI (de_mod (by decide) (de_intOf B.int (de_fdiv ⟨by decide, by decide⟩ (de_v 0) de_int)) de_int) de_int) dk_nil))) ⟨"ab", partsOf s n, rowNat s n, fpp s, fop s, ftn s, vs, b1, b2, rfl, rfl⟩) rfl)
end SP

/-! _law_after, _law_state, _law_order, _law_piece, _law_lines, _law_write. -/
namespace SP
open PySem PySem.Spec PyProof.Rows L2 PD
variable {g : Gb} {C : Addr}
theorem scLSt : FnScope ["_law_file_here"] ["_law_file_here"] (defScope s__law_state) := ⟨rfl, rfl, rfl, by decide +kernel, rfl, by decide +kernel, by decide +kernel⟩
theorem ok_lstate (L : Fl g C) (P : Fp g C) {f : Addr} {fd : FuncData} (F : Fun g.K "_law_state" "_law_state" s__law_state f fd) : FnOk g.P g.w g.K g.mg g.base CX0 3 f fd ["_law_file_here"] (spR g.K (R_fstate C)) := by
  refine fn_ok F scLSt (fun ds d ⟨_, _, _, _, _, _, e, _⟩ => by rw [e]; rfl) fun ds d ⟨ls, ps, od, pp, op, tn, e, ed⟩ => ?_
  subst e ed
  exact dss_one (ds_ret (de_tup (da_cons (de_ps L P (de_v 0)) (da_cons (de_od L P (de_v 0)) da_nil))) rfl)
theorem scLAf : FnScope ["_law_state_here", "_law_write_here"] ["_law_state_here", "_law_write_here"] (defScope s__law_after) := ⟨rfl, rfl, rfl, by decide +kernel, rfl, by decide +kernel, by decide +kernel⟩
theorem ok_lafter {f : Addr} {fd : FuncData} (F : Fun g.K "_law_after" "_law_after" s__law_after f fd) : FnOk g.P g.w g.K g.mg g.base CX0 1 f fd ["_law_state_here", "_law_write_here"] (spR g.K R_safter) := by
  refine fn_ok F scLAf (fun ds d ⟨_, _, _, _, _, e, _⟩ => by rw [e]; rfl) fun ds d ⟨ps, od, w, hw, h4, e, ed⟩ => ?_
  subst e ed
  cases w with
  | order o =>
    exact dss_cons (ds_if (x := true) (DT.is (dt_eqS (de_ixT (d := .str "order") rfl (de_v 1) de_int) de_str) (by decide)) (fun _ => dss_one (ds_ret (de_tup (da_cons (de_ixT (d := .tup (psD ps)) rfl (de_v 0) de_int) (da_cons (de_ixT (d := .tup (odD o)) rfl (de_v 1) de_int) da_nil))) rfl)) fun z => by cases z)
  | piece b p =>
    have hb : b < ps.length := hw
    refine dss_cons (ds_if (x := false) (DT.is (dt_eqS (de_ixT (d := .str "piece") rfl (de_v 1) de_int) de_str) (by decide)) (fun z => by cases z) fun _ => dss_nil ?_)
    have bi {ρ : Rho} (h : ρ[1]? = some (.val (Wr.d (.piece b p)))) : True := trivial
    refine dss_one (ds_ret (de_tup (da_cons (DE.is (d' := .tup (psD (ps.set b p))) (de_catT (i := (psD ps).take b ++ [.str p]) (j := (psD ps).drop (b + 1)) ?_ (de_catT (i := (psD ps).take b) (j := [.str p]) ?_ (DE.is (de_slT (xs := psD ps) (de_ixT (d := .tup (psD ps)) rfl (de_v 0) de_int) dp_none (dp_some (de_ixT (d := .int (b : Int)) rfl (de_v 1) de_int))) ?_) (de_tup (da_cons (de_ixT (d := .str p) rfl (de_v 1) de_int) da_nil)))
      (DE.is (de_slT (xs := psD ps) (i := some ((b + 1 : Nat) : Int)) (de_ixT (d := .tup (psD ps)) rfl (de_v 0) de_int) (dp_some (DE.is (de_add (de_ixT (d := .int (b : Int)) rfl (de_v 1) de_int) de_int) ?_)) dp_none) ?_)) ?_) (da_cons (de_ixT (d := .tup (odD od)) rfl (de_v 0) de_int) da_nil))) rfl)
    · rw [List.length_append, List.length_take, List.length_drop, psD_len, List.length_singleton]; omega
    · rw [List.length_take, psD_len, List.length_singleton]; omega
    · rw [cutG_to (by rw [psD_len]; omega)]
    · rfl
    · rw [cutG_from]
    · rw [set_cut (by rw [psD_len]; exact hb)]
      unfold psD
      rw [List.map_set]
theorem empty_app (x : Str) : Str.empty ++ x = x := nil_app x
theorem lettersL_eq (ls : Str) : lettersL ls = ("letters " : Str) ++ ls := by
  show (Str.empty ++ _) ++ _ = _
  rw [empty_app]
theorem pieceL_eq (p : Str) : pieceL p = ("piece " : Str) ++ pieceW p := by
  show (Str.empty ++ _) ++ _ = _
  rw [empty_app]
theorem orderL_eq (o : List Nat) : orderL o = ("order " : Str) ++ orderW o := by
  show (Str.empty ++ _) ++ _ = _
  rw [empty_app]
theorem priceL_eq (n : Str) (p : Int) : priceL n p = (n ++ (" " : Str)) ++ strI p := by
  show ((Str.empty ++ _) ++ _) ++ _ = _
  rw [empty_app]
theorem writeL_piece (b : Nat) (p : Str) : writeL (.piece b p) = ((("piece " : Str) ++ strI (b : Int)) ++ (" " : Str)) ++ pieceW p := by
  show (((Str.empty ++ _) ++ _) ++ _) ++ _ = _
  rw [empty_app]
theorem lineN_eq (x : Str) : lineN x = x ++ ("\n" : Str) := by
  show (Str.empty ++ _) ++ _ = _
  rw [empty_app]
theorem orderJ_pos {o : List Nat} (h : o ≠ []) (h2 : ∀ b ∈ o, b < 4) : (orderJ o).length ≠ 0 := by
  cases o with
  | nil => exact absurd rfl h
  | cons a l =>
    unfold orderJ
    rw [eq_of_beq (PyProof.Rows.join_plain_closes _ _), List.map_cons, len_join_cons, List.map_cons, List.sum_cons, (strI_nat a (Nat.lt_of_lt_of_le (h2 a (List.mem_cons_self ..)) (by decide))).1]
    omega
theorem scLOr : FnScope ["_law_order_here", "_law_block"] ["_law_order_here"] (defScope s__law_order) := ⟨rfl, rfl, rfl, by decide +kernel, rfl, by decide +kernel, by decide +kernel⟩
def R_lorder : List DV → DV → Prop := fun ds d => ∃ o : List Nat, o.length ≤ 3 ∧ (∀ b ∈ o, b < 4) ∧ ds = [.tup (odD o)] ∧ d = .str (orderW o)
theorem ok_lorder (hstr : g.mg "str" = none) {f : Addr} {fd : FuncData} (F : Fun g.K "_law_order" "_law_order" s__law_order f fd) : FnOk g.P g.w g.K g.mg g.base CX0 1 f fd ["_law_order_here"] (spR g.K R_lorder) := by
  refine fn_ok F scLOr (fun ds d ⟨o, _, _, e, _⟩ => by rw [e]; rfl) fun ds d ⟨o, h1, h2, e, ed⟩ => ?_
  subst e ed
  refine dss_one (ds_ret (de_if (x := !decide (o = [])) (DT.is (dt_neD (ok_odD o) rfl (de_v 0) (de_tup da_nil)) (by rw [show DV.tup [] = .tup (odD []) from rfl, eqv_odD])) (fun h => ?_) fun h => ?_) rfl)
  · have hne : o ≠ [] := by simpa using h
    have e1 : orderW o = orderJ o := by unfold orderW; rw [if_neg (orderJ_pos hne h2)]
    rw [e1]
    refine de_join (sep := (" " : Str)) (ys := o.map fun (b : Nat) => strI (b : Int)) (da := .lst ((o.map fun (b : Nat) => strI (b : Int)).map DV.str)) de_str (DE.is (dl_rL (own := [("_law_block", 1)]) scLOr.nd (by decide +kernel) (rL.ev (is := [1]) (di_t (de_v 0)) ?_ (by decide)
      (fun d => [.val (.tup (odD o)), .val d]) (fun _ => true) (fun d => match d with | .int i => .str (strI i) | _ => .non) (fun d hd => dg_n 1 scLOr.nd) (fun d hd => dts_nil) (fun d hd _ => ?_))).de ?_) rfl ?_
    · rw [odD_len]
      exact Nat.le_trans h1 (by decide)
    · unfold odD at hd
      rw [List.mem_map] at hd
      obtain ⟨b, hb, rfl⟩ := hd
      exact de_strI hstr (strI_nat b (Nat.lt_of_lt_of_le (h2 b hb) (by decide))).2 (de_v 1)
    · rw [filt]
      unfold odD
      rw [List.map_map, List.map_map]
      rfl
    · have e1 : ((o.map fun (b : Nat) => strI (b : Int)).map (·.length)).sum = o.length := by
        rw [List.map_map]
        show (o.map fun (b : Nat) => (strI (b : Int)).length).sum = _
        rw [sum_const (c := 1) fun b hb => (strI_nat b (Nat.lt_of_lt_of_le (h2 b hb) (by decide))).1, Nat.mul_one]
      rw [e1, List.length_map]
      show o.length + o.length * 1 ≤ _
      omega
  · have he : o = [] := by simpa using h
    subst he
    exact de_str
theorem scLPi : FnScope ["_law_piece_here"] ["_law_piece_here"] (defScope s__law_piece) := ⟨rfl, rfl, rfl, by decide +kernel, rfl, by decide +kernel, by decide +kernel⟩
theorem str_empty {p : Str} : p = ("" : Str) ↔ p.length = 0 := ⟨fun h => by rw [h]; rfl, fun h => TL.ext_tl (by
  have : (TL.tl p).length = 0 := by rw [← TL.len_tl]; exact h
  rw [List.length_eq_zero_iff.mp this]
  rfl)⟩
theorem ok_lpiece {f : Addr} {fd : FuncData} (F : Fun g.K "_law_piece" "_law_piece" s__law_piece f fd) : FnOk g.P g.w g.K g.mg g.base CX0 1 f fd ["_law_piece_here"] (spR g.K R_pword) := by
  refine fn_ok F scLPi (fun ds d ⟨p, _, e, _⟩ => by rw [e]; rfl) fun ds d ⟨p, h, e, ed⟩ => ?_
  subst e ed
  refine dss_one (ds_ret (de_if (x := !decide (p = ("" : Str))) (dt_neS (de_v 0) de_str) (fun h => ?_) fun h => ?_) rfl)
  · have hne : ¬ p.length = 0 := fun z => by rw [decide_eq_true (str_empty.mpr z)] at h; cases h
    have : pieceW p = p := by unfold pieceW; rw [if_neg hne]
    rw [this]
    exact de_v 0
  · have he : p.length = 0 := str_empty.mp (by simpa using h)
    have : pieceW p = ("-" : Str) := by unfold pieceW; rw [if_pos he]
    rw [this]
    exact de_str
end SP

/-! _law_lines, _law_write, _law_writes. -/
namespace SP
open PySem PySem.Spec PyProof.Rows L2 PD
variable {g : Gb} {C : Addr}
theorem scLWr : FnScope ["_law_write_here"] ["_law_write_here"] (defScope s__law_write) := ⟨rfl, rfl, rfl, by decide +kernel, rfl, by decide +kernel, by decide +kernel⟩
theorem ok_lwrite (hstr : g.mg "str" = none) (LO : Fn g 1 "_law_order" R_lorder) (LP : Fn g 1 "_law_piece" R_pword) {f : Addr} {fd : FuncData} (F : Fun g.K "_law_write" "_law_write" s__law_write f fd) : FnOk g.P g.w g.K g.mg g.base CX0 2 f fd ["_law_write_here"] (spR g.K R_wline) := by
  refine fn_ok F scLWr (fun ds d ⟨w, _, e, _⟩ => by rw [e]; rfl) fun ds d ⟨w, h, e, ed⟩ => ?_
  subst e ed
  cases w with
  | order o =>
    have hl := orderW_len h.1 h.2
    refine dss_cons (ds_if (x := true) (DT.is (dt_eqS (de_ixT (d := .str "order") rfl (de_v 0) de_int) de_str) (by decide)) (fun _ => dss_one (ds_ret (DE.is (de_addS (i := "order ") (j := orderW o) (by show 6 + _ ≤ 100000; omega) de_str (de_call LO (da_cons (de_ixT (d := .tup (odD o)) rfl (de_v 0) de_int) da_nil) ⟨o, h.1, h.2, rfl, rfl⟩)) ?_) rfl)) fun z => by cases z)
    exact congrArg DV.str (orderL_eq o).symm
  | piece b p =>
    refine dss_cons (ds_if (x := false) (DT.is (dt_eqS (de_ixT (d := .str "piece") rfl (de_v 0) de_int) de_str) (by decide)) (fun z => by cases z) fun _ => dss_nil ?_)
    have hw := pieceW_len h.2 (by decide)
    have e := strI_nat b (Nat.lt_of_lt_of_le h.1 (by decide))
    have e1 := e.1
    refine dss_one (ds_ret (DE.is (de_addS (i := (("piece " : Str) ++ strI (b : Int)) ++ (" " : Str)) (j := pieceW p) ?_ (de_addS (i := ("piece " : Str) ++ strI (b : Int)) (j := " ") ?_ (de_addS (i := "piece ") (j := strI (b : Int)) ?_ de_str (de_strI hstr e.2 (de_ixT (d := .int (b : Int)) rfl (de_v 0) de_int))) de_str) (de_call LP (da_cons (de_ixT (d := .str p) rfl (de_v 0) de_int) da_nil) ⟨p, Nat.le_trans h.2 (by decide), rfl, rfl⟩)) ?_) rfl)
    · rw [len_app, len_app]; show 6 + (strI (b : Int)).length + 1 + _ ≤ _; omega
    · rw [len_app]; show 6 + (strI (b : Int)).length + 1 ≤ _; omega
    · show 6 + (strI (b : Int)).length ≤ _; omega
    · exact congrArg DV.str (writeL_piece b p).symm
theorem scLLi : FnScope ["_law_file_here", "_law_found", "_law_piece_here"] ["_law_file_here"] (defScope s__law_lines) := ⟨rfl, rfl, rfl, by decide +kernel, rfl, by decide +kernel, by decide +kernel⟩
def R_llines (C : Addr) : List DV → DV → Prop := fun ds d => ∃ ls ps od pp op tn, VS ls ps od ∧ (1 ≤ pp ∧ pp ≤ 5) ∧ (1 ≤ op ∧ op ≤ 5) ∧ ds = [fileD C ls ps od pp op tn] ∧ d = .lst ((linesOf ls ps od pp op tn).map DV.str)
theorem ok_llines (hstr : g.mg "str" = none) (L : Fl g C) (P : Fp g C) (LO : Fn g 1 "_law_order" R_lorder) (LP : Fn g 1 "_law_piece" R_pword) {f : Addr} {fd : FuncData} (F : Fun g.K "_law_lines" "_law_lines" s__law_lines f fd) : FnOk g.P g.w g.K g.mg g.base CX0 3 f fd ["_law_file_here"] (spR g.K (R_llines C)) := by
  refine fn_ok F scLLi (fun ds d ⟨_, _, _, _, _, _, _, _, _, e, _⟩ => by rw [e]; rfl) fun ds d ⟨ls, ps, od, pp, op, tn, v, h1, h2, e, ed⟩ => ?_
  subst e ed
  have l3 := lets_len v.hls
  have l4 := v.hps
  have lo := orderW_len v.hod v.b4
  have s1 := strI_int (p := pp) ⟨by omega, by omega⟩
  have s2 := strI_int (p := op) ⟨by omega, by omega⟩
  have z1 := s1.1
  have z2 := s2.1
  refine dss_cons (ds_set 1 scLLi.nd (d := .lst ([DV.str (lettersL ls)] ++ (ps.map pieceL).map DV.str)) (de_catL (i := [DV.str (lettersL ls)]) (j := (ps.map pieceL).map DV.str) ?_ (dl_lst (da_cons (DE.is (de_addS (i := "letters ") (j := ls) (by show 8 + _ ≤ 100000; omega) de_str (de_ls L P (de_v 0))) (congrArg DV.str (lettersL_eq ls).symm)) da_nil)).de
    (DE.is (dl_rL (own := [("_law_piece_here", 2)]) scLLi.nd (by decide +kernel) (rL.ev (is := [2]) (di_t (de_ps L P (de_v 0))) ?_ (by decide)
    (fun d => [.val (fileD C ls ps od pp op tn), .un, .val d]) (fun _ => true) (fun d => match d with | .str i => .str (pieceL i) | _ => .non) (fun d hd => dg_n 2 scLLi.nd) (fun d hd => dts_nil) (fun d hd _ => ?_))).de ?_)) ?_)
  · rw [List.length_map, List.length_map, List.length_singleton]; omega
  · rw [psD_len]; omega
  · unfold psD at hd
    rw [List.mem_map] at hd
    obtain ⟨p, hp, rfl⟩ := hd
    have p2 := v.p2 p hp
    have hw := pieceW_len (m := 4) (by omega) (by decide) (p := p)
    exact DE.is (de_addS (i := "piece ") (j := pieceW p) (by show 6 + _ ≤ 100000; omega) de_str (de_call LP (da_cons (de_v 2) da_nil) ⟨p, by omega, rfl, rfl⟩)) (congrArg DV.str (pieceL_eq p).symm)
  · rw [filt]
    unfold psD
    rw [List.map_map, List.map_map]
    rfl
  have len0 : ([DV.str (lettersL ls)] ++ (ps.map pieceL).map DV.str).length = ps.length + 1 := by simp
  refine dss_cons (ds_set 1 scLLi.nd (d := .lst (([DV.str (lettersL ls)] ++ (ps.map pieceL).map DV.str) ++ [DV.str (orderL od), DV.str (priceL "piece_price" pp)])) (de_catL (i := [DV.str (lettersL ls)] ++ (ps.map pieceL).map DV.str) (j := [DV.str (orderL od), DV.str (priceL "piece_price" pp)]) ?_ (de_v 1) (dl_lst (da_cons (DE.is (de_addS (i := "order ") (j := orderW od) (by show 6 + _ ≤ 100000; omega) de_str (de_call LO (da_cons (de_od L P (de_v 0)) da_nil) ⟨od, v.hod, v.b4, rfl, rfl⟩)) (congrArg DV.str (orderL_eq od).symm)) (da_cons (DE.is (de_addS (i := "piece_price ") (j := strI pp) (by show 12 + _ ≤ 100000; omega) de_str (de_strI hstr s1.2 (de_pp L P (de_v 0)))) ?_) da_nil))).de) ?_)
  · rw [len0]; show ps.length + 1 + 2 ≤ _; omega
  · rw [priceL_eq]
    rfl
  refine dss_one (ds_ret (DE.is (de_catL (i := ([DV.str (lettersL ls)] ++ (ps.map pieceL).map DV.str) ++ [DV.str (orderL od), DV.str (priceL "piece_price" pp)]) (j := [DV.str (priceL "order_price" op), DV.str (tornL tn)]) ?_ (de_v 1) (dl_lst (da_cons (DE.is (de_addS (i := "order_price ") (j := strI op) (by show 12 + _ ≤ 100000; omega) de_str (de_strI hstr s2.2 (de_oq L P (de_v 0)))) ?_) (da_cons (DE.is (de_addS (i := "torn ") (j := if tn then "yes" else "no") ?_ de_str (de_if (x := tn) (dt_e (de_tn L P (de_v 0))) (fun h => by subst h; exact de_str) fun h => by subst h; exact de_str)) ?_) da_nil))).de) ?_) rfl)
  · rw [List.length_append, len0]; show ps.length + 1 + 2 + 2 ≤ _; omega
  · rw [priceL_eq]
    rfl
  · cases tn <;> decide +kernel
  · cases tn <;> rfl
  · unfold linesOf
    simp only [List.map_append, List.map_cons, List.map_nil, List.append_assoc, List.cons_append, List.nil_append]
end SP

/-! _law_writes. -/
namespace SP
open PySem PySem.Spec PyProof.Rows L2 PD
variable {g : Gb} {C : Addr}
def fwB (ps : List Str) (b : Nat) (l : List Str) : List Wr := (l.filter fun n => !decide (n = oldP ps b)).map fun n => Wr.piece b n
def fw (ps : List Str) (i : Nat) : List Wr := (List.range i).flatMap fun b => fwB ps b (piecesOf "ab")
theorem zip_rangeP (ps : List Str) : ps.zipIdx = (List.range ps.length).map fun i => (oldP ps i, i) := by
  refine List.ext_getElem? fun i => ?_
  rw [List.getElem?_zipIdx, List.getElem?_map]
  by_cases h : i < ps.length
  · rw [List.getElem?_range h, get_piece h]
    simp
  · rw [List.getElem?_eq_none (by omega), List.getElem?_eq_none (by rw [List.length_range]; omega)]
    rfl
theorem fw_eq (ps : List Str) (od : List Nat) : fw ps ps.length ++ ((ordersOf ps.length).filter fun o => !decide (o = od)).map Wr.order = writesOf "ab" ps od := by
  unfold fw fwB writesOf
  rw [zip_rangeP, List.flatMap_map]
theorem fw_succ (ps : List Str) (i : Nat) : fw ps (i + 1) = fw ps i ++ fwB ps i (piecesOf "ab") := by
  unfold fw
  rw [List.range_succ, List.flatMap_append, List.flatMap_cons, List.flatMap_nil, List.append_nil]
theorem fwB_len (ps : List Str) (b : Nat) (l : List Str) : (fwB ps b l).length ≤ l.length := by
  unfold fwB
  rw [List.length_map]
  exact List.length_filter_le _ _
theorem fw_len (ps : List Str) : ∀ i, (fw ps i).length ≤ 7 * i
  | 0 => Nat.zero_le _
  | i + 1 => by
    rw [fw_succ, List.length_append]
    have h1 := fw_len ps i
    have h2 := fwB_len ps i (piecesOf "ab")
    have h3 : (piecesOf "ab").length = 7 := by decide +kernel
    omega
/-- the layers of orders -/
def layO (n : Nat) : Nat → List (List Nat)
  | 0 => [[]]
  | k + 1 => (layO n k).flatMap fun o => (List.range n).map fun b => o ++ [b]
def rowsO (n : Nat) : Nat → List (List Nat)
  | 0 => [[]]
  | k + 1 => rowsO n k ++ layO n (k + 1)
theorem rowsO_eq {n : Nat} (h : n ≤ 4) : rowsO n 3 = ordersOf n := by
  have : ∀ n ≤ 4, rowsO n 3 = ordersOf n := by decide +kernel
  exact this n h
theorem lay_len {n : Nat} (h : n ≤ 4) : (layO n 0).length ≤ 1 ∧ (layO n 1).length ≤ 4 ∧ (layO n 2).length ≤ 16 ∧ (layO n 3).length ≤ 64 := by
  have : ∀ n ≤ 4, (layO n 0).length ≤ 1 ∧ (layO n 1).length ≤ 4 ∧ (layO n 2).length ≤ 16 ∧ (layO n 3).length ≤ 64 := by decide +kernel
  exact this n h
theorem pieces_ab : [("" : Str), "a", "b", "aa", "ab", "ba", "bb"] = piecesOf "ab" := by decide +kernel
abbrev lwN : List Str := ["_law_file_here", "_law_state_here", "_law_found", "_law_block", "_law_piece_here", "_law_rows", "_law_layer", "_law_size", "_law_longer", "_law_row_here"]
theorem scLWs : FnScope lwN ["_law_file_here", "_law_state_here"] (defScope s__law_writes) := ⟨rfl, rfl, rfl, by decide +kernel, rfl, by decide +kernel, by decide +kernel⟩
def R_lwrs : List DV → DV → Prop := fun ds d => ∃ (f : DV) (ps : List Str) (od : List Nat), VS "ab" ps od ∧ ds = [f, stD ps od] ∧ d = wrsD (writesOf "ab" ps od)
theorem ok_lwrs (B : Bt g) {f : Addr} {fd : FuncData} (F : Fun g.K "_law_writes" "_law_writes" s__law_writes f fd) : FnOk g.P g.w g.K g.mg g.base CX0 1 f fd ["_law_file_here", "_law_state_here"] (spR g.K R_lwrs) := by
  refine fn_ok F scLWs (fun ds d ⟨_, _, _, _, e, _⟩ => by rw [e]; rfl) fun ds d ⟨fl, ps, od, vs, e, ed⟩ => ?_
  subst e ed
  have h4 := vs.hps
  have lay := lay_len h4
  refine dss_cons (ds_setL 2 scLWs.nd (dl_lst da_nil) ?_)
  refine dss_cons (ds_for (is := [3]) (di_r B.range (n := ps.length) (by omega) (DE.is (de_len B.len (ds := psD ps) rfl (de_ixT (d := .tup (psD ps)) rfl (de_v 1) de_int)) (by rw [psD_len])))
    (fun i ρ => ∃ x3 x4 : EV, i ≤ ps.length ∧ x3.isOwn = false ∧ x4.isOwn = false ∧ ρ = [.val fl, .val (stD ps od), .own ((fw ps i).map Wr.d), x3, x4, .un, .un, .un, .un, .un]) ⟨.un, .un, Nat.zero_le _, rfl, rfl, rfl⟩ ?_ ?_)
  · rintro i d ρ hd ⟨x3, x4, hi, n3, n4, rfl⟩
    have hi2 : i < ps.length := by
      have := (List.getElem?_eq_some_iff.mp hd).1
      rw [rangeD_len] at this
      exact this
    have ed : d = .int (i : Int) := by
      unfold rangeD at hd
      rw [List.getElem?_map, List.getElem?_range hi2] at hd
      cases hd
      show DV.int _ = _
      rw [Int.zero_add]
    subst ed
    refine ⟨_, dg_n 3 scLWs.nd, ?_⟩
    refine dss_one (ds_for (is := [4]) (di_t (ds := psD (piecesOf "ab")) (DE.is (de_tup (da_cons de_str (da_cons de_str (da_cons de_str (da_cons de_str (da_cons de_str (da_cons de_str (da_cons de_str da_nil)))))))) (by rw [← pieces_ab]; rfl)))
      (fun j ρ => ∃ x4 : EV, x4.isOwn = false ∧ j ≤ 7 ∧ ρ = [.val fl, .val (stD ps od), .own ((fw ps i ++ fwB ps i ((piecesOf "ab").take j)).map Wr.d), .val (.int (i : Int)), x4, .un, .un, .un, .un, .un]) ⟨x4, n4, by decide, by show _ = _; rw [show fwB ps i ((piecesOf "ab").take 0) = [] from rfl, List.append_nil]; rfl⟩ ?_ ?_)
    · rintro j d ρ hd ⟨x4', n4', hj, rfl⟩
      obtain ⟨p, hp, rfl⟩ := psD_at hd
      have hj7 : j < 7 := by
        have := (List.getElem?_eq_some_iff.mp hp).1
        have e7 : (piecesOf "ab").length = 7 := by decide +kernel
        omega
      have tk : (piecesOf "ab").take (j + 1) = (piecesOf "ab").take j ++ [p] := take_more hp
      have len : (fw ps i ++ fwB ps i ((piecesOf "ab").take j)).length ≤ 100 := by
        rw [List.length_append]
        have h1 := fw_len ps i
        have h2 := fwB_len ps i ((piecesOf "ab").take j)
        rw [List.length_take] at h2
        omega
      refine ⟨_, dg_n 4 scLWs.nd, ?_⟩
      refine dss_one (ds_if (x := !decide (p = oldP ps i)) (dt_neS (de_v 4) (de_ixT (xs := psD ps) (i := (i : Int)) (d := .str (oldP ps i)) (atI_nat (psD_get (get_piece hi2))) (de_ixT (d := .tup (psD ps)) rfl (de_v 1) de_int) (de_v 3))) (fun hx => ?_) fun hx => ?_)
      · refine dss_one (ds_append 2 rfl (de_tup (da_cons de_str (da_cons (de_v 3) (da_cons (de_v 4) da_nil)))) (by rw [List.length_map]; omega) ⟨.val (.str p), rfl, by omega, ?_⟩)
        rw [tk]
        have e : fwB ps i ((piecesOf "ab").take j ++ [p]) = fwB ps i ((piecesOf "ab").take j) ++ [.piece i p] := by
          unfold fwB
          rw [List.filter_append, List.map_append, List.filter_cons, if_pos hx]
          rfl
        rw [e, ← List.append_assoc, List.map_append (l₂ := [Wr.piece i p])]
        rfl
      · refine dss_nil ⟨.val (.str p), rfl, by omega, ?_⟩
        rw [tk]
        have e : fwB ps i ((piecesOf "ab").take j ++ [p]) = fwB ps i ((piecesOf "ab").take j) := by
          unfold fwB
          rw [List.filter_append, List.map_append, List.filter_cons, if_neg (by rw [hx]; decide)]
          exact List.append_nil _
        rw [e]
        rfl
    · rintro ρ ⟨x4', n4', _, rfl⟩
      refine ⟨.val (.int (i : Int)), x4', by omega, rfl, n4', ?_⟩
      rw [fw_succ, show (psD (piecesOf "ab")).length = (piecesOf "ab").length from psD_len _, List.take_length]
  · rintro ρ ⟨x3, x4, _, n3, n4, rfl⟩
    rw [rangeD_len]
    have l1 := fw_len ps ps.length
    refine dss_cons (ds_par 5 6 scLWs.nd (d1 := .lst ((rowsO ps.length 0).map oD)) (d2 := .lst ((layO ps.length 0).map oD)) (dl_lst (da_cons (de_tup da_nil) da_nil)).de (dl_lst (da_cons (de_tup da_nil) da_nil)).de ?_)
    refine dss_cons (ds_for (is := [7]) (di_r B.range (n := 3) (by decide) de_int) (fun k ρ => ∃ x3 x7 x8 x9 : EV, k ≤ 3 ∧ ρ = [.val fl, .val (stD ps od), .own ((fw ps ps.length).map Wr.d), x3, x4, .val (.lst ((rowsO ps.length k).map oD)), .val (.lst ((layO ps.length k).map oD)), x7, x8, x9]) ⟨x3, .un, .un, .un, by decide, rfl⟩ ?_ ?_)
    · rintro k d ρ hd ⟨x3, x7, x8, x9, hk, rfl⟩
      have hk3 : k < 3 := by
        have := (List.getElem?_eq_some_iff.mp hd).1
        rw [rangeD_len] at this
        exact this
      have lk : (layO ps.length k).length ≤ 16 := by
        have : k = 0 ∨ k = 1 ∨ k = 2 := by omega
        rcases this with rfl | rfl | rfl <;> omega
      have lk1 : (layO ps.length (k + 1)).length ≤ 64 := by
        have : k = 0 ∨ k = 1 ∨ k = 2 := by omega
        rcases this with rfl | rfl | rfl
        · exact Nat.le_trans lay.2.1 (by decide)
        · exact Nat.le_trans lay.2.2.1 (by decide)
        · exact lay.2.2.2
      have lr : (rowsO ps.length k).length ≤ 21 := by
        have : k = 0 ∨ k = 1 ∨ k = 2 := by omega
        rcases this with rfl | rfl | rfl
        · show 1 ≤ 21; decide
        · show (rowsO ps.length 0 ++ layO ps.length 1).length ≤ 21
          rw [List.length_append]
          have : (rowsO ps.length 0).length = 1 := rfl
          omega
        · show ((rowsO ps.length 0 ++ layO ps.length 1) ++ layO ps.length 2).length ≤ 21
          rw [List.length_append, List.length_append]
          have : (rowsO ps.length 0).length = 1 := rfl
          omega
      refine ⟨_, dg_n 7 scLWs.nd, ?_⟩
      refine dss_cons (ds_set 8 scLWs.nd (d := .lst []) (dl_lst da_nil).de ?_)
      refine dss_cons (ds_for (is := [9]) (di_l (ds := (layO ps.length k).map oD) (de_v 6)) (fun j ρ => ∃ x9 : EV, j ≤ (layO ps.length k).length ∧ ρ = [.val fl, .val (stD ps od), .own ((fw ps ps.length).map Wr.d), x3, x4, .val (.lst ((rowsO ps.length k).map oD)), .val (.lst ((layO ps.length k).map oD)), .val d,
        .val (.lst ((((layO ps.length k).take j).flatMap fun o => (List.range ps.length).map fun b => o ++ [b]).map oD)), x9]) ⟨x9, Nat.zero_le _, rfl⟩ ?_ ?_)
      · rintro j dj ρ hdj ⟨x9, hj, rfl⟩
        rw [List.getElem?_map] at hdj
        obtain ⟨o, ho, rfl⟩ := Option.map_eq_some_iff.mp hdj
        have hjl : j < (layO ps.length k).length := (List.getElem?_eq_some_iff.mp ho).1
        have tk : (layO ps.length k).take (j + 1) = (layO ps.length k).take j ++ [o] := take_more ho
        have olen : o.length ≤ 10 := by
          have : ∀ n ≤ 4, ∀ k ≤ 3, ∀ o ∈ layO n k, o.length ≤ 10 := by decide +kernel
          exact this _ h4 k (by omega) o (List.mem_of_getElem? ho)
        have flen : (((layO ps.length k).take j).flatMap fun o => (List.range ps.length).map fun b => o ++ [b]).length ≤ 64 := by
          rw [List.length_flatMap]
          have e : (((layO ps.length k).take j).map fun o => ((List.range ps.length).map fun b => o ++ [b]).length).sum ≤ (((layO ps.length k).take j).map fun o => ((List.range ps.length).map fun b => o ++ [b]).length).length * 4 := sum_le fun x hx => by
            rw [List.mem_map] at hx
            obtain ⟨y, _, rfl⟩ := hx
            rw [List.length_map, List.length_range]
            exact h4
          rw [List.length_map, List.length_take] at e
          have : min j (layO ps.length k).length ≤ 16 := by omega
          omega
        refine ⟨_, dg_n 9 scLWs.nd, dss_one (ds_set 8 scLWs.nd (d := .lst ((((layO ps.length k).take j).flatMap fun o => (List.range ps.length).map fun b => o ++ [b]).map oD ++ ((List.range ps.length).map fun b => o ++ [b]).map oD)) (de_catL (i := (((layO ps.length k).take j).flatMap fun o => (List.range ps.length).map fun b => o ++ [b]).map oD) (j := ((List.range ps.length).map fun b => o ++ [b]).map oD) ?_ (de_v 8) (DE.is (dl_rL (own := [("_law_block", 3)]) scLWs.nd (by decide +kernel) (rL.ev (is := [3]) (di_r B.range (n := ps.length) (by omega) (DE.is (de_len B.len (ds := psD ps) rfl (de_ixT (d := .tup (psD ps)) rfl (de_v 1) de_int)) (by rw [psD_len]))) ?_ (by decide)
          (fun dd => [.val fl, .val (stD ps od), .own ((fw ps ps.length).map Wr.d), .val dd, x4, .val (.lst ((rowsO ps.length k).map oD)), .val (.lst ((layO ps.length k).map oD)), .val d, .val (.lst ((((layO ps.length k).take j).flatMap fun o => (List.range ps.length).map fun b => o ++ [b]).map oD)), .val (oD o)]) (fun _ => true) (fun dd => match dd with | .int b => .tup (odD o ++ [.int b]) | _ => .non) (fun d hd => dg_n 3 scLWs.nd) (fun d hd => dts_nil) (fun dd hdd _ => ?_))).de ?_)) ⟨.val (oD o), hjl, ?_⟩)⟩
        · rw [List.length_map, List.length_map, List.length_map, List.length_range]; omega
        · rw [rangeD_len]; omega
        · obtain ⟨b, rfl⟩ := range_int hdd
          exact de_catT (i := odD o) (j := [.int b]) (by rw [odD_len, List.length_singleton]; omega) (de_v 9) (de_tup (da_cons (de_v 3) da_nil))
        · rw [filt]
          unfold rangeD
          rw [List.map_map, List.map_map]
          refine congrArg DV.lst (List.map_congr_left fun b _ => ?_)
          show DV.tup (odD o ++ [.int ((0 : Int) + (b : Int))]) = oD (o ++ [b])
          unfold oD odD
          rw [List.map_append, Int.zero_add]
          rfl
        · rw [tk, List.flatMap_append, List.flatMap_cons, List.flatMap_nil, List.append_nil, List.map_append]
          rfl
      · rintro ρ ⟨x9, _, rfl⟩
        rw [List.length_map, List.take_length]
        refine dss_one (ds_par 5 6 scLWs.nd (d1 := .lst ((rowsO ps.length (k + 1)).map oD)) (d2 := .lst ((layO ps.length (k + 1)).map oD)) (DE.is (de_catL (i := (rowsO ps.length k).map oD) (j := (layO ps.length (k + 1)).map oD) ?_ (de_v 5) (de_v 8)) ?_) (de_v 8) ⟨x3, _, _, x9, by omega, rfl⟩)
        · rw [List.length_map, List.length_map]; omega
        · rw [← List.map_append]
          rfl
    · rintro ρ ⟨x3, x7, x8, x9, _, rfl⟩
      rw [rangeD_len, rowsO_eq h4]
      have ol := ordersOf_len h4
      have fl85 : (((ordersOf ps.length).filter fun o => !decide (o = od)).map Wr.order).length ≤ 85 := by
        rw [List.length_map]
        exact Nat.le_trans (List.length_filter_le _ _) ol
      refine dss_freeze 2 rfl (dss_one (ds_ret (DE.is (de_catL (i := (fw ps ps.length).map Wr.d) (j := (((ordersOf ps.length).filter fun o => !decide (o = od)).map Wr.order).map Wr.d) ?_ (de_v 2) (DE.is (dl_rL (own := [("_law_row_here", 9)]) scLWs.nd (by decide +kernel) (rL.ev (is := [9]) (di_l (ds := (ordersOf ps.length).map oD) (de_v 5)) ?_ (by decide)
        (fun dd => [.val fl, .val (stD ps od), .val (.lst ((fw ps ps.length).map Wr.d)), x3, x4, .val (.lst ((ordersOf ps.length).map oD)), .val (.lst ((layO ps.length 3).map oD)), x7, x8, .val dd]) (orderNew od) orderWr (fun d hd => dg_n 9 scLWs.nd) (fun dd hdd => ?_) (fun dd hdd _ => ?_))).de ?_)) ?_) rfl))
      · rw [List.length_map, List.length_map]; omega
      · rw [List.length_map]; omega
      · rw [List.mem_map] at hdd
        obtain ⟨o, _, rfl⟩ := hdd
        exact dts_one (dt_neD (ok_odD o) (ok_odD od) (de_v 9) (de_ixT (d := .tup (odD od)) rfl (de_v 1) de_int))
      · exact de_tup (da_cons de_str (da_cons (de_v 9) da_nil))
      · rw [writes_orders]
      · rw [← List.map_append, fw_eq]
        rfl
end SP

/-! A def handed in as an argument and called; promises of either outcome, where there is none raised; _law_row of read_file. -/
namespace PD
open PySem PySem.Spec PyProof.Rows L2
theorem FnOk.noZ {P : Program} {w : World} {K : PySem.W.Frag} {mg : Str → Option Value} {base : Heap} {k : Nat} {f : Addr} {fd : FuncData} {ps : List Str} {R : List DV → Out → Prop} (F : FnOk P w K mg base (L2.CX P w) k f fd ps (spZ K R)) : FnOk P w K mg base CX0 k f fd ps (spR K fun ds d => R ds (.val d)) where
  len := fun vs H Q E ⟨S, ds, d, e, r, hR, q⟩ => F.len vs H Q (fun _ _ _ => False) ⟨S, ds, .val d, e, r, hR, fun d' h => by cases h; exact q, fun _ _ _ _ _ _ h => by cases h⟩
  run := fun A outer s H args us vs Q E hr he hb hv ⟨S, ds, d, e, r, hR, q⟩ => codeAny_mono (F.run A outer s H args us vs Q (fun _ _ _ => False) hr he hb hv ⟨S, ds, .val d, e, r, hR, fun d' h => by cases h; exact q, fun _ _ _ _ _ _ h => by cases h⟩) fun x s' h => by
    cases x with
    | error u =>
      obtain ⟨_, _, _, _, _, _, _, _, _, _, _, _, h⟩ := h
      exact h.elim
    | ok fl => cases fl <;> exact h
theorem FnZ.v {g : Gb} {k : Nat} {n : Str} {R : List DV → Out → Prop} (F : FnZ g k n R) : Fn g k n fun ds d => R ds (.val d) := by
  obtain ⟨f, fd, ps, ok, hm, hk, hb⟩ := F.ex
  exact ⟨f, fd, ps, FnOk.noZ ok, hm, hk, hb⟩
section
variable {X : Cx} {CX : CXT} {k i : Nat} {f : Addr} {fd : FuncData} {ps : List Str} {sp : Sp} {E : L2.St → XK} {x : Str} {p pos : Pos} {e : Expr} {es : List Expr} {t : TA}
theorem pe_callLoc (F : FnOk X.prog X.w X.K X.mg X.base CX k f fd ps sp) (hr : Room k X.A) (hk : PySem.W.keepIn X.K (.ref f) = true) (hb : L2.Binds X.K fd ps []) (hx : ∀ σ, PassesAt CX X σ (E σ))
    (ha : PA X (e :: es) t) (hN : X.N[i]? = some x) (hv : Vis X.env.scope x) (hd : (x == ("__debug__" : Str)) = false := by decide) (hcd : (x == ("__classdict__" : Str)) = false := by decide) (he : starEach (e :: es) X.env = (false, eval e X.env) :: starEach es X.env := by rfl) (hpl : (backTo pos (starEach es X.env)).any (·.1) = false := by rfl) :
    PE X (.Call (.Name x p) (e :: es) [] pos) (fun σ H Q => σ[i]? = some (some (.ref f)) ∧ tCallS sp E t σ H Q) := by
  refine ⟨fun pins s σ H Q I ⟨hs, h⟩ => wpAny_Call_Name_kw (thn ((pe_var (pos := p) (i := i) hN hv hd hcd).run pins s σ H (fun v H1 => v = .ref f ∧ H1 = H) I ⟨.ref f, hs, rfl, rfl⟩) fun u s1 ⟨v, H1, I1, r1, ev, eH⟩ => ?_)⟩
  subst ev
  rw [eH] at I1
  obtain rfl : u = Value.ref f := r1
  refine PySem.W.callWith_K (h₀ := X.base) I1.ok.mod.kin hk (thn (ha.run pos pins s1 σ H _ I1 h) fun us s2 ⟨vs, H2, I2, r, q⟩ => ⟨I2.kIn, ?_⟩) he hpl
  exact run_fnS F hr hb (hx σ) I2 r q
end
/-- a def that may raise, by its address -/
structure FdZ (g : Gb) (k : Nat) (f : Addr) (R : List DV → Out → Prop) : Prop where
  ex : ∃ fd ps, FnOk g.P g.w g.K g.mg g.base (L2.CX g.P g.w) k f fd ps (spZ g.K R) ∧ PySem.W.keepIn g.K (.ref f) = true ∧ L2.Binds g.K fd ps []
theorem dez_loc {g : Gb} {l : Lc} {ρ : Rho} {k : Nat} {n : Str} {f : Addr} {R : List DV → Out → Prop} {e : Expr} {es : List Expr} {ds : List DV} {o : Out} {p pos : Pos} (F : FdZ g k f R) (i : Nat) (hi : ρ[i]? = some (.val (.adr f))) (ha : DA g l (e :: es) ρ ds) (hR : R ds o) (hk : k ≤ l.k := by decide) (hN : l.N[i]? = some n := by rfl)
    (hv : Vis l.sc n := by first | exact Or.inl rfl | exact Or.inr (Or.inl rfl) | exact Or.inr (Or.inr rfl)) (hd : (n == ("__debug__" : Str)) = false := by decide) (hcd : (n == ("__classdict__" : Str)) = false := by decide)
    (he : ∀ env, starEach (e :: es) env = (false, eval e env) :: starEach es env := by intro _; rfl) (hpl : ∀ env, (backTo pos (starEach es env)).any (·.1) = false := by intro _; rfl) (hcl : l.cb = true := by rfl) : DEZ g l (.Call (.Name n p) (e :: es) [] pos) ρ o := by
  obtain ⟨fd, ps, ok, hkp, hb⟩ := F.ex
  refine DEZ.by (fun W σ H Q => σ[i]? = some (some (.ref f)) ∧ tCallS (spZ g.K R) (WE W) (UA g l (e :: es)) σ H Q) (fun X W oz => have o := oz.o; pe_callLoc (CX := L2.CX X.prog X.w) (k := k) (E := WE W) (by rw [o.prog, o.w, o.K, o.mg, o.base]; exact ok) ((o.room hcl).mono hk) (by rw [o.K]; exact hkp) (by rw [o.K]; exact hb) (fun σ => passAt oz.tk σ) (UA.pa o _) (by rw [o.N]; exact hN) (o.vis hv) hd hcd (he _) (hpl _)) fun H0 σ S H W e n Q q z => ?_
  obtain ⟨u, hu, r⟩ := n.val hi
  cases r
  exact ⟨hu, ev_callZ ha hR H0 σ S H W e n Q q z⟩
end PD
namespace SP
open PySem PySem.Spec PyProof.Rows L2 PD
variable {g : Gb} {C CR CT : Addr}
/-- what _law_row tells -/
def rowD : Out → DV
  | .exc _ [(_, d)] => .tup [d]
  | _ => .non
/-- the class BadText, caught -/
structure Xt (g : Gb) (CT : Addr) : Prop where
  m : g.mg "BadText" = some (.ref CT)
  e : PySem.W.exmOne g.K (.ref CT) (.ref CT) = some true
  T : XfC g.K CT
  n : PySem.W.findIn g.K (.ref CT) "row" = some none
abbrev lrN : List Str := ["_law_function", "_law_things", "error"]
theorem scLRow : FnScope lrN ["_law_function", "_law_things"] (defScope s__law_row) := ⟨rfl, rfl, rfl, by decide +kernel, rfl, by decide +kernel, by decide +kernel⟩
/-- an outcome that is a value, or a row that is told -/
def okRow (CT : Addr) (o : Out) : Prop := (∃ d, o = .val d) ∨ ∃ r : Nat, o = badRow CT r
theorem readF_ok (C CT : Addr) (L : List Str) (rest : Str) : okRow CT (readF C CT L rest) := by
  unfold readF
  split
  · exact .inr ⟨_, rfl⟩
  · split
    · exact .inr ⟨_, rfl⟩
    · dsimp only
      split
      · exact .inr ⟨_, rfl⟩
      · split
        · exact .inr ⟨_, rfl⟩
        · split
          · exact .inr ⟨_, rfl⟩
          · split
            · exact .inr ⟨_, rfl⟩
            · split
              · exact .inr ⟨_, rfl⟩
              · exact .inl ⟨_, rfl⟩
theorem readO_ok {v : DV} {o : Out} (h : readO C CT v o) : okRow CT o := by
  rcases h with ⟨_, rfl⟩ | ⟨z, L, rest, _, _, _, _, rfl⟩
  · exact .inr ⟨0, rfl⟩
  · exact readF_ok C CT L rest
def R_lrow (C CT fR : Addr) : List DV → DV → Prop := fun ds d => ∃ v o, ds = [.adr fR, v] ∧ readO C CT v o ∧ d = rowD o
theorem ok_lrow (X : Xt g CT) {fR : Addr} (RF : FdZ g 6 fR (R_readf C CT)) {f : Addr} {fd : FuncData} (F : Fun g.K "_law_row" "_law_row" s__law_row f fd) : FnOk g.P g.w g.K g.mg g.base CX0 7 f fd ["_law_function", "_law_things"] (spR g.K (R_lrow C CT fR)) := by
  refine FnOk.noZ (R := fun ds o => ∃ d, o = .val d ∧ R_lrow C CT fR ds d) (fn_okZ F scLRow (fun ds o ⟨d, _, v, _, e, _⟩ => by rw [e]; rfl) fun ds o' ⟨d, eo, v, o, e, h, ed⟩ => ?_) |>.imp fun vs H Q E ⟨S, ds, d, a, b, c, q⟩ => ⟨S, ds, d, a, b, ⟨d, rfl, c⟩, q⟩
  subst e eo ed
  refine dssz_cons (dsz_try_as (i := 2) (q := fun ρ' C' gs => ρ' = [.val (.adr fR), .val v, .un] ∧ C' = CT ∧ ∃ r : Nat, gs = [(("row" : Str), DV.int (r : Int))] ∧ o = badRow CT r) X.m rfl scLRow.nd ?_ ?_)
  · refine dssz_one (dsz_ex (dez_loc RF 0 rfl (da_cons (de_v 1) da_nil) ⟨v, rfl, h⟩) (fun d e => ?_) fun C' gs e => ?_)
    · subst e
      exact dssz_one (.of (ds_ret de_non rfl))
    · rcases readO_ok h with ⟨d, rfl⟩ | ⟨r, rfl⟩
      · cases e
      · cases e
        exact .inl ⟨X.e, rfl, rfl, r, rfl, rfl⟩
  · rintro ρ' C' gs a d ev ⟨rfl, rfl, r, rfl, rfl⟩ hx
    rcases hx with ⟨z, _⟩ | ⟨dd, rfl, rfl⟩
    · cases z
    · exact dss_one (ds_ret (de_tup (da_cons (de_xf (i := 2) X.T X.n (gs := [("row", .int (r : Int))]) rfl (by rw [List.lookup_cons_self])) da_nil)) rfl)
end SP

/-! f(lambda x: .., e): a lambda with one parameter and captured names, handed to a def that calls it on its second argument. -/
namespace PD
open PySem PySem.Spec PyProof.Rows L2 LamX
/-- one parameter it; all else captured or global -/
structure LamS1 (sc scope : Scope) (it : Str) : Prop where
  kind : scope.kind = .function
  co : scope.isCoroutine = false
  gen : scope.isGenerator = false
  par : scope.names.lookup it = some .local
  own : ∀ y ∈ scope.names, (y.2 = .local → y.1 = it) ∧ y.2 ≠ .cell
  free : ∀ y ∈ scope.names, y.2 = .free → sc.names.lookup y.1 = some .cell ∨ sc.names.lookup y.1 = some .free
def lamS1B (sc scope : Scope) (it : Str) : Bool :=
  decide (scope.kind = .function) && !scope.isCoroutine && !scope.isGenerator && decide (scope.names.lookup it = some .local) && scope.names.all fun y => (!decide (y.2 = .local) || decide (y.1 = it)) && !decide (y.2 = .cell) && (!decide (y.2 = .free) || decide (sc.names.lookup y.1 = some .cell) || decide (sc.names.lookup y.1 = some .free))
theorem lamS1_by {sc scope : Scope} {it : Str} (h : lamS1B sc scope it = true) : LamS1 sc scope it := by
  unfold lamS1B at h
  simp only [Bool.and_eq_true, Bool.or_eq_true, Bool.not_eq_true', decide_eq_true_eq, decide_eq_false_iff_not, List.all_eq_true] at h
  obtain ⟨⟨⟨⟨h1, h2⟩, h3⟩, h4⟩, h5⟩ := h
  refine ⟨h1, h2, h3, h4, fun y hy => ⟨fun e => ((h5 y hy).1.1).resolve_left (fun z => z e), (h5 y hy).1.2⟩, fun y hy e => ?_⟩
  rcases (h5 y hy).2 with (z | z) | z
  · exact absurd e z
  · exact .inl z
  · exact .inr z
section
variable {X : Cx} {pins : List (Addr × Obj)} {σ : L2.St} {H HZ : Hp} {s s1 : Shared} {scope : Scope} {it : Str}
theorem LamS1.has (L : LamS1 X.env.scope scope it) (ok : X.Ok) : ∀ y ∈ scope.names, y.2 = .free → ∃ c, X.env.cells.lookup y.1 = some c := fun y hy e => (L.free y hy e).elim (fun k => ok.has _ (.inl k)) fun k => ok.has _ (.inr k)
/-- the context of its body -/
abbrev lamCx1 (X : Cx) (A : Around) (outer : List Env) (s : Shared) (H : Hp) (E : XK) (scope : Scope) (f c' : Addr) (it : Str) : Cx := { lamCx X A outer s H E scope f c' with N := X.N ++ [it] }
theorem clo_same (L : LamS1 X.env.scope scope it) (ok : X.Ok) {y : Str} {c : Addr} (e : (cloFrom X.env.cells scope.names []).lookup y = some c) : X.env.cells.lookup y = some c := by
  rcases cloFrom_mem (PySem.mem_of_lookup e) with hm | ⟨h1, h2⟩
  · cases hm
  · obtain ⟨c1, hc⟩ := L.has ok _ h1 rfl
    have hc : X.env.cells.lookup y = some c1 := hc
    rw [hc]
    congr 1
    rw [h2, hc]
    rfl
theorem clo_has {y : Str} (h : scope.names.lookup y = some .free) : ∃ c, (cloFrom X.env.cells scope.names []).lookup y = some c :=
  mem_lookup (cloFrom_has (cells := X.env.cells) (acc := []) (PySem.mem_of_lookup h))
theorem lam_start1 {A : Around} {outer : List Env} {E : XK} {f c' : Addr} {h₁ : Heap} {tk : Nat} {v : V} {u : Value} (I : Inv X pins σ H s) (L : LamS1 X.env.scope scope it) (hN : it ∉ X.N) (e0 : Env0 X.prog X.w X.K X.mg X.base A outer s1 HZ) (hd : A.handled = none)
    (un : Un (frs X.stack) [] H HZ s.heap s1.heap) (hns : h₁.Ns s1.heap.objs.size fun y => ([(it, u)] : List (Str × Value)).reverse.lookup y) (kp : ∀ b o, s1.heap.get? b = some o → h₁.get? b = some o) (rv : RelV v u) :
    Inv (lamCx1 X A outer s1 HZ E scope f c' it) [] (σ ++ [some v]) HZ { s1 with heap := h₁, toks := tk } := by
  have cellK : ∀ {c : Addr} {v : Option Value}, H c = none → s.heap.IsCell c v → h₁.IsCell c v := fun {c v} n ⟨o, ho, hd⟩ =>
    let ⟨_, q⟩ := un.any ho n (by simp)
    ⟨_, kp _ _ q, hd⟩
  have noA : ∀ b : Addr, b ∉ (lamCx1 X A outer s1 HZ E scope f c' it).ex := fun b z => nomatch (show b ∈ ([] : List Addr) from z)
  have sees : ∀ {y : Str}, scope.names.lookup y = some .free → Vis X.env.scope y := fun {y} k => (L.free _ (PySem.mem_of_lookup k) rfl).elim (fun k => .inr (.inl k)) fun k => .inr (.inr k)
  exact {
    ok := {
      mod := e0.mod, kind := L.kind, glob := rfl, blt := rfl, above := Nat.le_refl _
      inj := fun y z c e1 e2 => I.ok.inj y z c (clo_same L I.ok e1) (clo_same L I.ok e2)
      has := fun y hy => by
        have hy : scope.names.lookup y = some .cell ∨ scope.names.lookup y = some .free := hy
        rcases hy with hy | hy
        · exact absurd rfl (L.own _ (PySem.mem_of_lookup hy)).2
        · exact clo_has hy
      cab := fun y c z _ => nomatch (show false = true from z)
      hd := fun _ => hd
      frames := Around.frames_deeper e0.frames
      stk := .inr ⟨rfl, rfl⟩
      exf := fun b z => absurd z (noA b)
      bs := e0.bs, bsz := e0.bsz
      noex := fun b _ _ => noA b
      exfs := fun b z => absurd z (noA b)
      funs := e0.funs, frf := e0.frf }
    os := rfl
    bare := e0.bare
    base := Un.kept kp
    loc := ⟨_, hns, fun i y w e1 e2 e3 => by
      have e1 : (X.N ++ [it])[i]? = some y := e1
      have e3 : Vis scope y := e3
      by_cases hi : i < X.N.length
      · rw [List.getElem?_append_left hi] at e1
        rw [List.getElem?_append_left (by rw [I.len]; exact hi)] at e2
        rcases e3 with k | k | k
        · have ey : y = it := (L.own _ (PySem.mem_of_lookup k)).1 rfl
          rw [ey] at e1
          exact absurd (List.mem_of_getElem? e1) hN
        · exact absurd rfl (L.own _ (PySem.mem_of_lookup k)).2
        · obtain ⟨m, hn, hl⟩ := I.loc
          obtain ⟨w', r, q⟩ := hl i y w e1 e2 (sees k)
          obtain ⟨c2, h2⟩ := clo_has (X := X) k
          have c1 := clo_same L I.ok h2
          refine ⟨w', r, .inr ⟨.inr k, c2, h2, ?_⟩⟩
          rcases q with ⟨k', _⟩ | ⟨_, c3, e', z⟩
          · have k' : X.env.scope.names.lookup y = some .local := k'
            rcases L.free _ (PySem.mem_of_lookup k) rfl with k2 | k2 <;> rw [show X.env.scope.names.lookup y = _ from k2] at k' <;> cases k'
          · rw [c1] at e'
            cases e'
            exact cellK (I.freeC y _ c1) z
      · rw [List.getElem?_append_right (by omega)] at e1
        rw [List.getElem?_append_right (by rw [I.len]; omega), I.len] at e2
        have h0 : i - X.N.length = 0 := by
          have := (List.getElem?_eq_some_iff.mp e1).1
          simp at this
          omega
        rw [h0] at e1 e2
        cases e1
        cases e2
        exact ⟨u, rv, .inl ⟨L.par, List.lookup_cons_self⟩⟩⟩
    cell := fun y c e =>
      let ⟨w', z⟩ := I.cell y c (clo_same L I.ok e)
      ⟨w', cellK (I.freeC y c (clo_same L I.ok e)) z⟩
    free := e0.hok.fresh (Nat.le_refl _)
    freeC := fun y c e =>
      let ⟨v, o, ho, hd⟩ := I.cell y c (clo_same L I.ok e)
      un.free c o ho (I.freeC y c (clo_same L I.ok e)) (by simp)
    pin := fun q hq => nomatch (show q ∈ ([] : List (Addr × Obj)) ++ [] from hq)
    hok := e0.hok.kept kp
    len := by
      show (σ ++ [some v]).length = (X.N ++ [it]).length
      rw [List.length_append, List.length_append, I.len]
      rfl }
/-- a(b), a the lambda that was handed in: in the def that got it -/
theorem pe_act1 {CXg : CXT} {Eg : XK} {Ng : List Str} {qg : Str} {sg : Scope} {g f c' : Addr} {cdg pm ctv : Value} {params : Arguments} {body : Expr} {k i j : Nat} {a b : Str} {pn : List (Addr × Obj)} {xe : Value → Shared → Prop} {W : WX} {E : XK} {tb : TE} {p1 p2 p3 : Pos} {v : V}
    (I : Inv X pins σ H s) (L : LamS1 X.env.scope scope it) (hno : it ∉ X.N) (at_f : s.heap.get? f = some (PySem.W.kla_obj "<lambda>" (X.env.qual ++ "<lambda>") params body scope (cloFrom X.env.cells scope.names []) pm c' ctv)) (no_f : H f = none) (off_f : f ∉ frs X.stack)
    (binds : ∀ u : Value, bindArgs (PySem.W.kla_fn "<lambda>" (X.env.qual ++ "<lambda>") params body scope (cloFrom X.env.cells scope.names []) pm (.ref c') ctv) ⟨[u], []⟩ = pure [(it, u)])
    (tk : Takes ((cxOf CXg X.prog X.w X.K X.mg X.base Ng qg sg g cdg X.A X.stack s H Eg).tr pn xe) W) (hr : Room (k + 1) (X.A.deeper (envOfC qg sg s.heap.objs.size g cdg)))
    (hb : ∀ (A : Around) (outer : List Env) (s : Shared) (H : Hp), Room k (A.deeper (lamEnv X scope s.heap.objs.size f c')) → PE (lamCx1 X A outer s H E scope f c' it) body tb)
    (hN : Ng[i]? = some a) (hv : Vis sg a) (hN2 : Ng[j]? = some b) (hv2 : Vis sg b) (hd : (a == ("__debug__" : Str)) = false := by decide) (hcd : (a == ("__classdict__" : Str)) = false := by decide) (hd2 : (b == ("__debug__" : Str)) = false := by decide) (hcd2 : (b == ("__classdict__" : Str)) = false := by decide) :
    PE ((cxOf CXg X.prog X.w X.K X.mg X.base Ng qg sg g cdg X.A X.stack s H Eg).tr pn xe) (.Call (.Name a p1) [.Name b p3] [] p2)
      (fun σZ HZ Q => σZ[i]? = some (some (.ref f)) ∧ σZ[j]? = some (some v) ∧ HZ c' = some (CodeO c' (X.env.qual ++ "<lambda>")) ∧ (∀ cls d H', E cls d H' → W cls d σZ H') ∧ tb (σ ++ [some v]) HZ Q) := by
  refine ⟨fun pinsZ sZ σZ HZ Q IZ ⟨hs, hs2, hc, hW, ht⟩ => wpAny_Call_Name_kw (thn ((pe_var (pos := p1) (i := i) hN hv hd hcd).run pinsZ sZ σZ HZ (fun v H1 => v = .ref f ∧ H1 = HZ) IZ ⟨.ref f, hs, rfl, rfl⟩) fun u s1 ⟨w, H1, I1, r1, ev, eH⟩ => ?_)⟩
  subst ev
  rw [eH] at I1
  obtain rfl : u = Value.ref f := r1
  have kept : ∀ {s2 : Shared}, Inv ((cxOf CXg X.prog X.w X.K X.mg X.base Ng qg sg g cdg X.A X.stack s H Eg).tr pn xe) pinsZ σZ HZ s2 → s2.heap.get? f = some (PySem.W.kla_obj "<lambda>" (X.env.qual ++ "<lambda>") params body scope (cloFrom X.env.cells scope.names []) pm c' ctv) := fun I => I.base.keep f _ at_f no_f off_f (fun z => nomatch (show f ∈ ([] : List Addr) from z))
  refine PySem.W.callWith_F ⟨_, _, _, _, kept I1⟩ (thn ((pa_cons (pe_var (pos := p3) (i := j) hN2 hv2 hd2 hcd2) pa_nil (by rfl)).run p2 pinsZ s1 σZ HZ (fun vs H1 => vs = [v] ∧ H1 = HZ) I1 ⟨v, hs2, rfl, rfl⟩) fun us s2 ⟨vs, H2, I2, r2, ev, eH⟩ => ?_) (by rfl) (by rfl)
  subst ev
  rw [eH] at I2
  obtain ⟨u2, rfl, rv⟩ : ∃ u2, us = [u2] ∧ RelV v u2 := by
    cases r2 with
    | cons a b => cases b; exact ⟨_, rfl, a⟩
  refine ⟨⟨_, _, _, _, kept I2⟩, ?_⟩
  show wpAny _ _ (call (.ref f) [u2]) _ _ s2
  have since : Un (frs X.stack) [] H HZ s.heap s2.heap := I2.base
  obtain ⟨⟨oc, vs, t, hoc, hdc, hvc⟩, _, _⟩ := I2.hok c' _ hc
  have runs : codeAny (model X.prog X.w) (X.A.deeper (envOfC qg sg s.heap.objs.size g cdg)) (.call (.ref f) ⟨[u2], []⟩) (CR (L2.CX X.prog X.w) (envOfC qg sg s.heap.objs.size g cdg :: X.stack) X.prog X.w HZ s2 Q E) s2 := by
    refine PySem.W.kla_callFunE hr.depth (kept I2) rfl L.co L.gen rfl ⟨c', oc, vs, t, rfl, hoc, hdc, hvc⟩ ?_
    rw [binds u2]
    refine wpAny_pure (wpAny_newFunctionEnv (fun y hy => (L.own y hy).2) (fun y hy => by rw [List.mem_singleton.mp hy]; exact L.par) (fun h₁ hns hsb => ⟨I2.nolimit.fresh _ hsb, ?_⟩) L.kind)
    show codeAny _ _ (.expr body (lamEnv X scope s2.heap.objs.size f c')) _ _
    have J := lam_start1 (A := X.A.deeper (envOfC qg sg s.heap.objs.size g cdg)) (outer := envOfC qg sg s.heap.objs.size g cdg :: X.stack) (E := E) (f := f) (c' := c') (tk := s2.toks + ([(it, u2)] : List (Str × Value)).length) I L hno I2.env0 hr.hd since hns (fun b o e => hsb.extBut b o (Nat.ne_of_lt (Heap.lt_size e)) (Heap.get?_push_of_some _ e)) rv
    exact PySem.W.kla_codeExpr (wpAny_mono ((hb _ _ s2 HZ (hr.deeper _)).run [] _ _ HZ Q J ht) (fun v s' ⟨w', H', J', rv, q⟩ => ⟨w', H', J'.os, J'.bare, J'.base, J'.hok, rv, q⟩) fun e s' hq => hq)
  refine wpAny_call (codeAny_mono runs fun r s' hq => ?_)
  match r, hq with
  | .error e, hq => exact tk e s' (XE.of_call I2 (fun cls d H' h => hW cls d H' h) hq)
  | .ok (.ret u), hq => exact I2.after hq
  | .ok .next, hq => exact False.elim hq
  | .ok .brk, hq => exact False.elim hq
  | .ok .cont, hq => exact False.elim hq
end
end PD

/-! f(lambda x: .., e): the call; _law_row is such an f. -/
namespace PD
open PySem PySem.Spec PyProof.Rows L2 LamX
section
variable {X : Cx} {scope : Scope} {it : Str}
/-- the def x that calls its first parameter a on its second b; TT: what it makes of the lambda's reading -/
def GivesB (X : Cx) (k : Nat) (Ng : List Str) (x : Str) (sg : Scope) (g : Addr) (bg : List Stmt) (a b : Str) (q : Str) (TT : (XK → Hp → VK → Prop) → Hp → VK → Prop) : Prop :=
  ∀ (f c' : Addr) (cdg : Value) (s : Shared) (H : Hp) (Q : VK) (v : V) (tl : XK → Hp → VK → Prop), Room k (X.A.deeper (envOfC x sg s.heap.objs.size g cdg)) →
    (∀ (W : WX) (pn : List (Addr × Obj)) (xe : Value → Shared → Prop) (E : XK) (p1 p2 p3 : Pos), Takes ((cxOf CX0 X.prog X.w X.K X.mg X.base Ng x sg g cdg X.A X.stack s H E0).nox.tr pn xe) W →
      PE ((cxOf CX0 X.prog X.w X.K X.mg X.base Ng x sg g cdg X.A X.stack s H E0).nox.tr pn xe) (.Call (.Name a p1) [.Name b p3] [] p2) (fun σZ HZ Q => σZ[0]? = some (some (.ref f)) ∧ σZ[1]? = some (some v) ∧ HZ c' = some (CodeO c' q) ∧ (∀ cls d H', E cls d H' → W cls d σZ H') ∧ tl E HZ Q)) →
    H c' = some (CodeO c' q) → TT tl H Q →
    ∃ t, SsN (cxOf CX0 X.prog X.w X.K X.mg X.base Ng x sg g cdg X.A X.stack s H E0).nox 0 bg t ∧ t { nx := fun _ H' => Q .non H', rt := Q } (L2.start Ng [.ref f, v]) H
def tLam1 (P : Addr) (q : Str) (T : List (Addr × Str)) (TT : (XK → Hp → VK → Prop) → Hp → VK → Prop) (te : TE) (t : XK → TE) : TE := fun σ H Q => Tabs T H ∧ ∀ H1, TabStep P q H H1 → ∀ c', H1 c' = some (CodeO c' q) → te σ H1 fun v H2 => H2 c' = some (CodeO c' q) ∧ TT (fun E H' Q' => t E (σ ++ [some v]) H' Q') H2 Q
theorem pe_lam1 {T : List (Addr × Str)} {TT : (XK → Hp → VK → Prop) → Hp → VK → Prop} {x a b : Str} {gd c P : Addr} {k : Nat} {st : Stmt} {fdg : FuncData} {Ng : List Str}
    {params : Arguments} {body e2 : Expr} {te : TE} {t : XK → TE} {p lpos pos : Pos} {q : Str} (F : Fun X.K x x st gd fdg) (Sg : FnScope Ng [a, b] (defScope st)) (hN : Ng[0]? = some a) (hN2 : Ng[1]? = some b) (hg : Gl X x) (hm : X.mg x = some (.ref gd)) (hb : L2.Binds X.K fdg [a, b] [])
    (hG : GivesB X (k + 1) Ng x (defScope st) gd (defBody st) a b (X.env.qual ++ "<lambda>") TT) (eq : X.env.qual ++ "<lambda>" = q)
    (TB : TabB X.base X.mg c P) (hcode : X.env.code = .ref c) (hmT : (P, q) ∈ T) (hr : Room (k + 2) X.A) (L : LamS1 X.env.scope scope it) (hno : it ∉ X.N) (hdef : defaultsOf params X.env = ([], []))
    (hbind : ∀ (q : Str) (cl : List (Str × Addr)) (pm cv ctv u : Value), bindArgs (PySem.W.kla_fn "<lambda>" q params body scope cl pm cv ctv) ⟨[u], []⟩ = pure [(it, u)])
    (h2 : PE X e2 te)
    (hbody : ∀ (A : Around) (outer : List Env) (s : Shared) (H : Hp) (E : XK) (f c' : Addr), Room k (A.deeper (lamEnv X scope s.heap.objs.size f c')) → PE (lamCx1 X A outer s H E scope f c' it) body (t E))
    (hst : starEach [.Lambda params body scope lpos, e2] X.env = (false, eval (.Lambda params body scope lpos) X.env) :: starEach [e2] X.env := by rfl) (hst2 : starEach [e2] X.env = [(false, eval e2 X.env)] := by rfl) (hpl : (backTo pos (starEach [e2] X.env)).any (·.1) = false := by rfl)
    (hdb : (x == ("__debug__" : Str)) = false := by decide) (hd : (a == ("__debug__" : Str)) = false := by decide) (hcd : (a == ("__classdict__" : Str)) = false := by decide) (hd2 : (b == ("__debug__" : Str)) = false := by decide) (hcd2 : (b == ("__classdict__" : Str)) = false := by decide) :
    PE X (.Call (.Name x p) [.Lambda params body scope lpos, e2] [] pos) (tLam1 P q T TT te t) := by
  refine ⟨fun pins s σ H Q I ⟨hT, h⟩ => wpAny_Call_Name_kw (ld_glob I hg hm (PySem.W.callWith_K (h₀ := X.base) I.ok.mod.kin F.kp ?_ hst hpl) hdb)⟩
  subst eq
  rw [hst]
  show wpAny _ _ (spliced ((false, eval (.Lambda params body scope lpos) X.env) :: backTo pos (starEach [e2] X.env))) _ _ s
  refine Calls.spliced_cons (lam_makeP I TB hcode rfl hmT hT hdef (L.has I.ok) fun f c' pm' ctv H1 s' J eN hf hfn hfr hco => ?_)
  have fs : f ∉ X.fs := fun z => hfr (by
    rcases I.ok.stk with e | ⟨e, hfm⟩
    · rw [e]; exact z
    · rw [e]; unfold frs; rw [List.filterMap_cons, hfm]; exact List.mem_cons_of_mem _ z)
  have fl : f ≠ X.env.locals := fun z => by
    obtain ⟨m, ⟨o', es, ep, ho', hd', _⟩, _⟩ := J.loc
    rw [← z, hf] at ho'
    cases ho'
    cases hd'
  have Jp : Inv X ((f, PySem.W.kla_obj "<lambda>" (X.env.qual ++ "<lambda>") params body scope (cloFrom X.env.cells scope.names []) pm' c' ctv) :: pins) σ H1 s' := J.pins_of fun p hp => by
    rcases List.mem_cons.mp hp with rfl | hp
    · exact ⟨hf, hfn, fl, fs, fun _ z => by cases z⟩
    · exact J.pin p (List.mem_append_right _ hp)
  rw [hst2]
  show wpAny _ _ (spliced ((false, eval e2 X.env) :: [])) _ _ s'
  refine Calls.spliced_cons (thn (h2.run _ s' σ H1 _ Jp (h H1 eN c' hco)) fun u2 s2 ⟨v2, H2, I2p, r2, hco2, h3⟩ => Calls.spliced_nil ?_)
  have I2 : Inv X pins σ H2 s2 := invUnpin I2p
  obtain ⟨hf2, hfn2⟩ := invPinAt I2p
  refine ⟨I2.kIn, ?_⟩
  have bt := hb s2 [.ref f, u2] I2.kIn rfl
  rw [List.append_nil] at bt
  have rc : codeAny (model X.prog X.w) X.A (.call (.ref gd) ⟨[.ref f, u2], []⟩) (CR CX0 X.stack X.prog X.w H2 s2 Q E0) s2 := by
    refine fn_raw (CX := CX0) (k := k + 1) (n := 0) (us := [.ref f, u2]) (vs := [.ref f, v2]) F Sg rfl hr I2.env0 bt (.cons rfl (.cons r2 .nil)) (Nat.zero_le _) fun cdv s1 hr1 I1 t1 _ => ?_
    obtain ⟨tt, hs, hq⟩ := hG f c' cdv s2 H2 Q v2 (fun E H' Q' => t E (σ ++ [some v2]) H' Q') hr1 (fun W pn xe E p1 p2 p3 tk => pe_act1 (CXg := CX0) (Eg := E0) (i := 0) (j := 1) I2 L hno hf2 hfn2 hfr (fun u => hbind _ _ _ _ _ u) tk hr1 (fun A outer s H hr2 => hbody A outer s H E f c' hr2) hN (by rcases Sg.par a (List.mem_cons_self ..) with z | z; exact .inl z; exact .inr (.inl z)) hN2 (by rcases Sg.par b (List.mem_cons_of_mem _ (List.mem_cons_self ..)) with z | z; exact .inl z; exact .inr (.inl z)) hd hcd hd2 hcd2) hco2 h3
    exact wpAny_mono (hs.run [] s1 _ H2 _ t1 (I1.wish _) hq) (fun _ _ z => z.unwish) fun _ _ z => z.elim
  refine wpAny_call (codeAny_mono rc fun r s3 hq => ?_)
  match r, hq with
  | .error e, hq => exact (show False from hq).elim
  | .ok (.ret u), hq => exact I2.after hq
  | .ok .next, hq => exact False.elim hq
  | .ok .brk, hq => exact False.elim hq
  | .ok .cont, hq => exact False.elim hq
end
end PD

/-! _law_row on a lambda: what it hands back. -/
namespace SP
open PySem PySem.Spec PyProof.Rows L2 PD LamX
def TTw (g : Gb) (CT : Addr) : (XK → Hp → VK → Prop) → Hp → VK → Prop := fun tl H Q => ∃ S o, Ex S H ∧ Meets g.K tl S H o ∧ okRow CT o ∧ Rs g.K S H (rowD o) Q
def rowS : List Stmt := match defBody s__law_row with
  | .Try _ [.ExceptHandler _ _ ss _] _ _ _ :: _ => ss
  | _ => []
theorem row_form : ∃ (p1 p2 p3 p4 p5 p6 np pos' pos : Pos) (j : Nat) (b : Stmt), rowS = [b] ∧ defBody s__law_row = [.Try [.Expr (.Call (.Name "_law_function" p1) [.Name "_law_things" p4] [] p2) p3] [.ExceptHandler (some (.Name "BadText" np)) (some "error") [b] pos'] [] [] pos, .Return (some (.Constant .none j p5)) p6] :=
  ⟨_, _, _, _, _, _, _, _, _, _, _, rfl, rfl⟩
abbrev rwL (k : Nat) : Lc := ⟨k, lrN, defScope s__law_row, fun _ => true, true, none⟩
theorem en_un3 {K : PySem.W.Frag} {H0 S H : Hp} {σ : L2.St} (h : σ.length = 3) : En K H0 S H σ [.un, .un, .un] := by
  have un : ∀ {i : Nat} {e : EV}, ([.un, .un, .un] : Rho)[i]? = some e → e = .un := fun {i e} h => by
    match i, h with
    | 0, h => exact (Option.some.inj h).symm
    | 1, h => exact (Option.some.inj h).symm
    | 2, h => exact (Option.some.inj h).symm
    | i + 3, h => simp at h
  exact ⟨h, fun i v e _ h2 => by rw [un h2]; trivial, fun i j p q ds es _ h _ _ _ => by cases un h⟩
theorem gives_row {g : Gb} {l : Lc} {X : Cx} {k : Nat} {CT gd : Addr} {q : Str} (o : Of g l X) (Xt : Xt g CT) :
    GivesB X k lrN "_law_row" (defScope s__law_row) gd (defBody s__law_row) "_law_function" "_law_things" q (TTw g CT) := by
  intro f c' cdg s H Q v tl hr act hc ⟨S, out, ex, meets, hR, rs⟩
  obtain ⟨p1, p2, p3, p4, p5, p6, np, pos', pos, j, b, eS, eB⟩ := row_form
  rw [eB]
  generalize hX : (cxOf CX0 X.prog X.w X.K X.mg X.base lrN "_law_row" (defScope s__law_row) gd cdg X.A X.stack s H E0).nox = Z
  have oZ : Of g (rwL k) Z := by
    subst hX
    exact ⟨o.prog, o.w, o.K, o.mg, o.base, rfl, rfl, fun _ _ => rfl, fun _ => rfl, fun _ => hr, hr.un, fun _ => PassesOwn.never, fun _ _ _ h => by cases h⟩
  have eK : Z.K = g.K := oZ.K
  refine ⟨_, sn_cons (sn_try_as (x := "BadText") (cl := .ref CT) (nm := "error") (i := 2) (Wo := fun _ _ _ _ => False)
      (tb := fun W D σ H => ∃ E : XK, σ[0]? = some (some (.ref f)) ∧ σ[1]? = some (some v) ∧ H c' = some (CodeO c' q) ∧ (∀ cls d H', E cls d H' → W cls d σ H') ∧ tl E H (fun _ H' => D.nx σ H'))
      (ts := fun a cls d => USs g ((rwL k).sui a cls d) [b]) (by subst hX; rfl) (by subst hX; rfl) (by subst hX; exact scLRow.nd) (by subst hX; rfl) (by subst hX; rfl) ⟨by subst hX; rfl, by decide, .inl (by rw [oZ.mg]; exact Xt.m)⟩ (by subst hX; exact L2.takes0)
      (fun W pn xe tk _ => ⟨fun pins s' σ H' D ht I ⟨E, h1, h2, h3, h4, h5⟩ => ?_⟩) (fun a oe cls d pn hz hf => USs.pss (oZ.suite hz hf) _)) (.of (pss_one (ps_ret pe_non))), ?_⟩
  · subst hX
    have st := sn_cons (sn_exprZ (pos := p3) (n := 0) (.of (act W pn xe E p1 p2 p4 tk)) (by rfl)) (X := (cxOf CX0 X.prog X.w X.K X.mg X.base lrN "_law_row" (defScope s__law_row) gd cdg X.A X.stack s H E0).nox.tr pn xe) (.of pss_nil)
    exact st.run pins s' σ H' D ht I ⟨h1, h2, h3, h4, h5⟩
  · refine ⟨fun cls d H' => wAs Z.K (.ref CT) 2 (fun a cls d => USs g ((rwL k).sui a cls d) [b]) (fun _ _ _ _ => False) { nx := fun σ H' => tRet (tC .non) { nx := fun _ H' => Q .non H', rt := Q } σ H', rt := Q } cls d (L2.start lrN [.ref f, v]) H', rfl, rfl, hc, fun _ _ _ h => h, ?_⟩
    refine meets _ _ (fun d v S' H' e g1 => ?_) fun C gs cls dd S' H' e g1 xd => ?_
    · subst e
      exact rs _ S' H' g1 .non
    · subst e
      rcases hR with ⟨d, z⟩ | ⟨r, z⟩
      · cases z
      cases z
      obtain ⟨rfl, xd⟩ := xd
      rcases xd with ⟨z1, z2⟩ | ⟨dx, fs, rfl, hx, rf⟩
      · first
        | (cases z1; done)
        | (cases z2; done)
      refine ⟨true, by rw [eK]; exact Xt.e, fun _ a na => ?_, fun h => by cases h⟩
      have suite : DSs g ((rwL k).sui a (.ref CT) (some dx)) rowS [.un, .un, .exo a dx [("row", .int (r : Int))]] { nx := fun _ => False, rt := fun d => d = .tup [.int (r : Int)] } :=
        dss_one (ds_ret (de_tup (da_cons (de_xf (i := 2) Xt.T Xt.n (gs := [("row", .int (r : Int))]) rfl (by rw [List.lookup_cons_self])) da_nil)) rfl)
      rw [eS] at suite
      have n0 : En g.K H' S' H' (L2.start lrN [.ref f, v]) [.un, .un, .un] := en_un3 rfl
      have he : EnE g.K H' S' H' (some (.ref a)) (.exo a dx [("row", .int (r : Int))]) := ⟨rfl, fs, hx, rf⟩
      exact suite S' H' S' _ S' H' _ (Go.rf g1.sub) (Ex.rf _) (n0.setV (i := 2) he (fun _ z => by cases z)) ⟨fun _ _ _ _ z => z.elim, fun d v S2 H2 z g2 r2 => by subst z; exact rs v S2 H2 (g1.tr g2) r2, fun _ _ _ _ z => z.elim, fun _ _ _ _ z => z.elim⟩
end SP

/-! A comprehension whose elements make code objects. -/
namespace PD
open PySem PySem.Spec PyProof.Rows L2 LamX
section
variable {K : PySem.W.Frag} {S0 H0 B S H S' H' H9 : Hp} {σ : L2.St} {ρ : Rho} {m : Mo} {te : TE} {ds : List DV} {D : Addr} {o : HO}
theorem En.any (n : En K H0 S H σ ρ) (h : noOwn ρ = true) (e : Ex S S') : En K H9 S' H' σ ρ where
  len := n.len
  at_ := fun i v u a b => by
    have k := n.at_ i v u a b
    have z := noOwn_get h b
    cases u with
    | un => trivial
    | exo _ _ _ => obtain ⟨a1, fs, b1, c1⟩ := k; exact ⟨a1, fs, e _ _ b1, c1.up e⟩
    | val d => obtain ⟨w, x, r⟩ := k; exact ⟨w, x, r.up e⟩
    | ownD _ => cases z
  sep := n.sep
theorem En.snoc {v : V} {d : DV} (n : En K H0 S H σ ρ) (h : noOwn ρ = true) (r : Rp K S v d) : En K H0 S H (σ ++ [some v]) (ρ ++ [.val d]) where
  len := by rw [List.length_append, List.length_append, n.len]; rfl
  at_ := fun i w u a b => by
    by_cases hi : i < ρ.length
    · rw [List.getElem?_append_left (by rw [n.len]; exact hi)] at a
      rw [List.getElem?_append_left hi] at b
      exact n.at_ i w u a b
    · rw [List.getElem?_append_right (by omega)] at b
      rw [List.getElem?_append_right (by rw [n.len]; omega), n.len] at a
      have h0 : i - ρ.length = 0 := by
        have := (List.getElem?_eq_some_iff.mp b).1
        simp at this
        omega
      rw [h0] at a b
      cases a
      cases b
      exact ⟨v, rfl, r⟩
  sep := fun i j p q ds es _ a _ _ _ => by
    have no : noOwn (ρ ++ [.val d]) = true := by
      unfold noOwn at h ⊢
      rw [List.all_append, h]
      rfl
    exact absurd (noOwn_get no a) (by simp [EV.isOwn])
/-- a new list is written on, beside the mutable thing -/
theorem Sm.put (s : Sm K S0 H0 B σ S H ρ m) (hn : noOwn ρ = true) (nS : S D = none) (nd : ¬ m.dom D) (h0 : H0 D = none) : Sm K S0 H0 B σ S (upd H D o) ρ m := by
  have e : mix m H0 (upd H D o) = mix m H0 H := funext fun b => by
    by_cases y : m.dom b
    · rw [mix_in y, mix_in y, upd_ne (fun z => nd (by rw [← z]; exact y))]
    · rw [mix_out y, mix_out y]
  refine ⟨by rw [e]; exact s.g.chg nS (by rw [mix_out nd]; exact h0), s.b, s.n.any hn (Ex.rf _), ⟨fun b y => ?_, ?_⟩⟩
  · obtain ⟨a1, a2, a3, a4⟩ := s.d.z b y
    exact ⟨a1, a2, a3, by rw [upd_ne (fun z => nd (by rw [← z]; exact y))]; exact a4⟩
  · exact m.stb S H _ _ (Ex.rf _) (fun b y => upd_ne (fun z => nd (by rw [← z]; exact y))) s.d.p
theorem Sm.still (s : Sm K S0 H0 B σ S H ρ m) (hn : noOwn ρ = true) (nS : S D = none) (nd : ¬ m.dom D) (h0 : H0 D = none) (h : H D = some o) : Sm K S0 H0 B σ (upd S D o) H ρ m := by
  refine ⟨s.g.frz nS (by rw [mix_out nd]; exact h0) h, s.b.tr (Ex.new nS), s.n.any hn (Ex.new nS), ⟨fun b y => ?_, ?_⟩⟩
  · obtain ⟨a1, a2, a3, a4⟩ := s.d.z b y
    exact ⟨a1, a2, by rw [upd_ne (fun z => nd (by rw [← z]; exact y))]; exact a3, a4⟩
  · exact m.stb S H _ _ (Ex.new nS) (fun b y => rfl) s.d.p
/-- [f d for d in ds] -/
theorem evu_lcM {wi : TI} {g : TG} {tt : TT} {is vs : List Nat} (hi : IvD K wi ρ ds) (hlen : ds.length ≤ 100000) (his : ∀ j ∈ is, j ∈ vs) (hno : noOwn ρ = true) (ρ1 : DV → Rho) (hno1 : ∀ d ∈ ds, noOwn (ρ1 d) = true) (f : DV → DV)
    (hg : ∀ d ∈ ds, TgD K g is d (wipeR ρ vs) (ρ1 d)) (ht : ∀ d ∈ ds, EvB K tt (ρ1 d) true) (he : ∀ d ∈ ds, EvU K te (ρ1 d) m (f d) m) : EvU K (tLc wi g tt te vs) ρ m (.lst (ds.map f)) m := fun S0 H0 B σ S H s Q q =>
  hi _ σ S H s.g.sub s.n _ fun J S1 H1 g1 w1 => fun D hD => by
    have s1 := s.go g1
    have nd : ¬ m.dom D := fun y => (s1.d.z D y).2.2.2 hD
    have h0 : H0 D = none := by
      have := s1.g.h.free hD
      rwa [mix_out nd] at this
    refine ⟨fun i k H2 => k = ds.length - i ∧ i ≤ ds.length ∧ ∃ S2 acc, Sm K S0 H0 B σ S2 H2 ρ m ∧ Ex S1 S2 ∧ S2 D = none ∧ H2 D = some (.lst acc) ∧ RpA K S2 acc ((ds.take i).map f) ∧ acc.length ≤ i,
      ⟨_, rfl, Nat.zero_le _, S1, [], s1.go (Go.side g1.sub (Ex.new hD)), Ex.rf _, g1.sub.free hD, upd_same, .nil, Nat.le_refl _⟩, ?_⟩
    rintro i k H2 ⟨rfl, hile, S2, acc, s2, x2, nD, hD2, ra, hacc⟩
    by_cases hlt : i < ds.length
    · have hdi : ds[i]? = some ds[i] := List.getElem?_eq_getElem hlt
      have hmem : ds[i] ∈ ds := List.getElem_mem hlt
      refine .inr ⟨w1.go i H2 (x2.tr s2.g.sub) hlt, fun H' => ∃ S3 acc', Sm K S0 H0 B σ S3 H' ρ m ∧ Ex S1 S3 ∧ S3 D = none ∧ H' D = some (.lst acc') ∧ RpA K S3 acc' ((ds.take (i + 1)).map f) ∧ acc'.length ≤ i + 1,
        fun H' ⟨S3, acc', a, b, c, d, e, l⟩ => ⟨ds.length - (i + 1), by omega, rfl, hlt, S3, acc', a, b, c, d, e, l⟩, fun x H' y => ?_⟩
      obtain ⟨S3, g3, rx⟩ := w1.yld i H2 x H' y _ hdi S2 x2 s2.g.sub
      have s3 := s2.go g3
      refine hg _ hmem _ (wipe σ vs) S3 H' x g3.sub (s3.n.wipe vs) rx _ fun σ2 n2 l2 f2 => ⟨wipe_eq l2 f2 his, ?_⟩
      refine ht _ hmem _ σ2 S3 H' g3.sub n2 _ fun S4 H4 g4 => ?_
      have s4 := s3.go g4
      have hD4 : H4 D = some (.lst acc) := g4.h _ _ (g3.h _ _ hD2)
      have nD4 : S4 D = none := (g3.tr g4).off nD hD2
      rw [if_pos rfl]
      have sE : Sm K S4 (hidM m H4) S4 σ2 S4 H4 (ρ1 ds[i]) m := ⟨by rw [mix_hid]; exact Go.rf g4.sub, Ex.rf _, n2.any (hno1 _ hmem) g4.s, ⟨fun b y => ⟨hidM_in y, (s4.d.z b y).2.2.1, (s4.d.z b y).2.2.1, (s4.d.z b y).2.2.2⟩, s4.d.p⟩⟩
      refine he _ hmem _ _ _ σ2 S4 H4 sE _ fun y S5 H5 sF e5 r5 => ?_
      have bk := bk_of sF.g sF.d
      have s5 := s4.back bk
      have hD5 : H5 D = some (.lst acc) := sF.g.h _ _ (by rw [mix_out nd, hidM_out nd]; exact hD4)
      have nD5 : S5 D = none := sF.g.off nD4 (by rw [mix_out nd, hidM_out nd]; exact hD4)
      refine ⟨acc, hD5, Nat.lt_of_le_of_lt (Nat.le_trans hacc (Nat.le_of_lt hlt)) (Nat.lt_of_le_of_lt hlen (by decide)), S5, acc ++ [y], s5.put hno nD5 nd h0, ((x2.tr g3.s).tr g4.s).tr e5, nD5, upd_same, ?_, ?_⟩
      · rw [take_more hdi, List.map_append]
        exact (((ra.up g3.s).up g4.s).up e5).snoc r5
      · rw [List.length_append, List.length_singleton]
        omega
    · have e : i = ds.length := by omega
      subst e
      rw [List.take_length] at ra
      exact .inl ⟨w1.stop H2 (x2.tr s2.g.sub), q _ (upd S2 D (.lst acc)) H2 (s2.still hno nD nd h0 hD2) ((g1.s.tr x2).tr (Ex.new nD)) (.lst (.inl upd_same) (ra.up (Ex.new nD)))⟩
theorem evu_cb {f : List V → Hp → VK → Prop} {d r : DV} (h : EvU K te ρ m d m) (hf : CaD K f [d] r) : EvU K (tCB f (tCons te tNil)) ρ m r m := fun S0 H0 B σ S H s Q q =>
  h S0 H0 B σ S H s _ fun v S1 H1 s1 e1 r1 => hf S1 H1 [v] s1.g.sub (.cons r1 .nil) Q fun u S2 H2 g2 r2 => q u S2 H2 (s1.go g2) (e1.tr g2.s) r2
end
end PD

/-! By syntax: _law_row(lambda x: .., e), and lists of it. -/
namespace PD
open PySem PySem.Spec PyProof.Rows L2 LamX
def UEK (g : Gb) (l : Lc) (c : Addr) (q : Str) (e : Expr) : TE := fun σ H Q => ∃ t, (∀ X, OfC g l c q X → PE X e t) ∧ t σ H Q
def DEK (g : Gb) (l : Lc) (c : Addr) (q : Str) (e : Expr) (ρ : Rho) (m : Mo) (d : DV) (m' : Mo) : Prop := EvU g.K (UEK g l c q e) ρ m d m'
section
variable {g : Gb} {n : Nat} {l : Lc} {c : Addr} {q : Str} {ρ ρ' : Rho} {m m' : Mo} {e a b tg iter elt : Expr} {d da db : DV} {ds : List DV} {pos p : Pos} {scope : Scope} {own : List (Str × Nat)}
theorem UEK.pe {X : Cx} (o : OfC g l c q X) (e : Expr) : PE X e (UEK g l c q e) := ⟨fun pins s σ H Q I ⟨t, h, z⟩ => (h X o).run pins s σ H Q I z⟩
theorem DEK.by (t : TE) (h : ∀ X, OfC g l c q X → PE X e t) (v : EvU g.K t ρ m d m') : DEK g l c q e ρ m d m' := fun S0 H0 B σ S H s Q z => ⟨t, h, v S0 H0 B σ S H s Q z⟩
theorem DEK.is (h : DEK g l c q e ρ m da m') (z : da = db) : DEK g l c q e ρ m db m' := by rw [← z]; exact h
theorem dec_k (h : DEK g l c q e ρ m d m') : DEC g n l c q e ρ m d m' := .by _ (fun X o => .of (UEK.pe o e)) h
theorem dek_eqD (h : da.ok = true) (h' : db.ok = true) (ha : DEK g l c q a ρ m da m') (hb : DE g l b ρ db) : DEK g l c q (.Compare a [.Eq] [b] pos) ρ m (.bl (da.eqv db)) m' :=
  .by _ (fun X o => pe_cmpR (r := rEqD g.K) (by have := op_eqD (X := X) o.o.u64; rw [o.o.K] at this; exact this) (UEK.pe o a) (UE.pe o.o b) (nomark _)) (evu_op ha hb (od_eqD h h'))
theorem OfC.blk {X : Cx} (w : OfC g l c q X) (scope : Scope) (s : Shared) (H : Hp) (C : Addr) (cl : List (Str × Addr)) (fp : List Addr) : OfC g (inn l scope) c q (X.blk s H scope (compEnvC scope cl C X.env) fp) := ⟨w.o.blk scope s H C cl fp, w.code, w.qual⟩
theorem dek_lc {is : List Nat} (nd : l.N.Nodup) (ok : blkC l.N l.sc scope own = true) (hi : DI g l tg iter ρ ds) (hlen : ds.length ≤ 100000) (his : ∀ j ∈ is, j ∈ own.map (·.2)) (hno : noOwn ρ = true) (ρ1 : DV → Rho) (hno1 : ∀ d ∈ ds, noOwn (ρ1 d) = true) (f : DV → DV)
    (hg : ∀ d ∈ ds, DG g (inn l scope) tg is d (wipeR ρ (own.map (·.2))) (ρ1 d)) (he : ∀ d ∈ ds, DEK g (inn l scope) c q elt (ρ1 d) m (f d) m) (hs : ∀ env x, foldedSetIterable iter env x = pure x := by intro _ _; rfl) (hcl : l.cb = true := by rfl) :
    DEK g l c q (.ListComp elt [⟨tg, iter, [], 0⟩] scope pos) ρ m (.lst (ds.map f)) m :=
  .by (tLc (UI g l tg iter) (UG g (inn l scope) tg) (UTs g (inn l scope) []) (UEK g (inn l scope) c q elt) (own.map (·.2)))
    (fun X w => pe_lc (own := own) (w.o.calm hcl) (by rw [w.o.N]; exact nd) (UI.pi w.o tg iter) (blkOk_by (by rw [w.o.N, w.o.sc]; exact ok)) (fun s H C cl fp => UG.pg (w.o.blk scope s H C cl fp) tg) (fun s H C cl fp => UTs.pts (w.o.blk scope s H C cl fp) []) (fun s H C cl fp => UEK.pe (w.blk scope s H C cl fp) elt) (hs _))
    (evu_lcM hi hlen his hno ρ1 hno1 f (fun d hd => (hg d hd).tg) (fun d hd => dts_nil) he)
theorem dek_all {bs : List Bool} (hm : g.mg "all" = none) (h : DEK g l c q e ρ m (.lst (bs.map DV.bl)) m) (hg : GlN l "all" := by rfl) (hs : ∀ env, starEach [e] env = [(false, eval e env)] := by intro _; rfl) (hcl : l.cb = true := by rfl) : DEK g l c q (.Call (.Name "all" p) [e] [] pos) ρ m (.bl (bs.all id)) m :=
  .by _ (fun X w => pe_callB (by have := cr_all (X := X) (w.o.calm hcl); rw [w.o.K] at this; exact this) (w.o.gl hg) (by rw [w.o.mg]; exact hm) (by decide +kernel) (pa_cons (UEK.pe w e) pa_nil (by rw [hs]; rfl)) (by decide) (by decide) (by rw [hs]; rfl) (by rfl)) (evu_cb h cd_all)
end
end PD
namespace SP
open PySem PySem.Spec PyProof.Rows L2 PD LamX
abbrev lamL1 (l : Lc) (k : Nat) (scope : Scope) (it : Str) : Lc := ⟨k, l.N ++ [it], scope, fun _ => false, true, none⟩
theorem ofz_lam1 {g : Gb} {l : Lc} {X : Cx} {k : Nat} {A : Around} {outer : List Env} {s : Shared} {H : Hp} {E : XK} {scope : Scope} {f c' : Addr} {it : Str} (o : Of g l X) (hr : Room k (A.deeper (lamEnv X scope s.heap.objs.size f c'))) : OfZ g (lamL1 l k scope it) (lamCx1 X A outer s H E scope f c' it) (fun cls d _ H => E cls d H) :=
  ⟨⟨o.prog, o.w, o.K, o.mg, o.base, by show X.N ++ [it] = l.N ++ [it]; rw [o.N], rfl, (fun _ h => by cases h), fun _ => rfl, fun _ => hr, hr.un, fun _ => passes_of rfl, fun _ _ _ h => by cases h⟩, takes_of rfl rfl rfl rfl, rfl, rfl⟩
theorem evu_lam1 {g : Gb} {CT : Addr} {T : List (Addr × Str)} {P : Addr} {q : Str} {te : TE} {tz : WX → TE} {ρ : Rho} {o : Out} {d2 : DV} (hm : (P, q) ∈ T) (hu : ∀ p ∈ T, p.1 = P → p.2 = q) (hn : noOwn ρ = true) (h2 : EvD g.K te ρ d2) (h : EvX g.K tz (ρ ++ [.val d2]) o) (hR : okRow CT o) :
    EvU g.K (tLam1 P q T (TTw g CT) te (fun E => tz (fun cls d _ H => E cls d H))) ρ (tabM T) (rowD o) (tabM T) := fun S0 H0 B σ S H s Q z => ⟨TabsS.tabs s.d.p s.g.sub, fun H1 t c' hc' => by
  obtain ⟨S1, e1, s1⟩ := tab_step s t hm hu
  refine h2 _ σ S1 H1 s1.g.sub s1.n _ fun v S2 H2 g2 r2 => ⟨g2.h _ _ hc', ?_⟩
  have s2 := s1.go g2
  refine ⟨S2, o, s2.g.sub, fun E' Q' k1 k2 => ?_, hR, fun u S' H' g1 r1 => z u S' H' (s2.go g1) (e1.tr (g2.s.tr g1.s)) r1⟩
  exact h _ (σ ++ [some v]) S2 H2 _ s2.g.sub (s2.n.snoc hn r2) Q' k1 fun C gs cls d S' H' eo g1 x => k2 C gs cls d S' H' eo g1 x⟩
structure Rwf (g : Gb) (CT : Addr) : Prop where
  xt : Xt g CT
  ex : ∃ gd fdg, Fun g.K "_law_row" "_law_row" s__law_row gd fdg ∧ g.mg "_law_row" = some (.ref gd) ∧ L2.Binds g.K fdg ["_law_function", "_law_things"] []
theorem dek_lam {g : Gb} {l : Lc} {c P : Addr} {q : Str} {T : List (Addr × Str)} {CT : Addr} {k : Nat} {params : Arguments} {body e2 : Expr} {scope : Scope} {p lpos pos : Pos} {ρ : Rho} {o : Out} {d2 : DV} {it : Str} (R : Rwf g CT) (TB : TabB g.base g.mg c P) (hm : (P, q) ∈ T) (hu : ∀ p ∈ T, p.1 = P → p.2 = q)
    (hn : noOwn ρ = true) (h2 : DE g l e2 ρ d2) (h : EvX g.K (UEZ g (lamL1 l k scope it) body) (ρ ++ [.val d2]) o) (hR : okRow CT o) (hk : k + 2 ≤ l.k := by decide) (Ls : lamS1B l.sc scope it = true := by decide +kernel) (hno : it ∉ l.N := by decide +kernel) (hg : GlN l "_law_row" := by rfl) (hdef : ∀ env, defaultsOf params env = ([], []) := by intro _; rfl)
    (hbind : ∀ (q : Str) (cl : List (Str × Addr)) (pm cv ctv u : Value), bindArgs (PySem.W.kla_fn "<lambda>" q params body scope cl pm cv ctv) ⟨[u], []⟩ = pure [(it, u)] := by intro _ _ _ _ _ _; rfl)
    (hst : ∀ env, starEach [.Lambda params body scope lpos, e2] env = (false, eval (.Lambda params body scope lpos) env) :: starEach [e2] env := by intro _; rfl) (hst2 : ∀ env, starEach [e2] env = [(false, eval e2 env)] := by intro _; rfl) (hpl : ∀ env, (backTo pos (starEach [e2] env)).any (·.1) = false := by intro _; rfl) (hcl : l.cb = true := by rfl) :
    DEK g l c q (.Call (.Name "_law_row" p) [.Lambda params body scope lpos, e2] [] pos) ρ (tabM T) (rowD o) (tabM T) := by
  obtain ⟨gd, fdg, F, hmg, hb⟩ := R.ex
  exact .by (tLam1 P q T (TTw g CT) (UE g l e2) (fun E => UEZ g (lamL1 l k scope it) body (fun cls d _ H => E cls d H))) (fun X w => pe_lam1 (gd := gd) (k := k) (by rw [w.o.K]; exact F) scLRow rfl rfl (w.o.gl hg) (by rw [w.o.mg]; exact hmg) (by rw [w.o.K]; exact hb) (gives_row w.o R.xt) w.qual (by rw [w.o.base, w.o.mg]; exact TB) w.code hm ((w.o.room hcl).mono hk) (lamS1_by (by rw [w.o.sc]; exact Ls)) (by rw [w.o.N]; exact hno) (hdef _) hbind (UE.pe w.o e2)
    (fun A outer s H E f c' hr => UEZ.pe (ofz_lam1 w.o hr) body) (hst _) (hst2 _) (hpl _)) (evu_lam1 hm hu hn h2 h hR)
end SP

/-! Lines that cannot be read: what read_file says, by plain functions. -/
namespace SP
open PySem PySem.Spec PyProof.Rows L2 PD
def badsF (n at_ : Nat) (w : Str) : List Str :=
  [(" " : Str) ++ w, w ++ (" " : Str), "", "end", Txt.upper w, w ++ (" x" : Str), Txt.replace w (" " : Str) ("  " : Str), (Txt.split w (" " : Str)).getD 0 "", "letters ba", "piece "] ++
  ((if at_ = n + 1 then [("order " : Str) ++ strI (n : Int), "order 0 0 0 0"] else ["piece aba", "piece d", "piece a b"] : List Str) ++ (if n < at_ then ["piece_price 6", "order_price 0", "torn maybe", "order 00"] else ["piece_price 1"] : List Str))
def rejF (n at_ : Nat) (b : Str) : Bool :=
  if at_ = 0 then (lettersT.lookup b).isNone
  else if at_ = 1 then ((piecesT "ab").lookup b).isNone
  else if at_ ≤ n then ((piecesT "ab").lookup b).isNone && ((ordersT (at_ - 1)).lookup b).isNone
  else if at_ = n + 1 then (decide (n = 4) || ((piecesT "ab").lookup b).isNone) && ((ordersT n).lookup b).isNone
  else if at_ = n + 2 then ((pricesT "piece_price").lookup b).isNone
  else if at_ = n + 3 then ((pricesT "order_price").lookup b).isNone
  else (tornT.lookup b).isNone
def candF (n at_ : Nat) : List Str :=
  if at_ = 0 then [lettersL "ab"]
  else if at_ ≤ n then (piecesOf "ab").map pieceL
  else if at_ = n + 1 then (ordersOf n).map orderL
  else if at_ = n + 2 then pricesI.map (priceL "piece_price")
  else if at_ = n + 3 then pricesI.map (priceL "order_price")
  else [tornL false, tornL true]
def allBad (n at_ : Nat) : Bool := (candF n at_).all fun w => (badsF n at_ w).all (rejF n at_)
theorem bad1_0 : allBad 1 0 = true := by decide +kernel
theorem bad1_1 : allBad 1 1 = true := by decide +kernel
theorem bad1_2 : allBad 1 2 = true := by decide +kernel
theorem bad1_3 : allBad 1 3 = true := by decide +kernel
theorem bad1_4 : allBad 1 4 = true := by decide +kernel
theorem bad1_5 : allBad 1 5 = true := by decide +kernel
theorem bad1 : ∀ at_ ≤ 5, allBad 1 at_ = true := fun at_ h => by
  match at_, h with
  | 0, _ => exact bad1_0
  | 1, _ => exact bad1_1
  | 2, _ => exact bad1_2
  | 3, _ => exact bad1_3
  | 4, _ => exact bad1_4
  | 5, _ => exact bad1_5
  | k + 6, h => exact absurd h (by omega)
theorem bad2_0 : allBad 2 0 = true := by decide +kernel
theorem bad2_1 : allBad 2 1 = true := by decide +kernel
theorem bad2_2 : allBad 2 2 = true := by decide +kernel
theorem bad2_3 : allBad 2 3 = true := by decide +kernel
theorem bad2_4 : allBad 2 4 = true := by decide +kernel
theorem bad2_5 : allBad 2 5 = true := by decide +kernel
theorem bad2_6 : allBad 2 6 = true := by decide +kernel
theorem bad2 : ∀ at_ ≤ 6, allBad 2 at_ = true := fun at_ h => by
  match at_, h with
  | 0, _ => exact bad2_0
  | 1, _ => exact bad2_1
  | 2, _ => exact bad2_2
  | 3, _ => exact bad2_3
  | 4, _ => exact bad2_4
  | 5, _ => exact bad2_5
  | 6, _ => exact bad2_6
  | k + 7, h => exact absurd h (by omega)
theorem bad3_0 : allBad 3 0 = true := by decide +kernel
theorem bad3_1 : allBad 3 1 = true := by decide +kernel
theorem bad3_2 : allBad 3 2 = true := by decide +kernel
theorem bad3_3 : allBad 3 3 = true := by decide +kernel
theorem bad3_4 : allBad 3 4 = true := by decide +kernel
theorem bad3_5 : allBad 3 5 = true := by decide +kernel
theorem bad3_6 : allBad 3 6 = true := by decide +kernel
theorem bad3_7 : allBad 3 7 = true := by decide +kernel
theorem bad3 : ∀ at_ ≤ 7, allBad 3 at_ = true := fun at_ h => by
  match at_, h with
  | 0, _ => exact bad3_0
  | 1, _ => exact bad3_1
  | 2, _ => exact bad3_2
  | 3, _ => exact bad3_3
  | 4, _ => exact bad3_4
  | 5, _ => exact bad3_5
  | 6, _ => exact bad3_6
  | 7, _ => exact bad3_7
  | k + 8, h => exact absurd h (by omega)
theorem bad4_0 : allBad 4 0 = true := by decide +kernel
theorem bad4_1 : allBad 4 1 = true := by decide +kernel
theorem bad4_2 : allBad 4 2 = true := by decide +kernel
theorem bad4_3 : allBad 4 3 = true := by decide +kernel
theorem bad4_4 : allBad 4 4 = true := by decide +kernel
theorem bad4_5 : allBad 4 5 = true := by decide +kernel
theorem bad4_6 : allBad 4 6 = true := by decide +kernel
theorem bad4_7 : allBad 4 7 = true := by decide +kernel
theorem bad4_8 : allBad 4 8 = true := by decide +kernel
theorem bad4 : ∀ at_ ≤ 8, allBad 4 at_ = true := fun at_ h => by
  match at_, h with
  | 0, _ => exact bad4_0
  | 1, _ => exact bad4_1
  | 2, _ => exact bad4_2
  | 3, _ => exact bad4_3
  | 4, _ => exact bad4_4
  | 5, _ => exact bad4_5
  | 6, _ => exact bad4_6
  | 7, _ => exact bad4_7
  | 8, _ => exact bad4_8
  | k + 9, h => exact absurd h (by omega)
end SP

/-! The lines of a text; read_file over good lines and one that is bad. -/
namespace SP
open PySem PySem.Spec PyProof.Rows L2 PD
variable {g : Gb} {C CT : Addr}
/-! ### texts as lines -/
def txtOf (ws : List Str) (rest : Str) : Str := catS (ws.map lineN) ++ rest
theorem txt_join (rest : Str) : ∀ ws : List Str, txtOf ws rest = Str.join ("\n" : Str) (ws ++ [rest])
  | [] => nil_app rest
  | [w] => by
    show catS [lineN w] ++ rest = w ++ ("\n" : Str) ++ rest
    rw [catS_cons, lineN_eq]
    show (w ++ ("\n" : Str) ++ (⟨#[]⟩ : Str)) ++ rest = _
    rw [app_nil]
  | w :: x :: ws => by
    have ih := txt_join rest (x :: ws)
    show catS (lineN w :: (x :: ws).map lineN) ++ rest = w ++ ("\n" : Str) ++ Str.join ("\n" : Str) ((x :: ws) ++ [rest])
    rw [catS_cons, lineN_eq, app_assoc, ← ih]
    rfl
def noNl (x : Str) : Bool := !(TL.tl x).contains 10
theorem txt_split {ws : List Str} {rest : Str} (h : ∀ w ∈ ws, noNl w = true) (hr : noNl rest = true) : Txt.split (txtOf ws rest) ("\n" : Str) = ws ++ [rest] := by
  rw [txt_join, ← eq_of_beq (PyProof.Rows.join_plain_closes ("\n" : Str) (ws ++ [rest]))]
  refine TL.split_join (y := ("\n" : Str)) (s := 10) (S := []) (by decide +kernel) (by decide +kernel) (parts := ws ++ [rest]) (by simp) fun p hp => ?_
  have n : noNl p = true := by
    rcases List.mem_append.mp hp with hp | hp
    · exact h p hp
    · rw [List.mem_singleton.mp hp]; exact hr
  unfold noNl at n
  intro z
  rw [List.contains_iff_mem.mpr z] at n
  cases n
theorem txt_len (ws : List Str) (rest : Str) : (txtOf ws rest).length = (ws.map (·.length)).sum + ws.length + rest.length := by
  unfold txtOf
  rw [len_app, catS_len, List.map_map]
  have : (ws.map ((·.length) ∘ lineN)).sum = (ws.map (·.length)).sum + ws.length := by
    induction ws with
    | nil => rfl
    | cons w ws ih =>
      rw [List.map_cons, List.sum_cons, List.map_cons, List.sum_cons, ih, List.length_cons]
      show (lineN w).length + _ = _
      rw [lineN_len]
      omega
  rw [this]
theorem readO_txt {ws : List Str} {rest : Str} (h : ∀ w ∈ ws, noNl w = true ∧ w.length ≤ 100) (hr : noNl rest = true ∧ rest.length ≤ 100) (hl : ws.length ≤ 80) : readO C CT (.str (txtOf ws rest)) (readF C CT ws rest) := by
  refine .inr ⟨_, ws, rest, rfl, ?_, hl, txt_split (fun w hw => (h w hw).1) hr.1, rfl⟩
  rw [txt_len]
  have : (ws.map (·.length)).sum ≤ (ws.map (·.length)).length * 100 := sum_le fun x hx => by
    rw [List.mem_map] at hx
    obtain ⟨w, hw, rfl⟩ := hx
    exact (h w hw).2
  rw [List.length_map] at this
  have := hr.2
  omega
/-! ### tables -/
theorem lk_letters : lettersT.lookup (lettersL "ab") = some ("ab" : Str) := by decide +kernel
theorem lk_piece : ∀ p ∈ piecesOf "ab", (piecesT "ab").lookup (pieceL p) = some p := by decide +kernel
theorem lk_order {n : Nat} (h : n ≤ 4) : ∀ o ∈ ordersOf n, (ordersT n).lookup (orderL o) = some o ∧ (piecesT "ab").lookup (orderL o) = none := by
  have : ∀ n ≤ 4, ∀ o ∈ ordersOf n, (ordersT n).lookup (orderL o) = some o ∧ (piecesT "ab").lookup (orderL o) = none := by decide +kernel
  exact this n h
theorem lk_pp {p : Int} (h : 1 ≤ p ∧ p ≤ 5) : (pricesT "piece_price").lookup (priceL "piece_price" p) = some p := by
  have : p = 1 ∨ p = 2 ∨ p = 3 ∨ p = 4 ∨ p = 5 := by omega
  rcases this with rfl | rfl | rfl | rfl | rfl <;> decide +kernel
theorem lk_op {p : Int} (h : 1 ≤ p ∧ p ≤ 5) : (pricesT "order_price").lookup (priceL "order_price" p) = some p := by
  have : p = 1 ∨ p = 2 ∨ p = 3 ∨ p = 4 ∨ p = 5 := by omega
  rcases this with rfl | rfl | rfl | rfl | rfl <;> decide +kernel
theorem lk_torn (b : Bool) : tornT.lookup (tornL b) = some b := by cases b <;> decide +kernel
theorem tk_some {α : Type} {T : List (Str × α)} {L : List Str} {r : Nat} {x : Str} (h : L[r]? = some x) : tk T L r = T.lookup x := by
  unfold tk
  rw [h]
theorem tk_none {α : Type} {T : List (Str × α)} {L : List Str} {r : Nat} (h : ∀ x, L[r]? = some x → (T.lookup x).isNone = true) : tk T L r = none := by
  unfold tk
  cases e : L[r]? with
  | none => rfl
  | some x => exact Option.isNone_iff_eq_none.mp (h x e)
/-! ### the lines of a file, one by one -/
section
variable {ls : Str} {ps : List Str} {od : List Nat} {pp op : Int} {tn : Bool}
theorem ln0 : (linesOf ls ps od pp op tn)[0]? = some (lettersL ls) := rfl
theorem lines_cons : linesOf ls ps od pp op tn = lettersL ls :: (ps.map pieceL ++ [orderL od, priceL "piece_price" pp, priceL "order_price" op, tornL tn]) := by
  unfold linesOf
  simp only [List.append_assoc, List.cons_append, List.nil_append]
theorem lnP {i : Nat} {p : Str} (h : ps[i]? = some p) : (linesOf ls ps od pp op tn)[1 + i]? = some (pieceL p) := by
  rw [lines_cons, Nat.add_comm, List.getElem?_cons_succ, List.getElem?_append_left (by rw [List.length_map]; exact (List.getElem?_eq_some_iff.mp h).1), List.getElem?_map, h]
  rfl
theorem lnT (j : Nat) : (linesOf ls ps od pp op tn)[ps.length + 1 + j]? = [orderL od, priceL "piece_price" pp, priceL "order_price" op, tornL tn][j]? := by
  rw [lines_cons, show ps.length + 1 + j = (ps.length + j) + 1 by omega, List.getElem?_cons_succ, List.getElem?_append_right (by rw [List.length_map]; omega), List.length_map, show ps.length + j - ps.length = j by omega]
end
/-- the pieces that are read, up to m -/
theorem moreP_run {L ps : List Str} {m : Nat} (hm : m ≤ ps.length) (good : ∀ i p, i < m → ps[i]? = some p → tk (piecesT "ab") L (1 + i) = some p) (stop : m < 4 → tk (piecesT "ab") L (1 + m) = none) (h4 : m ≤ 4) :
    ∀ k j, j + k = 4 → j ≤ m → moreP "ab" L (1 + j) k = (ps.take m).drop j
  | 0, j, hk, hj => by
    have : j = m := by omega
    subst this
    rw [List.drop_of_length_le (by rw [List.length_take]; omega)]
    rfl
  | k + 1, j, hk, hj => by
    unfold moreP
    by_cases e : j = m
    · subst e
      rw [stop (by omega), List.drop_of_length_le (by rw [List.length_take]; omega)]
    · have lt : j < m := by omega
      have hp : ps[j]? = some ps[j] := List.getElem?_eq_getElem (by omega)
      rw [good j _ lt hp]
      dsimp only
      rw [show 1 + j + 1 = 1 + (j + 1) by omega, moreP_run hm good stop h4 k (j + 1) (by omega) (by omega)]
      have : (ps.take m).drop j = ps[j] :: (ps.take m).drop (j + 1) := by
        rw [List.drop_eq_getElem_cons (by rw [List.length_take]; omega)]
        congr 1
        exact List.getElem_take ..
      exact this.symm
/-! ### read_file over good lines, and a bad one -/
section
variable {ps : List Str} {od : List Nat} {pp op : Int} {tn : Bool} {L : List Str} {rest : Str}
theorem rej_none {n at_ : Nat} {x : Str} (h : rejF n at_ x = true) : (at_ = 0 → (lettersT.lookup x).isNone = true) ∧ (at_ = 1 → ((piecesT "ab").lookup x).isNone = true) ∧
    (2 ≤ at_ → at_ ≤ n → ((piecesT "ab").lookup x).isNone = true ∧ ((ordersT (at_ - 1)).lookup x).isNone = true) ∧
    (at_ = n + 1 → 1 ≤ n → (n < 4 → ((piecesT "ab").lookup x).isNone = true) ∧ ((ordersT n).lookup x).isNone = true) ∧ (at_ = n + 2 → ((pricesT "piece_price").lookup x).isNone = true) ∧
    (at_ = n + 3 → ((pricesT "order_price").lookup x).isNone = true) ∧ (at_ = n + 4 → (tornT.lookup x).isNone = true) := by
  unfold rejF at h
  refine ⟨fun e => ?_, fun e => ?_, fun e1 e2 => ?_, fun e e1 => ?_, fun e => ?_, fun e => ?_, fun e => ?_⟩
  · rw [if_pos e] at h; exact h
  · rw [if_neg (by omega), if_pos e] at h; exact h
  · rw [if_neg (by omega), if_neg (by omega), if_pos e2, Bool.and_eq_true] at h; exact h
  · rw [if_neg (by omega), if_neg (by omega), if_neg (by omega), if_pos e, Bool.and_eq_true, Bool.or_eq_true] at h
    exact ⟨fun lt => h.1.resolve_left (by rw [decide_eq_false (by omega)]; decide), h.2⟩
  · rw [if_neg (by omega), if_neg (by omega), if_neg (by omega), if_neg (by omega), if_pos e] at h; exact h
  · rw [if_neg (by omega), if_neg (by omega), if_neg (by omega), if_neg (by omega), if_neg (by omega), if_pos e] at h; exact h
  · rw [if_neg (by omega), if_neg (by omega), if_neg (by omega), if_neg (by omega), if_neg (by omega), if_neg (by omega)] at h; exact h
theorem head_drop {α : Type} {l : List α} (h : 0 < l.length) : l[0] :: l.drop 1 = l := by
  cases l with
  | nil => cases h
  | cons a l => rfl
theorem head_take {α : Type} {l : List α} {m : Nat} (h : 0 < l.length) (hm : 0 < m) : l[0] :: (l.take m).drop 1 = l.take m := by
  cases l with
  | nil => cases h
  | cons a l =>
    cases m with
    | zero => cases hm
    | succ m => rfl
/-- read_file where at position at_ there is a line that may not stand there -/
theorem readF_bad (vs : VS "ab" ps od) (h1 : 1 ≤ pp ∧ pp ≤ 5) (h2 : 1 ≤ op ∧ op ≤ 5) {at_ : Nat} (ha : at_ ≤ ps.length + 4) (good : ∀ i, i < at_ → L[i]? = (linesOf "ab" ps od pp op tn)[i]?) (bad : ∀ x, L[at_]? = some x → rejF ps.length at_ x = true) : readF C CT L rest = badRow CT at_ := by
  have n1 := vs.hps1
  have n4 := vs.hps
  have hod : od ∈ ordersOf ps.length := order_mem vs.hod vs.hb
  have hp : ∀ i p, ps[i]? = some p → p ∈ piecesOf "ab" := fun i p h => word_mem vs.hls (vs.hp p (List.mem_of_getElem? h))
  have g0 : 0 < at_ → tk lettersT L 0 = some ("ab" : Str) := fun h => by rw [tk_some ((good 0 h).trans ln0), lk_letters]
  have gp : ∀ i p, 1 + i < at_ → ps[i]? = some p → tk (piecesT "ab") L (1 + i) = some p := fun i p h e => by rw [tk_some ((good (1 + i) h).trans (lnP e)), lk_piece p (hp i p e)]
  unfold readF
  by_cases c0 : at_ = 0
  · subst c0
    rw [tk_none fun x hx => (rej_none (bad x hx)).1 rfl]
  · rw [g0 (by omega)]
    dsimp only
    by_cases c1 : at_ = 1
    · subst c1
      rw [tk_none fun x hx => (rej_none (bad x hx)).2.1 rfl]
    · have e0 : ps[0]? = some ps[0] := List.getElem?_eq_getElem (by omega)
      rw [show tk (piecesT "ab") L 1 = some ps[0] from gp 0 _ (by omega) e0]
      dsimp only
      -- the pieces
      by_cases c2 : at_ ≤ ps.length
      · have run := moreP_run (L := L) (ps := ps) (m := at_ - 1) (by omega) (fun i p hi e => gp i p (by omega) e) (fun _ => by
          rw [show 1 + (at_ - 1) = at_ by omega]
          exact tk_none fun x hx => ((rej_none (bad x hx)).2.2.1 (by omega) c2).1) (by omega) 3 1 rfl (by omega)
        have pe : ps[0] :: moreP "ab" L 2 3 = ps.take (at_ - 1) := by
          rw [show (2 : Nat) = 1 + 1 from rfl, run]
          exact head_take (by omega) (by omega)
        rw [pe, List.length_take, Nat.min_eq_left (by omega), show 1 + (at_ - 1) = at_ by omega]
        rw [tk_none fun x hx => ((rej_none (bad x hx)).2.2.1 (by omega) c2).2]
      · have stop : ps.length < 4 → tk (piecesT "ab") L (1 + ps.length) = none := fun lt => by
          by_cases c3 : at_ = ps.length + 1
          · rw [show 1 + ps.length = at_ by omega]
            exact tk_none fun x hx => ((rej_none (bad x hx)).2.2.2.1 c3 n1).1 lt
          · rw [tk_some ((good (1 + ps.length) (by omega)).trans (by rw [show 1 + ps.length = ps.length + 1 + 0 by omega]; exact lnT 0))]
            exact (lk_order n4 od hod).2
        have run := moreP_run (L := L) (ps := ps) (m := ps.length) (Nat.le_refl _) (fun i p hi e => gp i p (by omega) e) stop n4 3 1 rfl n1
        have pe : ps[0] :: moreP "ab" L 2 3 = ps := by
          rw [show (2 : Nat) = 1 + 1 from rfl, run, List.take_length]
          exact head_drop (by omega)
        rw [pe]
        have ro : ∀ j, ps.length + 1 + j < at_ → L[ps.length + 1 + j]? = [orderL od, priceL "piece_price" pp, priceL "order_price" op, tornL tn][j]? := fun j h => (good _ h).trans (lnT j)
        by_cases c3 : at_ = ps.length + 1
        · rw [show 1 + ps.length = at_ by omega, tk_none fun x hx => ((rej_none (bad x hx)).2.2.2.1 c3 n1).2]
        · rw [show 1 + ps.length = ps.length + 1 + 0 by omega, tk_some (ro 0 (by omega)), (lk_order n4 od hod).1]
          dsimp only
          by_cases c4 : at_ = ps.length + 2
          · rw [show 2 + ps.length = at_ by omega, tk_none fun x hx => (rej_none (bad x hx)).2.2.2.2.1 c4]
          · rw [show 2 + ps.length = ps.length + 1 + 1 by omega, tk_some (ro 1 (by omega)), lk_pp h1]
            dsimp only
            by_cases c5 : at_ = ps.length + 3
            · rw [show 3 + ps.length = at_ by omega, tk_none fun x hx => (rej_none (bad x hx)).2.2.2.2.2.1 c5]
            · rw [show 3 + ps.length = ps.length + 1 + 2 by omega, tk_some (ro 2 (by omega)), lk_op h2]
              dsimp only
              have c6 : at_ = ps.length + 4 := by omega
              rw [show 4 + ps.length = at_ by omega, tk_none fun x hx => (rej_none (bad x hx)).2.2.2.2.2.2 c6]
/-- all lines good: what is behind them counts -/
theorem readF_all (vs : VS "ab" ps od) (h1 : 1 ≤ pp ∧ pp ≤ 5) (h2 : 1 ≤ op ∧ op ≤ 5) (good : ∀ i, i < ps.length + 5 → L[i]? = (linesOf "ab" ps od pp op tn)[i]?) : readF C CT L rest = if endBad L rest (5 + ps.length) then badRow CT (5 + ps.length) else .val (fileD C "ab" ps od pp op tn) := by
  have n1 := vs.hps1
  have n4 := vs.hps
  have hod : od ∈ ordersOf ps.length := order_mem vs.hod vs.hb
  have hp : ∀ i p, ps[i]? = some p → p ∈ piecesOf "ab" := fun i p h => word_mem vs.hls (vs.hp p (List.mem_of_getElem? h))
  have gp : ∀ i p, 1 + i < ps.length + 5 → ps[i]? = some p → tk (piecesT "ab") L (1 + i) = some p := fun i p h e => by rw [tk_some ((good (1 + i) h).trans (lnP e)), lk_piece p (hp i p e)]
  unfold readF
  rw [tk_some ((good 0 (by omega)).trans ln0), lk_letters]
  dsimp only
  have e0 : ps[0]? = some ps[0] := List.getElem?_eq_getElem (by omega)
  rw [show tk (piecesT "ab") L 1 = some ps[0] from gp 0 _ (by omega) e0]
  dsimp only
  have ro : ∀ j, ps.length + 1 + j < ps.length + 5 → L[ps.length + 1 + j]? = [orderL od, priceL "piece_price" pp, priceL "order_price" op, tornL tn][j]? := fun j h => (good _ h).trans (lnT j)
  have stop : ps.length < 4 → tk (piecesT "ab") L (1 + ps.length) = none := fun lt => by
    rw [show 1 + ps.length = ps.length + 1 + 0 by omega, tk_some (ro 0 (by omega))]
    exact (lk_order n4 od hod).2
  have run := moreP_run (L := L) (ps := ps) (m := ps.length) (Nat.le_refl _) (fun i p hi e => gp i p (by omega) e) stop n4 3 1 rfl n1
  have pe : ps[0] :: moreP "ab" L 2 3 = ps := by
    rw [show (2 : Nat) = 1 + 1 from rfl, run, List.take_length]
    exact head_drop (by omega)
  rw [pe, show 1 + ps.length = ps.length + 1 + 0 by omega, tk_some (ro 0 (by omega)), (lk_order n4 od hod).1]
  dsimp only
  rw [show 2 + ps.length = ps.length + 1 + 1 by omega, tk_some (ro 1 (by omega)), lk_pp h1]
  dsimp only
  rw [show 3 + ps.length = ps.length + 1 + 2 by omega, tk_some (ro 2 (by omega)), lk_op h2]
  dsimp only
  rw [show 4 + ps.length = ps.length + 1 + 3 by omega, tk_some (ro 3 (by omega)), lk_torn]
end
end SP

/-! Bounded readings: operators, displays; _law_row of read_file, by lines. -/
namespace PD
open PySem PySem.Spec PyProof.Rows L2
section
variable {X : Cx} {n : Nat} {a b : Expr} {es : List Expr} {ta tb : TE} {t : TA} {pos : Pos}
theorem pn_op {op : Operator} {r : R2} (ho : OpR X (binaryOp op) r) (ha : PN X n a ta) (hb : PN X n b tb) : PN X n (.BinOp a op b pos) (tOp r ta tb) := ⟨fun pins s σ H Q ht I h =>
  wpAny_BinOp (thnN ht (ha.run pins s σ H _ ht I h) fun v s1 ht1 ⟨x, H1, I1, r1, q1⟩ => thn (hb.run pins s1 σ H1 _ ht1 I1 q1) fun u s2 ⟨y, H2, I2, r2, q2⟩ => ho pins s2 σ H2 x y v u Q I2 r1 r2 q2)⟩
theorem pn_lst (h : PAN X n es t) : PN X n (.List es pos) (tLst t) := by
  refine ⟨fun pins s σ H Q ht I hq => ?_⟩
  refine wpAny_List_spliced (thn (h.run pos pins s σ H _ ht I hq) fun us s1 ⟨xs, H1, I1, r, z, q⟩ => ⟨by rw [← r.length]; exact z, ?_⟩)
  have hf : H1 s1.heap.objs.size = none := I1.hok.fresh (Nat.le_refl _)
  refine ⟨.ref s1.heap.objs.size, upd H1 s1.heap.objs.size (.lst xs), I1.laid (t' := s1.toks) (fun b u e => Heap.get?_push_of_some _ e) (Nat.le_refl _) ?_, rfl, q _ hf⟩
  exact ⟨z, us, 0, r, Heap.get?_push_size _ rfl⟩
theorem pn_tup {x1} (h : PAN X n es t) : PN X n (.Tuple es x1 pos) (tTup t) := by
  refine ⟨fun pins s σ H Q ht I hq => ?_⟩
  refine wpAny_Tuple_spliced (thn (h.run pos pins s σ H _ ht I hq) fun us s1 ⟨xs, H1, I1, r, z, q⟩ => ⟨by rw [← r.length]; exact z, ?_⟩)
  have hf : H1 s1.heap.objs.size = none := I1.hok.fresh (Nat.le_refl _)
  refine ⟨.ref s1.heap.objs.size, upd H1 s1.heap.objs.size (.tup xs), I1.laid (t' := s1.toks) (fun b u e => Heap.get?_push_of_some _ e) (Nat.le_refl _) ?_, rfl, q _ hf⟩
  exact ⟨z, us, r, ⟨_, Heap.get?_push_size _ rfl, rfl, _, rfl⟩⟩
end
section
variable {g : Gb} {n : Nat} {l : Lc} {ρ : Rho} {a b : Expr} {es : List Expr} {ds i j : List DV} {d : DV} {pos : Pos}
theorem DEN.is {d' : DV} (h : DEN g n l a ρ d) (q : d = d') : DEN g n l a ρ d' := by rw [← q]; exact h
theorem den_addS {x y : Str} (h : x.length + y.length ≤ 100000) (ha : DEN g n l a ρ (.str x)) (hb : DEN g n l b ρ (.str y)) : DEN g n l (.BinOp a .Add b pos) ρ (.str (x ++ y)) := .by _ (fun X o => pn_op op_add_str (UEN.pn o a) (UEN.pn o b)) (ev_op ha hb (od_addS h))
theorem den_catL (h : i.length + j.length ≤ 100000) (ha : DEN g n l a ρ (.lst i)) (hb : DEN g n l b ρ (.lst j)) : DEN g n l (.BinOp a .Add b pos) ρ (.lst (i ++ j)) := .by _ (fun X o => pn_op op_catR (UEN.pn o a) (UEN.pn o b)) (ev_op ha hb (od_catL h))
theorem den_lst (h : DAN g n l es ρ ds) (hl : ds.length ≤ 100000 := by (first | decide | (simp; done) | omega)) : DEN g n l (.List es pos) ρ (.lst ds) := .by _ (fun X o => pn_lst (UAN.pan o es)) (el_lst h hl).ev
theorem den_tup {x1} (h : DAN g n l es ρ ds) (hl : ds.length ≤ 100000 := by (first | decide | (simp; done) | omega)) : DEN g n l (.Tuple es x1 pos) ρ (.tup ds) := .by _ (fun X o => pn_tup (UAN.pan o es)) (ev_tup h hl)
theorem dan_nil : DAN g n l [] ρ [] := .of da_nil
end
end PD
namespace SP
open PySem PySem.Spec PyProof.Rows L2 PD
variable {g : Gb} {C CT fR : Addr} {l : Lc} {ρ : Rho}
/-- _law_row(read_file, e), e a text of lines -/
theorem de_rowT {e : Expr} {p p2 pos : Pos} {ws : List Str} {rest : Str} {r : Nat} (Lr : Fn g 7 "_law_row" (R_lrow C CT fR)) (hR : g.mg "read_file" = some (.ref fR)) (h : DE g l e ρ (.str (txtOf ws rest))) (hw : ∀ w ∈ ws, noNl w = true ∧ w.length ≤ 100) (hr : noNl rest = true ∧ rest.length ≤ 100) (hl : ws.length ≤ 80) (hb : readF C CT ws rest = badRow CT r)
    (hk : 7 ≤ l.k := by decide) (h1 : GlN l "_law_row" := by rfl) (h2 : GlN l "read_file" := by rfl) (hs : ∀ env, starEach [.Name "read_file" p2, e] env = (false, eval (.Name "read_file" p2) env) :: starEach [e] env := by intro _; rfl) (hs2 : ∀ env, starEach [e] env = (false, eval e env) :: starEach [] env := by intro _; rfl)
    (hpl : ∀ env, (backTo pos (starEach [e] env)).any (·.1) = false := by intro _; rfl) (hcl : l.cb = true := by rfl) : DE g l (.Call (.Name "_law_row" p) [.Name "read_file" p2, e] [] pos) ρ (.tup [.int (r : Int)]) := by
  refine DE.is (de_call Lr (da_cons (de_gl (v := .ref fR) hR rfl (fun S => .adr fR) h2) (da_cons h da_nil hs2) hs) ⟨.str (txtOf ws rest), readF C CT ws rest, rfl, readO_txt hw hr hl, rfl⟩ hk h1 (by decide) hs hpl hcl) ?_
  rw [hb]
  rfl
theorem join_txt (ws : List Str) : Txt.join ("" : Str) (ws.map lineN) = txtOf ws ("" : Str) := by
  unfold txtOf
  rw [show ("" : Str) = (⟨#[]⟩ : Str) from rfl, join_cat, app_nil]
/-- "".join(lines), the lines being known -/
theorem de_joinT {a e : Expr} {apos pos : Pos} {ws : List Str} (h1 : DE g l a ρ (.str "")) (h2 : DE g l e ρ (.lst ((ws.map lineN).map DV.str))) (hw : ∀ w ∈ ws, w.length ≤ 100) (hl : ws.length ≤ 80) (hs : ∀ env, starEach [e] env = [(false, eval e env)] := by intro _; rfl)
    (hbase : ∀ env, attributeBase a ("join" : Str) env (eval a env) = eval a env := by intro _; rfl) (hline : (apos.endLine == pos.line) = true := by rfl) : DE g l (.Call (.Attribute a "join" apos) [e] [] pos) ρ (.str (txtOf ws "")) := by
  refine DE.is (de_join (sep := ("" : Str)) (ys := ws.map lineN) h1 h2 rfl ?_ hs hbase hline) (by rw [join_txt])
  have := sum_lines hw
  show _ + _ * 0 ≤ _
  omega
end SP

/-! What the law asks of a file's text, by plain functions. -/
namespace SP
open PySem PySem.Spec PyProof.Rows L2 PD
variable {C CT : Addr}
def fine (w : Str) : Bool := noNl w && decide (w.length ≤ 100)
theorem fine_ok {w : Str} (h : fine w = true) : noNl w = true ∧ w.length ≤ 100 := by
  unfold fine at h
  rw [Bool.and_eq_true] at h
  exact ⟨h.1, of_decide_eq_true h.2⟩
def okB (n at_ : Nat) : Bool := (candF n at_).all fun w => fine w && (decide (at_ = 0) || !(TL.tl w).contains 108) && (badsF n at_ w).all fine
theorem okB1 : ∀ at_ ≤ 5, okB 1 at_ = true := by decide +kernel
theorem okB2 : ∀ at_ ≤ 6, okB 2 at_ = true := by decide +kernel
theorem okB3 : ∀ at_ ≤ 7, okB 3 at_ = true := by decide +kernel
theorem okB4 : ∀ at_ ≤ 8, okB 4 at_ = true := by decide +kernel
theorem bad_n {n at_ : Nat} (h1 : 1 ≤ n) (h4 : n ≤ 4) (ha : at_ ≤ n + 4) : allBad n at_ = true ∧ okB n at_ = true := by
  have : n = 1 ∨ n = 2 ∨ n = 3 ∨ n = 4 := by omega
  rcases this with rfl | rfl | rfl | rfl
  · exact ⟨bad1 _ ha, okB1 _ ha⟩
  · exact ⟨bad2 _ ha, okB2 _ ha⟩
  · exact ⟨bad3 _ ha, okB3 _ ha⟩
  · exact ⟨bad4 _ ha, okB4 _ ha⟩
section
variable {ps : List Str} {od : List Nat} {pp op : Int} {tn : Bool} {rest : Str}
theorem ln_cand (vs : VS "ab" ps od) (h1 : 1 ≤ pp ∧ pp ≤ 5) (h2 : 1 ≤ op ∧ op ≤ 5) {at_ : Nat} {w : Str} (ha : at_ ≤ ps.length + 4) (h : (linesOf "ab" ps od pp op tn)[at_]? = some w) : w ∈ candF ps.length at_ := by
  have n1 := vs.hps1
  unfold candF
  by_cases c0 : at_ = 0
  · subst c0
    rw [ln0] at h
    cases h
    exact List.mem_singleton.mpr rfl
  · rw [if_neg c0]
    by_cases c1 : at_ ≤ ps.length
    · rw [if_pos c1]
      have e : ps[at_ - 1]? = some ps[at_ - 1] := List.getElem?_eq_getElem (by omega)
      have := lnP (ls := "ab") (od := od) (pp := pp) (op := op) (tn := tn) e
      rw [show 1 + (at_ - 1) = at_ by omega, h] at this
      cases this
      exact List.mem_map_of_mem (word_mem vs.hls (vs.hp _ (List.getElem_mem _)))
    · rw [if_neg c1]
      have e := lnT (ls := "ab") (ps := ps) (od := od) (pp := pp) (op := op) (tn := tn) (at_ - (ps.length + 1))
      rw [show ps.length + 1 + (at_ - (ps.length + 1)) = at_ by omega, h] at e
      have mp : ∀ p : Int, 1 ≤ p ∧ p ≤ 5 → p ∈ pricesI := fun p hp => by
        have : p = 1 ∨ p = 2 ∨ p = 3 ∨ p = 4 ∨ p = 5 := by omega
        rcases this with rfl | rfl | rfl | rfl | rfl <;> decide
      by_cases c2 : at_ = ps.length + 1
      · rw [if_pos c2]
        rw [show at_ - (ps.length + 1) = 0 by omega] at e
        cases e
        exact List.mem_map_of_mem (order_mem vs.hod vs.hb)
      · rw [if_neg c2]
        by_cases c3 : at_ = ps.length + 2
        · rw [if_pos c3]
          rw [show at_ - (ps.length + 1) = 1 by omega] at e
          cases e
          exact List.mem_map_of_mem (mp pp h1)
        · rw [if_neg c3]
          by_cases c4 : at_ = ps.length + 3
          · rw [if_pos c4]
            rw [show at_ - (ps.length + 1) = 2 by omega] at e
            cases e
            exact List.mem_map_of_mem (mp op h2)
          · rw [if_neg c4]
            rw [show at_ - (ps.length + 1) = 3 by omega] at e
            cases e
            cases tn
            · exact List.mem_cons_self ..
            · exact List.mem_cons_of_mem _ (List.mem_cons_self ..)
theorem ln_fine (vs : VS "ab" ps od) (h1 : 1 ≤ pp ∧ pp ≤ 5) (h2 : 1 ≤ op ∧ op ≤ 5) : ∀ w ∈ linesOf "ab" ps od pp op tn, noNl w = true ∧ w.length ≤ 100 := by
  intro w hw
  obtain ⟨i, hi, e⟩ := List.getElem_of_mem hw
  have hi' : i < ps.length + 5 := by rw [lines_len] at hi; exact hi
  have hb := (bad_n vs.hps1 vs.hps (at_ := i) (by omega)).2
  have hc := ln_cand vs h1 h2 (at_ := i) (by omega) (by rw [List.getElem?_eq_getElem hi, e])
  have := List.all_eq_true.mp hb w hc
  rw [Bool.and_eq_true, Bool.and_eq_true] at this
  exact fine_ok this.1.1
theorem ln_noL (vs : VS "ab" ps od) (h1 : 1 ≤ pp ∧ pp ≤ 5) (h2 : 1 ≤ op ∧ op ≤ 5) : ∀ i w, 0 < i → (linesOf "ab" ps od pp op tn)[i]? = some w → (TL.tl w).contains 108 = false := by
  intro i w h0 e
  have hi' : i < ps.length + 5 := by have := (List.getElem?_eq_some_iff.mp e).1; rw [lines_len] at this; exact this
  have hb := (bad_n vs.hps1 vs.hps (at_ := i) (by omega)).2
  have := List.all_eq_true.mp hb w (ln_cand vs h1 h2 (at_ := i) (by omega) e)
  rw [Bool.and_eq_true, Bool.and_eq_true, Bool.or_eq_true] at this
  have t := this.1.2.resolve_left (by rw [decide_eq_false (by omega)]; decide)
  cases q : (TL.tl w).contains 108 with
  | false => rfl
  | true => rw [q] at t; cases t
theorem bads_ok (vs : VS "ab" ps od) (h1 : 1 ≤ pp ∧ pp ≤ 5) (h2 : 1 ≤ op ∧ op ≤ 5) {at_ : Nat} {w b : Str} (ha : at_ ≤ ps.length + 4) (h : (linesOf "ab" ps od pp op tn)[at_]? = some w) (hb : b ∈ badsF ps.length at_ w) : rejF ps.length at_ b = true ∧ noNl b = true ∧ b.length ≤ 100 := by
  have hc := ln_cand vs h1 h2 ha h
  obtain ⟨a1, a2⟩ := bad_n vs.hps1 vs.hps ha
  have := List.all_eq_true.mp a2 w hc
  rw [Bool.and_eq_true] at this
  exact ⟨List.all_eq_true.mp (List.all_eq_true.mp a1 w hc) b hb, fine_ok (List.all_eq_true.mp this.2 b hb)⟩
/-- a line put in another's place -/
def putL (W : List Str) (at_ : Nat) (b : Str) : List Str := W.take at_ ++ [b] ++ W.drop (at_ + 1)
theorem putL_get {W : List Str} {at_ : Nat} {b : Str} (h : at_ < W.length) : (∀ i, i < at_ → (putL W at_ b)[i]? = W[i]?) ∧ (putL W at_ b)[at_]? = some b := by
  unfold putL
  refine ⟨fun i hi => ?_, ?_⟩
  · rw [List.append_assoc, List.getElem?_append_left (by rw [List.length_take]; omega), List.getElem?_take_of_lt hi]
  · rw [List.append_assoc, List.getElem?_append_right (by rw [List.length_take]; omega), List.length_take, Nat.min_eq_left (by omega), Nat.sub_self]
    rfl
theorem read_take (vs : VS "ab" ps od) (h1 : 1 ≤ pp ∧ pp ≤ 5) (h2 : 1 ≤ op ∧ op ≤ 5) {at_ : Nat} (ha : at_ ≤ ps.length + 4) : readF C CT ((linesOf "ab" ps od pp op tn).take at_) rest = badRow CT at_ :=
  readF_bad vs h1 h2 ha (fun i hi => List.getElem?_take_of_lt hi) fun x hx => by
    rw [List.getElem?_eq_none (by rw [List.length_take]; omega)] at hx
    cases hx
theorem read_put (vs : VS "ab" ps od) (h1 : 1 ≤ pp ∧ pp ≤ 5) (h2 : 1 ≤ op ∧ op ≤ 5) {at_ : Nat} {b : Str} (ha : at_ ≤ ps.length + 4) (hb : rejF ps.length at_ b = true) : readF C CT (putL (linesOf "ab" ps od pp op tn) at_ b) rest = badRow CT at_ := by
  obtain ⟨g1, g2⟩ := putL_get (W := linesOf "ab" ps od pp op tn) (at_ := at_) (b := b) (by rw [lines_len]; omega)
  exact readF_bad vs h1 h2 ha g1 fun x hx => by
    rw [g2] at hx
    cases hx
    exact hb
end
end SP

/-! Lines of writes that cannot be read. -/
namespace SP
open PySem PySem.Spec PyProof.Rows L2 PD
def nilW (n : Nat) (b : Str) : Bool := ((writesT "ab" n).lookup b).isNone && fine b
def badC : List Str := ["", "end", "piece 0", "piece 0 aba", "piece 0 c", "piece 4 a", "piece - a", "piece 0 ", "order", "order 0 0 0 0", "order 4", "order - 0", "order 00", "piece 0 a b", "Piece 0 a"]
def okWn (n : Nat) : Bool := badC.all (nilW n) && (decide (n = 4) || (nilW n (("piece " : Str) ++ strI (n : Int) ++ (" a" : Str)) && nilW n (("order 0 " : Str) ++ strI (n : Int))))
theorem okW_n : ∀ n ≤ 4, okWn n = true := by decide +kernel
def okWw (n : Nat) (w : Wr) : Bool := decide ((writesT "ab" n).lookup (writeL w) = some w) && fine (writeL w) && decide (0 < (writeL w).length)
theorem okW_w : ∀ n ≤ 4, ((everyOf "ab" n).all (okWw n)) = true := by decide +kernel
def okWb (n : Nat) (w : Wr) : Bool := nilW n ((" " : Str) ++ writeL w) && nilW n (writeL w ++ (" " : Str))
theorem okW_b : ∀ n ≤ 4, ((everyOf "ab" n).all (okWb n)) = true := by decide +kernel
end SP

/-! The ends that the law asks for. -/
namespace SP
open PySem PySem.Spec PyProof.Rows L2 PD
variable {C CT : Addr}
section
variable {ps : List Str} {od : List Nat} {pp op : Int} {tn : Bool} {rest : Str}
theorem read_all (vs : VS "ab" ps od) (h1 : 1 ≤ pp ∧ pp ≤ 5) (h2 : 1 ≤ op ∧ op ≤ 5) : readF C CT (linesOf "ab" ps od pp op tn) "" = .val (fileD C "ab" ps od pp op tn) := by
  rw [readF_all vs h1 h2 fun i _ => rfl]
  rw [if_neg]
  unfold endBad
  rw [lines_len, Nat.add_comm 5, decide_eq_false (by omega), decide_eq_true rfl]
  decide
theorem read_more (vs : VS "ab" ps od) (h1 : 1 ≤ pp ∧ pp ≤ 5) (h2 : 1 ≤ op ∧ op ≤ 5) (x : Str) : readF C CT (linesOf "ab" ps od pp op tn ++ [x]) rest = badRow CT (ps.length + 5) := by
  rw [readF_all vs h1 h2 fun i hi => by rw [List.getElem?_append_left (by rw [lines_len]; exact hi)], if_pos, Nat.add_comm 5]
  unfold endBad
  rw [List.length_append, lines_len, decide_eq_true (by rw [List.length_singleton]; omega)]
  rfl
theorem read_rest (vs : VS "ab" ps od) (h1 : 1 ≤ pp ∧ pp ≤ 5) (h2 : 1 ≤ op ∧ op ≤ 5) (h : rest ≠ ("" : Str)) : readF C CT (linesOf "ab" ps od pp op tn) rest = badRow CT (ps.length + 5) := by
  rw [readF_all vs h1 h2 fun i hi => rfl, if_pos, Nat.add_comm 5]
  unfold endBad
  rw [decide_eq_false h, Bool.or_comm]
  rfl
theorem vs4 : VS "ab" ["a", "a", "a", "a"] [] := ⟨.inl rfl, by decide, by decide, fun p hp => by
  simp only [List.mem_cons, List.not_mem_nil, or_false] at hp
  rcases hp with rfl | rfl | rfl | rfl <;> decide +kernel, by decide, fun b hb => by cases hb⟩
theorem read_five (L : List Str) : readF C CT ([lettersL "ab"] ++ List.replicate 5 (pieceL "a") ++ L) rest = badRow CT 5 := by
  refine readF_bad (ps := ["a", "a", "a", "a"]) (od := []) (pp := 1) (op := 1) (tn := false) vs4 (by decide) (by decide) (at_ := 5) (by decide) (fun i hi => ?_) fun x hx => ?_
  · have : i = 0 ∨ i = 1 ∨ i = 2 ∨ i = 3 ∨ i = 4 := by omega
    rcases this with rfl | rfl | rfl | rfl | rfl <;> rfl
  · cases hx
    decide +kernel
theorem read_short (vs : VS "ab" ps od) (h1 : 1 ≤ pp ∧ pp ≤ 5) (h2 : 1 ≤ op ∧ op ≤ 5) : readF C CT ([lettersL "ab"] ++ (linesOf "ab" ps od pp op tn).drop (ps.length + 1)) rest = badRow CT 1 := by
  have n1 := vs.hps1
  refine readF_bad (tn := tn) vs h1 h2 (at_ := 1) (by omega) (fun i hi => ?_) fun x hx => ?_
  · have : i = 0 := by omega
    subst this
    rfl
  · rw [List.cons_append, List.nil_append, List.getElem?_cons_succ, List.getElem?_drop] at hx
    rw [show ps.length + 1 + 0 = ps.length + 1 + 0 from rfl, lnT 0] at hx
    cases hx
    unfold rejF
    rw [if_neg (by decide), if_pos rfl, (lk_order vs.hps od (order_mem vs.hod vs.hb)).2]
    rfl
theorem read_letter (L : List Str) : readF C CT (("letter ab" : Str) :: L) rest = badRow CT 0 := by
  unfold readF
  rw [tk_some (x := ("letter ab" : Str)) rfl, show lettersT.lookup ("letter ab" : Str) = none by decide +kernel]
end
/-! ### the text with another first word -/
theorem replL_no {z : List Nat} {c : Nat} {y : List Nat} : ∀ {l : List Nat}, c ∉ l → StrLaws.replL (c :: y) z l = l
  | [], _ => StrLaws.replL_nil
  | d :: r, h => by
    rw [StrLaws.replL_miss (fun e => by
      rw [List.length_cons, List.take_succ_cons] at e
      exact h (by rw [(List.cons.inj e).1]; exact List.mem_cons_self ..)), replL_no fun m => h (List.mem_cons_of_mem _ m)]
theorem tl_txt (rest : Str) : ∀ ws : List Str, TL.tl (txtOf ws rest) = (ws.flatMap fun w => TL.tl w ++ [10]) ++ TL.tl rest
  | [] => by
    unfold txtOf
    rw [TL.tl_append]
    rfl
  | w :: ws => by
    have ih := tl_txt rest ws
    unfold txtOf at ih ⊢
    rw [List.map_cons, catS_cons, app_assoc, TL.tl_append, ih, lineN_eq, TL.tl_append, List.flatMap_cons, List.append_assoc (TL.tl w ++ [10])]
    rfl
theorem txt_letter {V : List Str} (h : ∀ v ∈ V, (TL.tl v).contains 108 = false) : Txt.replace (txtOf (lettersL "ab" :: V) "") ("letters" : Str) ("letter" : Str) = txtOf (("letter ab" : Str) :: V) "" := by
  refine TL.ext_tl ?_
  have e0 : TL.tl (Txt.replace (txtOf (lettersL "ab" :: V) "") ("letters" : Str) ("letter" : Str)) = StrLaws.replL (TL.tl ("letters" : Str)) (TL.tl ("letter" : Str)) (TL.tl (txtOf (lettersL "ab" :: V) "")) := StrLaws.replace_list (by decide)
  rw [e0, tl_txt, tl_txt, List.flatMap_cons, List.flatMap_cons]
  have e1 : TL.tl ("letters" : Str) = [108, 101, 116, 116, 101, 114, 115] := by decide +kernel
  have e2 : TL.tl ("letter" : Str) = [108, 101, 116, 116, 101, 114] := by decide +kernel
  have e3 : TL.tl (lettersL "ab") ++ [10] = 108 :: [101, 116, 116, 101, 114, 115, 32, 97, 98, 10] := by decide +kernel
  have e4 : TL.tl ("letter ab" : Str) ++ [10] = [108, 101, 116, 116, 101, 114] ++ [32, 97, 98, 10] := by decide +kernel
  have e5 : TL.tl ("" : Str) = [] := rfl
  rw [e1, e2, e3, e4, e5, List.append_nil, List.append_nil]
  generalize hm : (V.flatMap fun w => TL.tl w ++ [10]) = m
  have hm108 : 108 ∉ m := by
    rw [← hm]
    intro z
    obtain ⟨v, hv, hz⟩ := List.mem_flatMap.mp z
    rcases List.mem_append.mp hz with hz | hz
    · have := h v hv
      rw [List.contains_iff_mem.mpr hz] at this
      cases this
    · simp at hz
  rw [List.cons_append, StrLaws.replL_hit (by decide) (by rfl)]
  have e6 : (108 :: ([101, 116, 116, 101, 114, 115, 32, 97, 98, 10] ++ m)).drop [108, 101, 116, 116, 101, 114, 115].length = [32, 97, 98, 10] ++ m := rfl
  rw [e6, replL_no (by
    intro z
    rcases List.mem_append.mp z with z | z
    · simp at z
    · exact hm108 z), List.append_assoc]
end SP

/-! read_writes over good lines, and one that is bad. -/
namespace SP
open PySem PySem.Spec PyProof.Rows L2 PD
variable {g : Gb} {C CT : Addr}
theorem every_mem {n : Nat} {w : Wr} (h : VW "ab" n w) : w ∈ everyOf "ab" n := by
  unfold everyOf
  cases w with
  | piece b p => exact List.mem_append_left _ (List.mem_flatMap.mpr ⟨b, List.mem_range.mpr h.1, List.mem_map.mpr ⟨p, word_mem (.inl rfl) h.2, rfl⟩⟩)
  | order o => exact List.mem_append_right _ (List.mem_map.mpr ⟨o, order_mem h.1 h.2, rfl⟩)
theorem lk_write {n : Nat} (hn : n ≤ 4) {w : Wr} (h : VW "ab" n w) : (writesT "ab" n).lookup (writeL w) = some w ∧ (noNl (writeL w) = true ∧ (writeL w).length ≤ 100) ∧ 0 < (writeL w).length := by
  have := List.all_eq_true.mp (okW_w n hn) w (every_mem h)
  unfold okWw at this
  simp only [Bool.and_eq_true, decide_eq_true_eq] at this
  exact ⟨this.1.1, fine_ok this.1.2, this.2⟩
theorem nil_fine {n : Nat} {b : Str} (h : nilW n b = true) : (writesT "ab" n).lookup b = none ∧ noNl b = true ∧ b.length ≤ 100 := by
  unfold nilW at h
  rw [Bool.and_eq_true] at h
  exact ⟨Option.isNone_iff_eq_none.mp h.1, fine_ok h.2⟩
/-- where the reading of writes stops -/
def stopW (n : Nat) (P : List Str) (O : List Nat) (x : Str) : Prop := (writesT "ab" n).lookup x = none ∨ ∃ w, (writesT "ab" n).lookup x = some w ∧ chg P O w = false
theorem goW_run {n : Nat} {L : List Str} (hn : n ≤ 4) : ∀ (ws : List Wr) (P : List Str) (O : List Nat) (r k : Nat), chain "ab" P O ws → P.length = n → (∀ i w, ws[i]? = some w → L[r + i]? = some (writeL w)) → (∀ x, L[r + ws.length]? = some x → stopW n (endP P ws) (endO O ws) x) → ws.length < k → goW "ab" n L k r P O = ws
  | [], P, O, r, 0, _, _, _, _, hk => absurd hk (by simp)
  | [], P, O, r, k + 1, _, _, _, stop, _ => by
    unfold goW tk
    cases e : L[r]? with
    | none => rfl
    | some x =>
      dsimp only
      rcases stop x e with h | ⟨w, h, hc⟩
      · rw [h]
      · rw [h]
        dsimp only
        rw [show chg P O w = false from hc]
        rfl
  | w :: ws, P, O, r, 0, _, _, _, _, hk => absurd hk (by simp)
  | w :: ws, P, O, r, k + 1, hc, hP, good, stop, hk => by
    obtain ⟨hv, hch, hrest⟩ := hc
    rw [hP] at hv
    have e0 : L[r]? = some (writeL w) := good 0 w rfl
    unfold goW tk
    rw [e0]
    dsimp only
    rw [(lk_write hn hv).1]
    dsimp only
    rw [if_pos hch, goW_run hn ws (afterP P w) (afterO O w) (r + 1) k hrest ?h1 ?h2 ?h3 ?h4]
    case h1 =>
      cases w with
      | piece b p => show (P.set b p).length = n; rw [List.length_set, hP]
      | order o => exact hP
    case h2 =>
      intro i x h
      have := good (i + 1) x h
      rwa [show r + (i + 1) = r + 1 + i by omega] at this
    case h3 =>
      intro x h
      exact stop x (by rw [List.length_cons, show r + (ws.length + 1) = r + 1 + ws.length by omega]; exact h)
    case h4 => rw [List.length_cons] at hk; omega
section
variable {ps : List Str} {od : List Nat} {ws : List Wr} {L : List Str} {rest : Str}
theorem chain_takeN : ∀ (ws : List Wr) (P : List Str) (O : List Nat) (k : Nat), chain "ab" P O ws → chain "ab" P O (ws.take k)
  | _, _, _, 0, _ => trivial
  | [], _, _, k + 1, _ => trivial
  | w :: ws, P, O, k + 1, h => ⟨h.1, h.2.1, chain_takeN ws _ _ k h.2.2⟩
/-- good lines up to at_; there a line that stops the reading, or none but a rest -/
theorem readW_bad (vs : VS "ab" ps od) (hc : chain "ab" ps od ws) {at_ : Nat} (ha : at_ ≤ ws.length) (good : ∀ i w, i < at_ → ws[i]? = some w → L[i]? = some (writeL w)) (stop : ∀ x, L[at_]? = some x → stopW ps.length (endP ps (ws.take at_)) (endO od (ws.take at_)) x) (he : at_ < L.length ∨ rest ≠ ("" : Str)) : readW CT "ab" ps od L rest = badRow CT at_ := by
  have lt : (ws.take at_).length = at_ := by rw [List.length_take]; omega
  have hl : at_ ≤ L.length := by
    by_cases h : at_ = 0
    · omega
    · have hw : at_ - 1 < ws.length := by omega
      have := good (at_ - 1) ws[at_ - 1] (by omega) (List.getElem?_eq_getElem hw)
      have := (List.getElem?_eq_some_iff.mp this).1
      omega
  have g1 : goW "ab" ps.length L (L.length + 1) 0 ps od = ws.take at_ := goW_run vs.hps (ws.take at_) ps od 0 (L.length + 1) (chain_takeN _ _ _ _ hc) rfl (fun i w h => by
    rw [Nat.zero_add]
    rw [List.getElem?_take] at h
    by_cases hi : i < at_
    · rw [if_pos hi] at h; exact good i w hi h
    · rw [if_neg hi] at h; cases h) (fun x h => stop x (by rw [lt, Nat.zero_add] at h; exact h)) (by rw [lt]; omega)
  unfold readW
  rw [g1]
  dsimp only
  rw [lt]
  have : endBad L rest at_ = true := by
    unfold endBad
    rw [Bool.or_eq_true]
    rcases he with h | h
    · exact .inl (decide_eq_true h)
    · exact .inr (by rw [decide_eq_false h]; rfl)
  rw [this]
  rfl
theorem readW_all (vs : VS "ab" ps od) (hc : chain "ab" ps od ws) : readW CT "ab" ps od (ws.map writeL) "" = .val (.lst (ws.map Wr.d)) := by
  have g1 : goW "ab" ps.length (ws.map writeL) ((ws.map writeL).length + 1) 0 ps od = ws := goW_run vs.hps ws ps od 0 _ hc rfl (fun i w h => by rw [Nat.zero_add, List.getElem?_map, h]; rfl) (fun x h => by
    rw [Nat.zero_add, List.getElem?_eq_none (by rw [List.length_map]; exact Nat.le_refl _)] at h
    cases h) (by rw [List.length_map]; omega)
  unfold readW
  rw [g1]
  dsimp only
  have : endBad (ws.map writeL) "" ws.length = false := by
    unfold endBad
    rw [List.length_map, decide_eq_false (Nat.lt_irrefl _)]
    rfl
  rw [this]
  rfl
end
/-- the bad lines that the law tries at a write's place -/
def badsW (n : Nat) (P0 : Str) (O : List Nat) (w : Str) : List Str :=
  (["", (" " : Str) ++ w, "end", "piece 0", "piece 0 aba", "piece 0 c", "piece 4 a", "piece - a", "piece 0 ", "order", "order 0 0 0 0", "order 4", "order - 0", "order 00", "piece 0 a b", "Piece 0 a", ("order " : Str) ++ orderW O, ("piece 0 " : Str) ++ pieceW P0, w ++ (" " : Str)] : List Str) ++
  (if n < 4 then [("piece " : Str) ++ strI (n : Int) ++ (" a" : Str), ("order 0 " : Str) ++ strI (n : Int)] else [])
theorem badsW_ok {P : List Str} {O : List Nat} {w : Wr} (vs : VS "ab" P O) (hw : VW "ab" P.length w) : ∀ b ∈ badsW P.length (oldP P 0) O (writeL w), stopW P.length P O b ∧ noNl b = true ∧ b.length ≤ 100 := by
  intro b hb
  have n4 := vs.hps
  have n1 := vs.hps1
  have okn := okW_n P.length n4
  unfold okWn at okn
  rw [Bool.and_eq_true, Bool.or_eq_true, Bool.and_eq_true] at okn
  have nil : ∀ {b : Str}, nilW P.length b = true → stopW P.length P O b ∧ noNl b = true ∧ b.length ≤ 100 := fun h => ⟨.inl (nil_fine h).1, (nil_fine h).2⟩
  have okb := List.all_eq_true.mp (okW_b P.length n4) w (every_mem hw)
  unfold okWb at okb
  rw [Bool.and_eq_true] at okb
  have cst : ∀ b ∈ badC, stopW P.length P O b ∧ noNl b = true ∧ b.length ≤ 100 := fun b hb => nil (List.all_eq_true.mp okn.1 b hb)
  unfold badsW at hb
  rcases List.mem_append.mp hb with hb | hb
  · by_cases hC : b ∈ badC
    · exact cst b hC
    · simp only [List.mem_cons, List.not_mem_nil, or_false] at hb
      have hC' := hC
      unfold badC at hC
      simp only [List.mem_cons, List.not_mem_nil, or_false, not_or] at hC
      rcases hb with h | h | h | h | h | h | h | h | h | h | h | h | h | h | h | h | h | h | h
      · exact absurd h hC.1
      · rw [h]; exact nil okb.1
      all_goals first
        | (exfalso; apply hC'; rw [h]; simp [badC]; done)
        | skip
      · subst h
        have e : ("order " : Str) ++ orderW O = writeL (.order O) := (orderL_eq O).symm
        have vo : VW "ab" P.length (.order O) := ⟨vs.hod, vs.hb⟩
        have lk := lk_write n4 vo
        rw [e]
        exact ⟨.inr ⟨_, lk.1, by simp [chg]⟩, lk.2.1⟩
      · subst h
        have e : ("piece 0 " : Str) ++ pieceW (oldP P 0) = writeL (.piece 0 (oldP P 0)) := by
          rw [writeL_piece, show ((("piece " : Str) ++ strI ((0 : Nat) : Int)) ++ (" " : Str)) = ("piece 0 " : Str) by decide +kernel]
        have vp : VW "ab" P.length (.piece 0 (oldP P 0)) := ⟨n1, vs.hp _ (by
          unfold oldP
          rw [List.getD_eq_getElem?_getD, List.getElem?_eq_getElem (by omega)]
          exact List.getElem_mem _)⟩
        have lk := lk_write n4 vp
        rw [e]
        exact ⟨.inr ⟨_, lk.1, by simp [chg]⟩, lk.2.1⟩
      · rw [h]; exact nil okb.2
  · by_cases h4 : P.length < 4
    · rw [if_pos h4] at hb
      rcases okn.2 with h | h
      · exact absurd (of_decide_eq_true h) (by omega)
      · simp only [List.mem_cons, List.not_mem_nil, or_false] at hb
        rcases hb with rfl | rfl
        · exact nil h.1
        · exact nil h.2
    · rw [if_neg h4] at hb
      cases hb
end SP

/-! x, y, z = (a, [..], [..]): two own lists. -/
namespace PD
open PySem PySem.Spec PyProof.Rows L2
section
variable {g : Gb} {l : Lc} {ρ : Rho} {a b c : Expr} {d1 : DV} {ds es : List DV} {x y z : Str} {px py pz pt pt2 pos : Pos} {kt k2 : Nat} {E : Po}
theorem ds_par3OO (i j k : Nat) (nd : l.N.Nodup) (no : noOwn ρ = true) (ha : DE g l a ρ d1) (hb : DL g l b ρ ds) (hc : DL g l c ρ es) (q : E.nx (((ρ.set i (.val d1)).set j (.own ds)).set k (.own es))) (hi : l.N[i]? = some x := by rfl) (hj : l.N[j]? = some y := by rfl) (hk : l.N[k]? = some z := by rfl) (hij : i ≠ j := by decide) (hik : i ≠ k := by decide) (hjk : j ≠ k := by decide)
    (hx : l.sc.names.lookup x = some .local := by rfl) (hy : l.sc.names.lookup y = some .local := by rfl) (hz : l.sc.names.lookup z = some .local := by rfl) (hs : ∀ env, starEach [a, b, c] env = (false, eval a env) :: starEach [b, c] env := by intro _; rfl) (hs2 : ∀ env, starEach [b, c] env = (false, eval b env) :: starEach [c] env := by intro _; rfl) (hs3 : ∀ env, starEach [c] env = (false, eval c env) :: starEach [] env := by intro _; rfl)
    (hw : ∀ env, env.scope = l.sc → swappedStores [.Tuple [.Name x px, .Name y py, .Name z pz] kt pt] (.Tuple [a, b, c] k2 pt2) env = pure (some [x, y, z]) := by intro env h; cases env; cases h; rfl)
    (hsw : ∀ env, swapsWithSole [.Tuple [.Name x px, .Name y py, .Name z pz] kt pt] (.Tuple [a, b, c] k2 pt2) pos.line env = pure false := by intro _; rfl) (hcl : l.cb = true := by rfl) : DS g l (.Assign [.Tuple [.Name x px, .Name y py, .Name z pz] kt pt] (.Tuple [a, b, c] k2 pt2) pos) ρ E :=
  DS.by (tPar3 i j k (tCons (UE g l a) (tCons (UE g l b) (tCons (UE g l c) tNil)))) (fun X o => ps_par3 (o.calm hcl) (by rw [o.N]; exact nd) (by rw [o.N]; exact hi) (by rw [o.N]; exact hj) (by rw [o.N]; exact hk) hij hik hjk (by rw [o.sc]; exact hx) (by rw [o.sc]; exact hy) (by rw [o.sc]; exact hz) (pa_cons (UE.pe o a) (pa_cons (UE.pe o b) (pa_cons (UE.pe o c) pa_nil (hs3 _)) (hs2 _)) (hs _)) (hw _ o.sc) (hsw _))
    fun S0 H0 B σ S H D g0 bb n o => ha H0 σ S H g0.sub n _ fun v1 S1 H1 g1 r1 => hb H0 σ S1 H1 g1.sub (n.go g1) _ fun p vs S2 H2 hp g2 nS hh rr => hc H0 σ S2 H2 g2.sub ((n.go g1).go g2) _ fun p3 vs3 S3 H3 hp3 g3 nS3 hh3 rr3 => by
      refine ⟨v1, .ref p, .ref p3, rfl, ?_⟩
      have n4 := (((n.go g1).go g2).go g3).set (i := i) ((r1.up g2.s).up g3.s)
      have none1 : ∀ {m : Nat} {e : DV}, (ρ.set i (.val d1))[m]? = some (.ownD e) → False := fun {m e} hes => by
        rcases set_get hes with ⟨_, w⟩ | ⟨_, hes⟩
        · cases w
        · exact absurd (noOwn_get no hes) (by simp [EV.isOwn])
      have n5 := n4.setOwn (i := j) (g0.h.free (g1.h.free hp)) (g3.off nS hh) (g3.h _ _ hh) (rr.up g3.s) fun m _ e hes _ => none1 hes
      refine o.nx _ _ S3 H3 q (((g0.tr g1).tr g2).tr g3) (bb.tr (g1.s.tr (g2.s.tr g3.s))) (n5.setOwn (i := k) (g0.h.free (g1.h.free (g2.h.free hp3))) nS3 hh3 rr3 fun m hm e hes w => ?_)
      rcases set_get hes with ⟨rfl, _⟩ | ⟨_, hes⟩
      · rcases set_get w with ⟨_, w⟩ | ⟨w, _⟩
        · cases w
          rw [hh] at hp3
          cases hp3
        · exact w rfl
      · exact none1 hes
end
end PD

/-! Before _law_files_right: slots, lines, rows. -/
namespace SP
open PySem PySem.Spec PyProof.Rows L2 PD
variable {g : Gb} {C CT fR : Addr}
abbrev frN : List Str := ["_law_file_here", "_law_words", "_law_many", "_law_lines_here", "_law_text", "_law_size", "_law_at", "_law_bad", "_law_far", "_law_one", "_law_five", "_law_ends", "_law_word", "_law_row_here"]
theorem scFR5 : FnScope frN ["_law_file_here"] (defScope s__law_files_right) := ⟨rfl, rfl, rfl, by decide +kernel, rfl, by decide +kernel, by decide +kernel⟩
abbrev frL : Lc := ⟨7, frN, defScope s__law_files_right, fun _ => true, true, none⟩
abbrev frR (F : DV) (W : List Str) (n : Nat) (a b c d : EV) : Rho := [.val F, .val (.lst (W.map DV.str)), .val (.int (n : Int)), .val (.lst ((W.map lineN).map DV.str)), .val (.str (txtOf W "")), .val (.int (W.length : Int)), a, b, c, d, .un, .un, .un, .un]
theorem feq_self (ls : Str) (ps : List Str) (od : List Nat) (pp op : Int) (tn : Bool) : feq ls ls ps ps od od pp pp op op tn tn = true := by
  unfold feq
  simp
  cases tn <;> rfl
theorem txt_add (V : List Str) (r : Str) : txtOf V "" ++ r = txtOf V r := by
  unfold txtOf
  rw [show ("" : Str) = (⟨#[]⟩ : Str) from rfl, app_nil]
theorem sec_at {α : Type} {l : List α} {i : Nat} {x : α} (h : l[i]? = some x) : atI l (i : Int) = some x := atI_nat h
section
variable {l : Lc} {ρ : Rho} {e1 e2 : Expr} {pos : Pos} {r : Nat}
theorem dt_row (h : DE g l e1 ρ (.tup [.int (r : Int)])) (h2 : DE g l e2 ρ (.tup [.int (r : Int)])) : DT g l (.Compare e1 [.NotEq] [e2] pos) ρ false :=
  DT.is (dt_neD (ok_odD [r]) (ok_odD [r]) h h2) (by rw [eqv_odD]; simp)
theorem de_row (h : DE g l e1 ρ (.tup [.int (r : Int)])) (h2 : DE g l e2 ρ (.tup [.int (r : Int)])) : DE g l (.Compare e1 [.Eq] [e2] pos) ρ (.bl true) :=
  DE.is (de_eqD (ok_odD [r]) (ok_odD [r]) h h2) (by rw [eqv_odD]; simp)
end
def splB (n at_ : Nat) : Bool := (candF n at_).all fun w => !(Txt.split w (" " : Str)).isEmpty
theorem spl_ne {n at_ : Nat} (h1 : 1 ≤ n) (h4 : n ≤ 4) (ha : at_ ≤ n + 4) : splB n at_ = true := by
  have : ∀ n ≤ 4, ∀ at_ ≤ 8, splB n at_ = true := by decide +kernel
  exact this n h4 at_ (by omega)
/-- a list of texts of lines -/
abbrev lnsD (bs : List Str) : DV := .lst (bs.map fun b => DV.str (lineN b))
theorem app_line (x y : Str) : x ++ (y ++ ("\n" : Str)) = lineN (x ++ y) := by rw [lineN_eq, app_assoc]
section
variable {l : Lc} {ρ : Rho} {e a : Expr} {pos : Pos}
/-- e + "..\n" -/
theorem de_ln {x : Str} (y z : Str) {j : Nat} {p : Pos} (hz : z = y ++ ("\n" : Str)) (hl : x.length ≤ 1000) (hy : z.length ≤ 1000) (h : DE g l e ρ (.str x)) : DE g l (.BinOp e .Add (.Constant (.str z) j p) pos) ρ (.str (lineN (x ++ y))) :=
  DE.is (de_addS (i := x) (j := z) (by omega) h de_str) (by rw [hz, app_line])
end
abbrev bA (w : Str) : List Str := [(" " : Str) ++ w, w ++ (" " : Str), "", "end", Txt.upper w, w ++ (" x" : Str)]
abbrev bB (w s0 : Str) : List Str := [Txt.replace w (" " : Str) ("  " : Str), s0]
abbrev bC : List Str := ["letters ba", "piece "]
abbrev bO (n : Nat) : List Str := [("order " : Str) ++ strI (n : Int), "order 0 0 0 0"]
abbrev bPc : List Str := ["piece aba", "piece d", "piece a b"]
abbrev bT : List Str := ["piece_price 6", "order_price 0", "torn maybe", "order 00"]
abbrev bQ : List Str := ["piece_price 1"]
theorem txt_snoc (V : List Str) (x : Str) : txtOf (V ++ [x]) "" = txtOf V "" ++ lineN x := by
  rw [txt_add]
  unfold txtOf
  rw [show ("" : Str) = (⟨#[]⟩ : Str) from rfl, app_nil, List.map_append, catS_app]
  show _ ++ catS [lineN x] = _
  rw [catS_cons]
  show _ ++ (lineN x ++ (⟨#[]⟩ : Str)) = _
  rw [app_nil]
theorem sIx_last (n : Nat) : HT.sIx (n + 1) (n + 1) (some (-1)) = n := by
  show (if (-1 : Int) < 0 then ((-1 : Int) + ((n + 1 : Nat) : Int)).toNat else min (-1 : Int).toNat (n + 1)) = n
  rw [if_pos (by decide)]
  omega
theorem cut_nl (V : List Str) (x : Str) : L2.cutS (txtOf (V ++ [x]) "") none (some (-1)) = txtOf V x := by
  rw [txt_snoc, lineN_eq, ← app_assoc, txt_add]
  have hl : (txtOf V x ++ ("\n" : Str)).length = (txtOf V x).length + 1 := by rw [len_app]; rfl
  have hc : (txtOf V x ++ ("\n" : Str)).cps.toList = (txtOf V x).cps.toList ++ ("\n" : Str).cps.toList := by
    show ((txtOf V x).cps ++ ("\n" : Str).cps).toList = _
    rw [Array.toList_append]
  unfold L2.cutS
  rw [hl, sIx_last, HT.sIx_none, List.drop_zero, Nat.sub_zero, hc, List.take_append_of_le_length (by rw [len_toList]; exact Nat.le_refl _), List.take_of_length_le (by rw [len_toList]; exact Nat.le_refl _)]
def endD (x : DV × Nat) : DV := .tup [x.1, .tup [.int (x.2 : Int)]]
abbrev eA (W : List Str) (n : Nat) (w : Str) : List (DV × Nat) := [(.str (txtOf (W ++ [("" : Str)]) ""), W.length), (.str (txtOf (W ++ [w]) ""), W.length), (.str (txtOf (W.take (n + 4)) w), n + 4)]
abbrev eB (W V : List Str) : List (DV × Nat) := [(.str (txtOf W "a"), W.length), (.str (txtOf V ""), 5)]
abbrev eC : List (DV × Nat) := [(.non, 0), (.int 5, 0)]
abbrev eE (V U : List Str) : List (DV × Nat) := [(.str (txtOf V ""), 1), (.str (txtOf U ""), 0)]
theorem take_last {α : Type} {W : List α} {k : Nat} {x : α} (h : W[k]? = some x) (hl : W.length = k + 1) : W = W.take k ++ [x] := by
  have e := List.take_append_drop k W
  rw [List.drop_eq_getElem_cons (by omega), List.drop_of_length_le (by omega)] at e
  have : W[k] = x := by
    rw [List.getElem?_eq_getElem (by omega)] at h
    exact Option.some.inj h
  rw [this] at e
  exact e.symm
end SP

namespace SP
open PySem PySem.Spec PyProof.Rows L2 PD
variable {g : Gb} {C : Addr}
theorem eqv_self {d : DV} (h : d.ok = true) : d.eqv d = true := PySem.SeqAt.eqv_refl d.pd (pd_lay (ok_plain h))
theorem wr_plain {ls : Str} {n : Nat} {w : Wr} (hl : letterSet ls) (h : VW ls n w) : w.d.plain = true ∧ w.d.dep ≤ 2 := by
  cases w with
  | piece b p =>
    show (DV.tup [.str "piece", .int b, .str p]).plain = true ∧ (DV.tup [.str "piece", .int b, .str p]).dep ≤ 2
    rw [DV.plain, plainAll, plainAll, plainAll, plainAll, DV.plain, DV.plain, DV.plain, word_ok hl h.2, DV.dep, depAll, depAll, depAll, depAll, DV.dep, DV.dep, DV.dep, show PyData.strOk ("piece" : Str) = true by decide +kernel]
    decide
  | order o =>
    show (DV.tup [.str "order", .tup (odD o)]).plain = true ∧ (DV.tup [.str "order", .tup (odD o)]).dep ≤ 2
    rw [DV.plain, plainAll, plainAll, plainAll, DV.plain, DV.plain, plain_odD, DV.dep, depAll, depAll, depAll, DV.dep, DV.dep, dep_odD, show PyData.strOk ("order" : Str) = true by decide +kernel]
    decide
theorem ok_wrs {ls : Str} {n : Nat} {ws : List Wr} (hl : letterSet ls) (h : ∀ w ∈ ws, VW ls n w) : (wrsD ws).ok = true := by
  have go : ∀ ws : List Wr, (∀ w ∈ ws, VW ls n w) → plainAll (ws.map Wr.d) = true ∧ depAll (ws.map Wr.d) ≤ 2 := by
    intro ws
    induction ws with
    | nil => exact fun _ => ⟨by rw [List.map_nil, plainAll], by rw [List.map_nil, depAll]; decide⟩
    | cons x xs ih =>
      intro h
      obtain ⟨a, b⟩ := ih fun d hd => h d (List.mem_cons_of_mem _ hd)
      obtain ⟨a', b'⟩ := wr_plain hl (h x (List.mem_cons_self ..))
      refine ⟨by rw [List.map_cons, plainAll, a, a']; rfl, ?_⟩
      rw [List.map_cons, depAll]
      exact Nat.max_le.mpr ⟨b', b⟩
  obtain ⟨a, b⟩ := go ws h
  unfold wrsD DV.ok
  rw [DV.plain, a, DV.dep, Bool.true_and]
  exact decide_eq_true (by omega)
end SP

/-! _law_writes_right. -/
namespace SP
open PySem PySem.Spec PyProof.Rows L2 PD LamX
variable {g : Gb} {C CT fR c P : Addr} {T : List (Addr × Str)}
abbrev wrN : List Str := ["_law_script", "_law_start", "_law_file_here", "_law_state_here", "_law_writes_here", "_law_states", "_law_turn", "_law_every", "_law_lines_here", "_law_text", "_law_spot", "_law_here", "_law_head", "_law_bad", "_law_tail", "_law_ends", "_law_write_here", "_law_one", "_law_row_here"]
theorem scWR : FnScope wrN ["_law_script", "_law_start", "_law_file_here"] (defScope s__law_writes_right) := ⟨rfl, rfl, rfl, by decide +kernel, rfl, by decide +kernel, by decide +kernel⟩
abbrev qWR : Str := "_law_writes_right.<locals>.<lambda>"
def R_wrr (C : Addr) : List DV → DV → Prop := fun ds d => ∃ (D : DV) (xs : List Int) (i : Nat) (ps : List Str) (od : List Nat) (pp op : Int) (tn : Bool), Scr D xs ∧ xs.length ≤ 63 ∧ i ≤ 100 ∧ VS "ab" ps od ∧ (1 ≤ pp ∧ pp ≤ 5) ∧ (1 ≤ op ∧ op ≤ 5) ∧ ds = [D, DV.int (i : Int), fileD C "ab" ps od pp op tn] ∧ d = .bl true
theorem emod_nat {a : Int} {n : Nat} (h : 0 < n) : ∃ i : Nat, a % (n : Int) = (i : Int) ∧ i < n := by
  have h1 := Int.emod_nonneg a (show (n : Int) ≠ 0 by omega)
  have h2 := Int.emod_lt_of_pos a (show (0 : Int) < (n : Int) by omega)
  exact ⟨(a % (n : Int)).toNat, by omega, by omega⟩
theorem chain_end {ws : List Wr} {ps : List Str} {od : List Nat} (vs : VS "ab" ps od) (h : chain "ab" ps od ws) : VS "ab" (endP ps ws) (endO od ws) := by
  induction ws generalizing ps od with
  | nil => exact vs
  | cons w ws ih => exact ih (vs.after h.1) h.2.2
theorem orders_two : ∀ n ≤ 4, 1 ≤ n → ([] : List Nat) ∈ ordersOf n ∧ [0] ∈ ordersOf n := by decide +kernel
theorem writes_pos {ls : Str} {ps : List Str} {od : List Nat} (v : VS ls ps od) : 0 < (writesOf ls ps od).length := by
  obtain ⟨h1, h2⟩ := orders_two _ v.hps v.hps1
  have go : ∃ o ∈ ordersOf ps.length, o ≠ od := by
    by_cases e : od = []
    · exact ⟨[0], h2, by rw [e]; decide⟩
    · exact ⟨[], h1, fun z => e z.symm⟩
  obtain ⟨o, ho, hne⟩ := go
  have m : Wr.order o ∈ writesOf ls ps od := by
    unfold writesOf
    refine List.mem_append_right _ (List.mem_map.mpr ⟨o, List.mem_filter.mpr ⟨ho, ?_⟩, rfl⟩)
    rw [decide_eq_false hne]
    rfl
  exact List.length_pos_of_mem m
theorem chain_vw : ∀ {ws : List Wr} {ps : List Str} {od : List Nat}, chain "ab" ps od ws → ∀ w ∈ ws, VW "ab" ps.length w
  | [], _, _, _, w, hw => by cases hw
  | x :: ws, ps, od, h, w, hw => by
    rcases List.mem_cons.mp hw with rfl | hw
    · exact h.1
    · have := chain_vw h.2.2 w hw
      cases x with
      | piece b p =>
        rwa [show (afterP ps (.piece b p)).length = ps.length from List.length_set ..] at this
      | order o => exact this
theorem endP_lenN : ∀ (ws : List Wr) (ps : List Str), (endP ps ws).length = ps.length
  | [], _ => rfl
  | w :: ws, ps => by
    have := endP_lenN ws (afterP ps w)
    cases w with
    | piece b p => exact this.trans (List.length_set ..)
    | order o => exact this
theorem cut_line (x : Str) : L2.cutS (lineN x) none (some (-1)) = x := by
  have := cut_nl [] x
  have e : txtOf ([] ++ [x]) "" = lineN x := by
    rw [txt_snoc]
    exact nil_app _
  rw [e] at this
  rw [this]
  exact nil_app _
/-- the states before each write -/
def befD (ps : List Str) (od : List Nat) (ws : List Wr) : List DV := (List.range ws.length).map fun i => stD (endP ps (ws.take i)) (endO od (ws.take i))
theorem befD_snoc (ps : List Str) (od : List Nat) (ws : List Wr) (w : Wr) : befD ps od (ws ++ [w]) = befD ps od ws ++ [stD (endP ps ws) (endO od ws)] := by
  unfold befD
  rw [List.length_append, List.length_singleton, List.range_succ, List.map_append]
  congr 1
  · refine List.map_congr_left fun i hi => ?_
    have := List.mem_range.mp hi
    rw [List.take_append_of_le_length (by omega)]
  · rw [List.map_singleton, List.take_append_of_le_length (Nat.le_refl _), List.take_length]
abbrev wrR (D : DV) (i : Nat) (F : DV) (P : List Str) (O : List Nat) (ws : List Wr) (bef : List DV) (e6 e7 : EV) (LS : List Str) (sp : Nat) (a b c d e : EV) : Rho := [.val D, .val (.int (i : Int)), .val F, .val (stD P O), .val (.lst (ws.map Wr.d)), .val (.lst bef), e6, e7, .val (.lst ((LS.map lineN).map DV.str)), .val (.str (txtOf LS "")), .val (.int (sp : Int)), a, b, c, d, e, .un, .un, .un]
abbrev wA (w : Str) : List Str := ["", (" " : Str) ++ w, "end", "piece 0"]
abbrev wB : List Str := ["piece 0 aba", "piece 0 c", "piece 4 a", "piece - a", "piece 0 "]
abbrev wC : List Str := ["order", "order 0 0 0 0", "order 4", "order - 0"]
abbrev wD : List Str := ["order 00", "piece 0 a b", "Piece 0 a"]
abbrev wE (O : List Nat) (p : Str) : List Str := [("order " : Str) ++ orderW O, ("piece 0 " : Str) ++ pieceW p]
abbrev wF (w : Str) : List Str := [w ++ (" " : Str)]
abbrev wG (n : Nat) : List Str := [("piece " : Str) ++ strI (n : Int) ++ (" a" : Str), ("order 0 " : Str) ++ strI (n : Int)]
abbrev zA (LS : List Str) (n : Nat) (w : Str) : List (DV × Nat) := [(.str (txtOf LS "piece"), n), (.str (txtOf (LS.take (n - 1)) w), n - 1), (.non, 0)]
abbrev zB : List (DV × Nat) := [(.int 5, 0), (.str "x", 0)]
theorem ok_wrr {n : Nat} (B : Bt g) (hstr : g.mg "str" = none) (L : Fl g C) (Pf : Fp g C) (Nu : Fn g 1 "_law_number" R_num) (St : Fn g 3 "_law_state" (R_fstate C)) (Lw : Fn g 1 "_law_writes" R_lwrs) (Af : Fn g 1 "_law_after" R_safter) (Wl : Fn g 2 "_law_write" R_wline) (LO : Fn g 1 "_law_order" R_lorder) (LP : Fn g 1 "_law_piece" R_pword)
    (Wt : Fn g 7 "writes_text" (R_wrt C)) (RW : FnZ g 6 "read_writes" (R_readw C CT)) (R : Rwf g CT) (TB : TabB g.base g.mg c P) (hm : (P, qWR) ∈ T) (hu : ∀ p ∈ T, p.1 = P → p.2 = qWR)
    {f : Addr} {fd : FuncData} (F : FunC g.K "_law_writes_right" "_law_writes_right" s__law_writes_right c f fd) : FnOkN g.P g.w g.K g.mg g.base CX0 9 n f fd ["_law_script", "_law_start", "_law_file_here"] (spT g.K T (R_wrr C)) := by
  refine fn_okT (q := qWR) F (by decide +kernel) scWR (fun ds d ⟨_, _, _, _, _, _, _, _, _, _, _, _, _, _, e, _⟩ => by rw [e]; rfl) fun ds d ⟨D, xs, i, ps, od, pp, op, tn, hD, hx, hi, vs, h1, h2, e, ed⟩ => ?_
  subst e ed
  refine dssc_cons (dsc_pl (ds_par3OO 3 4 5 scWR.nd rfl (d1 := stD ps od) (ds := []) (es := []) (de_call St (da_cons (de_v 2) da_nil) ⟨"ab", ps, od, pp, op, tn, rfl, rfl⟩) (dl_lst da_nil) (dl_lst da_nil) ?_))
  obtain ⟨k0, hk0, hk8⟩ := emod_nat (a := numOf xs i) (n := 8) (by decide)
  refine dssc_cons (dsc_pl (ds_for (is := [6]) (DI.is (di_r (n := 1 + k0) B.range (by omega) (DE.is (de_add (i := 1) (j := numOf xs i % ((8 : Nat) : Int)) de_int (de_mod (by decide) (de_intOf B.int (de_call Nu (da_cons (de_v 0) (da_cons (de_v 1) da_nil)) ⟨D, xs, i, hD, hx, by omega, rfl, rfl⟩)) de_int)) (by rw [hk0]; congr 1))) (rg_rgD _))
    (fun k ρ' => ∃ (ws : List Wr) (e6 e7 : EV), ws.length = k ∧ chain "ab" ps od ws ∧ noOwn [e6, e7] = true ∧ ρ' = [.val D, .val (.int (i : Int)), .val (fileD C "ab" ps od pp op tn), .val (stD (endP ps ws) (endO od ws)), .own (ws.map Wr.d), .own (befD ps od ws), e6, e7, .un, .un, .un, .un, .un, .un, .un, .un, .un, .un, .un]) ⟨[], _, _, rfl, trivial, rfl, rfl⟩ (fun k d ρ' hd ⟨ws, e6, e7, hw, hc, hn, hI⟩ => ?turn) (fun ρ' ⟨ws, e6, e7, hw, hc, hn, hI⟩ => ?after)))
  case turn =>
    subst hI
    obtain ⟨hk, rfl⟩ := rgD_at hd
    have ve := chain_end vs hc
    refine ⟨_, dg_n 6 scWR.nd, ?_⟩
    refine dss_cons (ds_setS 7 scWR.nd (d := wrsD (writesOf "ab" (endP ps ws) (endO od ws))) (de_call Lw (da_cons (de_v 2) (da_cons (de_v 3) da_nil)) ⟨_, _, _, ve, rfl, rfl⟩) ?_)
    have wpos := writes_pos ve
    have lenW : ((writesOf "ab" (endP ps ws) (endO od ws)).map Wr.d).length = (writesOf "ab" (endP ps ws) (endO od ws)).length := List.length_map ..
    obtain ⟨j, hj, hjl⟩ := emod_nat (a := numOf xs (i + 1 + k)) wpos
    generalize hWs : writesOf "ab" (endP ps ws) (endO od ws) = Ws at *
    have hwj : Ws[j]? = some Ws[j] := List.getElem?_eq_getElem hjl
    have wok := writes_ok ve Ws[j] (by rw [hWs]; exact List.getElem_mem hjl)
    generalize Ws[j] = w at *
    refine dss_cons (ds_append 4 rfl (d := Wr.d w) (de_ixL (i := (j : Int)) (atI_nat (by rw [List.getElem?_map, hwj]; rfl)) (de_v 7) (DE.is (de_mod (i := numOf xs (i + 1 + k)) (j := ((Ws.map Wr.d).length : Int)) (by rw [lenW]; omega) (de_intOf B.int (de_call Nu (da_cons (de_v 0) (da_cons (de_add (de_add (de_v 1) de_int) (de_v 6)) da_nil)) ⟨D, xs, i + 1 + k, hD, hx, by omega, rfl, rfl⟩)) (de_len B.len (ds := Ws.map Wr.d) rfl (de_v 7))) (by rw [lenW, hj]))) (by rw [List.length_map]; omega) ?_)
    refine dss_cons (ds_append 5 rfl (d := stD (endP ps ws) (endO od ws)) (de_v 3) (by unfold befD; rw [List.length_map, List.length_range]; omega) ?_)
    refine dss_one (ds_setS 3 scWR.nd (d := stD (afterP (endP ps ws) w) (afterO (endO od ws) w)) (de_call Af (da_cons (de_v 3) (da_cons (de_ixOwn 4 (j := -1) rfl (at_last _ _) (de_neg de_int)) da_nil)) ⟨_, _, w, ?_, ve.hps, rfl, rfl⟩) ?_)
    · cases w with
      | piece b p => exact wok.1.1
      | order o => exact True.intro
    · refine ⟨ws ++ [w], .val (.int (k : Int)), .val (wrsD Ws), by rw [List.length_append, hw]; rfl, chain_snoc hc wok.1 wok.2, rfl, ?_⟩
      rw [endP_snoc, endO_snoc, List.map_append, befD_snoc]
      rfl
  case after =>
    subst hI
    rw [rgD_len] at hw
    have hn6 : e6.isOwn = false ∧ e7.isOwn = false := by
      unfold noOwn at hn
      simpa using hn
    have ve := chain_end vs hc
    have hwl : 1 ≤ ws.length := by omega
    have okl : ∀ w ∈ ws, VW "ab" ps.length w := chain_vw hc
    have n4 := vs.hps
    have n1 := vs.hps1
    have lkw : ∀ w ∈ ws, (noNl (writeL w) = true ∧ (writeL w).length ≤ 100) ∧ 0 < (writeL w).length := fun w hw => (lk_write n4 (okl w hw)).2
    have fineL : ∀ x ∈ ws.map writeL, noNl x = true ∧ x.length ≤ 100 := fun x hx => by
      obtain ⟨w, hw, rfl⟩ := List.mem_map.mp hx
      exact (lkw w hw).1
    have lenL : (ws.map writeL).length = ws.length := List.length_map ..
    refine dssc_freeze 4 (d := .lst (ws.map Wr.d)) rfl (dssc_freeze 5 (d := .lst (befD ps od ws)) rfl ?_)
    refine dssc_cons (dsc_pl (ds_lcV 8 (own := [("_law_write_here", 16)]) scWR.nd (by decide +kernel) (ds := ((ws.map writeL).map lineN).map DV.str) (EvL.is (rL.ev (is := [16]) (di_l (ds := ws.map Wr.d) (de_v 4)) (by rw [List.length_map]; omega) (by decide)
      (fun d => [.val D, .val (.int (i : Int)), .val (fileD C "ab" ps od pp op tn), .val (stD (endP ps ws) (endO od ws)), .val (.lst (ws.map Wr.d)), .val (.lst (befD ps od ws)), e6, e7, .un, .un, .un, .un, .un, .un, .un, .un, .val d, .un, .un]) (fun _ => true) (fun d => match d with | .tup [.str _, .tup o] => .str (lineN (writeL (Wr.order (o.map fun d => match d with | .int i => i.toNat | _ => 0)))) | .tup [.str _, .int b, .str p] => .str (lineN (writeL (Wr.piece b.toNat p))) | _ => .non) (fun d hd => dg_n 16 scWR.nd) (fun d hd => dts_nil) (fun d hd _ => ?_)) ?_) ?_))
    · obtain ⟨w, hw, rfl⟩ := List.mem_map.mp hd
      have := (lkw w hw).1.2
      refine DE.is (de_addS (i := writeL w) (j := "\n") (by show _ + 1 ≤ _; omega) (de_call Wl (da_cons (de_v 16) da_nil) ⟨w, okL_vw (okl w hw) n4, rfl, rfl⟩) de_str) ?_
      rw [← lineN_eq]
      cases w with
      | piece b p => rfl
      | order o =>
        show _ = DV.str (lineN (writeL (Wr.order ((odD o).map _))))
        congr 3
        unfold odD
        rw [List.map_map]
        exact congrArg Wr.order ((List.map_id o).symm.trans (List.map_congr_left fun b _ => (Int.toNat_natCast b).symm))
    · rw [filt, List.map_map, List.map_map, List.map_map]
      refine List.map_congr_left fun w _ => ?_
      cases w with
      | piece b p => rfl
      | order o =>
        show DV.str (lineN (writeL (Wr.order ((odD o).map _)))) = _
        show _ = DV.str (lineN (writeL (Wr.order o)))
        congr 3
        unfold odD
        rw [List.map_map]
        exact congrArg Wr.order ((List.map_id o).symm.trans (List.map_congr_left fun b _ => (Int.toNat_natCast b).symm)).symm
    obtain ⟨sp, hsp, hspl⟩ := emod_nat (a := numOf xs (i + 11)) (n := ws.length) (by omega)
    have hL9 : ∀ x ∈ ws.map writeL, x.length ≤ 100 := fun x hx => (fineL x hx).2
    refine dssc_cons (dsc_pl (ds_asgS (d := .tup [.str (txtOf (ws.map writeL) ""), .int (sp : Int)]) (de_tup (da_cons (de_joinT de_str (de_v 8) hL9 (by omega)) (da_cons (DE.is (de_mod (i := numOf xs (i + 11)) (j := ((ws.map Wr.d).length : Int)) (by rw [List.length_map]; omega) (de_intOf B.int (de_call Nu (da_cons (de_v 0) (da_cons (de_add (de_v 1) de_int) da_nil)) ⟨D, xs, i + 11, hD, hx, by omega, rfl, rfl⟩)) (de_len B.len (ds := ws.map Wr.d) rfl (de_v 4))) (by rw [List.length_map, hsp])) da_nil))) (dg_tup (dgs_cons (dg_n 9 scWR.nd) (dgs_cons (dg_n 10 scWR.nd) dgs_nil))) ?_))
    have tlen : ∀ (V : List Str) (r : Str), (∀ w ∈ V, w.length ≤ 100) → V.length ≤ 20 → r.length ≤ 100 → (txtOf V r).length ≤ 3000 := fun V r hv hl hr => by
      rw [txt_len]
      have : (V.map (·.length)).sum ≤ (V.map (·.length)).length * 100 := sum_le fun x hx => by
        rw [List.mem_map] at hx
        obtain ⟨w, hw, rfl⟩ := hx
        exact hv w hw
      rw [List.length_map] at this
      omega
    have sumW : termL (ws.map writeL) = txtOf (ws.map writeL) "" := join_txt _
    refine dssc_cons (dsc_pl (ds_if (x := false) (DT.is (dt_w (dw_or (dt_neS (i := termL (ws.map writeL)) (j := txtOf (ws.map writeL) "") (de_call Wt (da_cons (de_v 2) (da_cons (de_v 4) da_nil)) ⟨"ab", ps, od, pp, op, tn, _, ws, vs, hc, by omega, .inl rfl, rfl, rfl⟩) (de_v 9)) fun _ => dw_or1 (dt_neS (i := termL (ws.map writeL)) (j := txtOf (ws.map writeL) "") (de_call Wt (da_cons (de_v 2) (da_cons (de_tupleOf B.tuple (da := .lst (ws.map Wr.d)) rfl (de_v 4)) da_nil)) ⟨"ab", ps, od, pp, op, tn, _, ws, vs, hc, by omega, .inr rfl, rfl, rfl⟩) (de_v 9)))) (by rw [sumW]; simp)) (fun z => by cases z) fun _ => dss_nil ?_))
    have okws : (DV.lst (ws.map Wr.d)).ok = true := ok_wrs (.inl rfl) okl
    have rdO : ∀ (V : List Str) (r : Str), (∀ x ∈ V, noNl x = true ∧ x.length ≤ 100) → (noNl r = true ∧ r.length ≤ 100) → V.length ≤ 20 → R_readw C CT [fileD C "ab" ps od pp op tn, .str (txtOf V r)] (readW CT "ab" ps od V r) := fun V r hv hr hl =>
      ⟨ps, od, pp, op, tn, _, vs, rfl, .inr ⟨_, V, r, rfl, Nat.le_trans (tlen V r (fun w hw => (hv w hw).2) hl hr.2) (by decide), by omega, txt_split (fun w hw => (hv w hw).1) hr.1, rfl⟩⟩
    have nil_ok : noNl ("" : Str) = true ∧ ("" : Str).length ≤ 100 := ⟨rfl, by decide⟩
    have rAll : R_readw C CT [fileD C "ab" ps od pp op tn, .str (txtOf (ws.map writeL) "")] (.val (.lst (ws.map Wr.d))) := by
      have := rdO (ws.map writeL) "" fineL nil_ok (by omega)
      rwa [readW_all vs hc] at this
    have rNil : R_readw C CT [fileD C "ab" ps od pp op tn, .str ""] (.val (.lst [])) := by
      have := rdO [] "" (fun x hx => by cases hx) nil_ok (by decide)
      have e := readW_all (CT := CT) vs (ws := []) trivial
      rw [show ([] : List Wr).map writeL = [] from rfl] at e
      rw [e] at this
      exact this
    refine dssc_cons (dsc_pl (ds_if (x := false) (DT.is (dt_neD okws okws (de_call RW.v (da_cons (de_v 2) (da_cons (de_v 9) da_nil)) rAll) (de_v 4)) (by rw [eqv_self okws]; rfl)) (fun z => by cases z) fun _ => dss_nil ?_))
    refine dssc_cons (dsc_pl (ds_if (x := false) (DT.is (dt_w (dw_or (dt_neD (da := .lst []) (db := .lst []) (by decide +kernel) (by decide +kernel) (de_call RW.v (da_cons (de_v 2) (da_cons de_str da_nil)) rNil) (DL.de (dl_lst da_nil))) fun _ => dw_or1 (dt_neS (i := termL []) (j := "") (de_call Wt (da_cons (de_v 2) (da_cons (DL.de (dl_lst da_nil)) da_nil)) ⟨"ab", ps, od, pp, op, tn, .lst [], [], vs, trivial, by decide, .inl rfl, rfl, rfl⟩) de_str))) (by decide +kernel)) (fun z => by cases z) fun _ => dss_nil ?_))
    have hbef : (befD ps od ws)[sp]? = some (stD (endP ps (ws.take sp)) (endO od (ws.take sp))) := by
      unfold befD
      rw [List.getElem?_map, List.getElem?_range hspl]
      rfl
    have fT : ∀ x ∈ (ws.map writeL).take sp, noNl x = true ∧ x.length ≤ 100 := fun x hx => fineL x (List.mem_of_mem_take hx)
    have lT : ((ws.map writeL).take sp).length ≤ 9 := by rw [List.length_take]; omega
    refine dssc_cons (dsc_pl (ds_asgS (d := .tup [stD (endP ps (ws.take sp)) (endO od (ws.take sp)), .str (txtOf ((ws.map writeL).take sp) "")]) (de_tup (da_cons (de_ixL (i := (sp : Int)) (atI_nat hbef) (de_v 5) (de_v 10)) (da_cons (de_joinT de_str (DE.is (de_slL (de_v 8) dp_none (dp_some (de_v 10))) (by rw [cutG_to (by rw [List.length_map, List.length_map]; omega), ← List.map_take, ← List.map_take])) (fun x hx => (fT x hx).2) (by omega)) da_nil))) (dg_tup (dgs_cons (dg_n 11 scWR.nd) (dgs_cons (dg_n 12 scWR.nd) dgs_nil))) ?_))
    obtain ⟨w, hw⟩ : ∃ w, ws[sp]? = some w := ⟨ws[sp], List.getElem?_eq_getElem hspl⟩
    have wm := List.mem_of_getElem? hw
    have wl := (lkw w wm).1.2
    have vsp := chain_end vs (chain_takeN ws ps od sp hc)
    have eP : (endP ps (ws.take sp)).length = ps.length := endP_lenN _ _
    have vwP : VW "ab" (endP ps (ws.take sp)).length w := by rw [eP]; exact okl w wm
    have bok : ∀ b ∈ badsW ps.length (oldP (endP ps (ws.take sp)) 0) (endO od (ws.take sp)) (writeL w), stopW ps.length (endP ps (ws.take sp)) (endO od (ws.take sp)) b ∧ noNl b = true ∧ b.length ≤ 100 := fun b hb => by
      have := badsW_ok vsp vwP b (by rw [eP]; exact hb)
      rwa [eP] at this
    have lo := orderW_len vsp.hod vsp.b4
    have p0 : (endP ps (ws.take sp))[0]? = some (oldP (endP ps (ws.take sp)) 0) := get_piece (by rw [eP]; omega)
    have p0l : (oldP (endP ps (ws.take sp)) 0).length ≤ 2 := vsp.p2 _ (List.mem_of_getElem? p0)
    have pwl := pieceW_len (m := 4) (p := oldP (endP ps (ws.take sp)) 0) (by omega) (by decide)
    have rd : ∀ b ∈ badsW ps.length (oldP (endP ps (ws.take sp)) 0) (endO od (ws.take sp)) (writeL w), R_readw C CT [fileD C "ab" ps od pp op tn, .str (txtOf (putL (ws.map writeL) sp b) "")] (badRow CT sp) := fun b hb => by
      have bk := bok b hb
      have lp : sp < (ws.map writeL).length := by omega
      have pg := putL_get (b := b) lp
      have fP : ∀ x ∈ putL (ws.map writeL) sp b, noNl x = true ∧ x.length ≤ 100 := fun x hx => by
        rcases List.mem_append.mp hx with hx | hx
        · rcases List.mem_append.mp hx with hx | hx
          · exact fT x hx
          · rw [List.mem_singleton.mp hx]; exact bk.2
        · exact fineL x (List.mem_of_mem_drop hx)
      have lQ : (putL (ws.map writeL) sp b).length ≤ 20 := by
        unfold putL
        rw [List.length_append, List.length_append, List.length_drop]
        show _ + 1 + _ ≤ _
        omega
      have := rdO (putL (ws.map writeL) sp b) "" fP nil_ok lQ
      rwa [readW_bad vs hc (at_ := sp) (by omega) (fun j v hj hv => by rw [pg.1 j hj, List.getElem?_map, hv]; rfl) (fun x hx => by rw [pg.2] at hx; cases hx; exact bk.1) (.inl (List.getElem?_eq_some_iff.mp pg.2).1)] at this
    generalize hP : endP ps (ws.take sp) = PP at *
    generalize hO : endO od (ws.take sp) = OO at *
    have lat : ∀ {ρ : Rho} {p2 p3 pos : Pos}, ρ[8]? = some (.val (.lst (((ws.map writeL).map lineN).map DV.str))) → ρ[10]? = some (.val (.int (sp : Int))) → DE g ⟨8, wrN, defScope s__law_writes_right, fun _ => true, true, none⟩ (.Subscript (.Name "_law_lines_here" p2) (.Name "_law_spot" p3) pos) ρ (.str (lineN (writeL w))) := fun {ρ p2 p3 pos} r1 r6 =>
      de_ixL (i := (sp : Int)) (sec_at (by rw [List.getElem?_map, List.getElem?_map, List.getElem?_map, hw]; rfl)) (de_v 8 r1) (de_v 10 r6)
    have nl1 : ∀ x : Str, x ++ ("\n" : Str) = lineN x := fun x => (lineN_eq x).symm
    refine dssc_cons (dsc_pl (ds_set 13 scWR.nd (d := lnsD (wA (writeL w))) (DL.de (dl_lst (da_cons (DE.is de_str (congrArg DV.str (by decide +kernel))) (da_cons (DE.is (de_addS (i := " ") (j := lineN (writeL w)) (by rw [lineN_len]; show 1 + _ ≤ _; omega) de_str (lat rfl rfl)) (by rw [lineN_eq, ← app_assoc, nl1])) (da_cons (DE.is de_str (congrArg DV.str (by decide +kernel))) (da_cons (DE.is de_str (congrArg DV.str (by decide +kernel))) da_nil)))))) ?_))
    have lit : ∀ {ρ : Rho} {x y : Str} {j : Nat} {pos : Pos}, y = lineN x → DE g ⟨8, wrN, defScope s__law_writes_right, fun _ => true, true, none⟩ (.Constant (.str y) j pos) ρ (.str (lineN x)) := fun {ρ x y j pos} h => DE.is de_str (congrArg DV.str h)
    refine dssc_cons (dsc_pl (ds_set 13 scWR.nd (d := lnsD (wA (writeL w) ++ wB)) (DE.is (de_catL (i := (wA (writeL w)).map fun b => DV.str (lineN b)) (j := wB.map fun b => DV.str (lineN b)) (by show 4 + 5 ≤ 100000; decide) (de_v 13) (DL.de (dl_lst (da_cons (lit (by decide +kernel)) (da_cons (lit (by decide +kernel)) (da_cons (lit (by decide +kernel)) (da_cons (lit (by decide +kernel)) (da_cons (lit (by decide +kernel)) da_nil)))))))) (by rw [← List.map_append])) ?_))
    refine dssc_cons (dsc_pl (ds_set 13 scWR.nd (d := lnsD ((wA (writeL w) ++ wB) ++ wC)) (DE.is (de_catL (i := (wA (writeL w) ++ wB).map fun b => DV.str (lineN b)) (j := wC.map fun b => DV.str (lineN b)) (by show 9 + 4 ≤ 100000; decide) (de_v 13) (DL.de (dl_lst (da_cons (lit (by decide +kernel)) (da_cons (lit (by decide +kernel)) (da_cons (lit (by decide +kernel)) (da_cons (lit (by decide +kernel)) da_nil))))))) (by rw [← List.map_append])) ?_))
    refine dssc_cons (dsc_pl (ds_set 13 scWR.nd (d := lnsD (((wA (writeL w) ++ wB) ++ wC) ++ wD)) (DE.is (de_catL (i := ((wA (writeL w) ++ wB) ++ wC).map fun b => DV.str (lineN b)) (j := wD.map fun b => DV.str (lineN b)) (by show 13 + 3 ≤ 100000; decide) (de_v 13) (DL.de (dl_lst (da_cons (lit (by decide +kernel)) (da_cons (lit (by decide +kernel)) (da_cons (lit (by decide +kernel)) da_nil)))))) (by rw [← List.map_append])) ?_))
    refine dssc_cons (dsc_pl (ds_set 13 scWR.nd (d := lnsD ((((wA (writeL w) ++ wB) ++ wC) ++ wD) ++ wE OO (oldP PP 0))) (DE.is (de_catL (i := (((wA (writeL w) ++ wB) ++ wC) ++ wD).map fun b => DV.str (lineN b)) (j := (wE OO (oldP PP 0)).map fun b => DV.str (lineN b)) (by show 16 + 2 ≤ 100000; decide) (de_v 13) (DL.de (dl_lst (da_cons ?e1 (da_cons ?e2 da_nil))))) (by rw [← List.map_append])) ?_))
    case e1 => exact DE.is (de_addS (i := ("order " : Str) ++ orderW OO) (j := "\n") (by rw [len_app]; show 6 + _ + 1 ≤ _; omega) (de_addS (i := "order ") (j := orderW OO) (by show 6 + _ ≤ _; omega) de_str (de_call LO (da_cons (de_ixT (d := .tup (odD OO)) rfl (de_v 11) de_int) da_nil) ⟨OO, vsp.hod, vsp.b4, rfl, rfl⟩)) de_str) (congrArg DV.str (nl1 _))
    case e2 => exact DE.is (de_addS (i := ("piece 0 " : Str) ++ pieceW (oldP PP 0)) (j := "\n") (by rw [len_app]; show 8 + _ + 1 ≤ _; omega) (de_addS (i := "piece 0 ") (j := pieceW (oldP PP 0)) (by show 8 + _ ≤ _; omega) de_str (de_call LP (da_cons (de_ixT (i := 0) (d := .str (oldP PP 0)) (show atI _ ((0 : Nat) : Int) = _ from sec_at (psD_get p0)) (de_ixT (d := .tup (psD PP)) rfl (de_v 11) de_int) de_int) da_nil) ⟨_, by omega, rfl, rfl⟩)) de_str) (congrArg DV.str (nl1 _))
    refine dssc_cons (dsc_pl (ds_set 13 scWR.nd (d := lnsD (((((wA (writeL w) ++ wB) ++ wC) ++ wD) ++ wE OO (oldP PP 0)) ++ wF (writeL w))) (DE.is (de_catL (i := ((((wA (writeL w) ++ wB) ++ wC) ++ wD) ++ wE OO (oldP PP 0)).map fun b => DV.str (lineN b)) (j := (wF (writeL w)).map fun b => DV.str (lineN b)) (by show 18 + 1 ≤ 100000; decide) (de_v 13) (DL.de (dl_lst (da_cons ?f1 da_nil)))) (by rw [← List.map_append])) ?_))
    case f1 => exact de_ln (x := writeL w) " " " \n" (by decide) (by omega) (by decide) (DE.is (de_slS (z := lineN (writeL w)) (by rw [lineN_len]; omega) (lat rfl rfl) dp_none (dp_some (de_neg de_int))) (congrArg DV.str (cut_line _)))
    have bE : badsW ps.length (oldP PP 0) OO (writeL w) = (((((wA (writeL w) ++ wB) ++ wC) ++ wD) ++ wE OO (oldP PP 0)) ++ wF (writeL w)) ++ (if ps.length < 4 then wG ps.length else []) := by
      unfold badsW
      rfl
    generalize hBB : (((((wA (writeL w) ++ wB) ++ wC) ++ wD) ++ wE OO (oldP PP 0)) ++ wF (writeL w)) = BB at bE ⊢
    have lB : BB.length = 19 := by rw [← hBB]; rfl
    have sn := strI_nat ps.length (by omega)
    have lenE : ∀ {ρ : Rho} {p p2 pos : Pos}, ρ[2]? = some (.val (fileD C "ab" ps od pp op tn)) → DE g ⟨8, wrN, defScope s__law_writes_right, fun _ => true, true, none⟩ (.Call (.Name "len" p) [.Attribute (.Name "_law_file_here" p2) "pieces" pos] [] pos) ρ (.int (ps.length : Int)) := fun {ρ p p2 pos} r => DE.is (de_len B.len (ds := psD ps) rfl (de_ps L Pf (de_v 2 r))) (by rw [psD_len])
    refine dssc_cons (dsc_of (E' := { nx := fun ρ' => ρ' = wrR D i (fileD C "ab" ps od pp op tn) (endP ps ws) (endO od ws) ws (befD ps od ws) e6 e7 (ws.map writeL) sp (.val (stD PP OO)) (.val (.str (txtOf ((ws.map writeL).take sp) ""))) (.val (lnsD (badsW ps.length (oldP PP 0) OO (writeL w)))) .un .un }) (.of (ds_if (x := decide ((ps.length : Int) < 4)) (dt_ltI (DE.is (de_len B.len (ds := psD ps) rfl (de_ps L Pf (de_v 2))) (by rw [psD_len])) de_int) (fun h => ?g1) (fun h => ?g2))) ?g3 (fun _ z => z) (fun _ z => z.elim) (fun _ z => z.elim))
    case g1 =>
      have lt : ps.length < 4 := by simp at h; omega
      rw [if_pos lt] at bE
      refine dss_one (ds_set 13 scWR.nd (d := lnsD (badsW ps.length (oldP PP 0) OO (writeL w))) (DE.is (de_catL (i := BB.map fun b => DV.str (lineN b)) (j := (wG ps.length).map fun b => DV.str (lineN b)) (by rw [List.length_map, lB]; show 19 + 2 ≤ 100000; decide) (de_v 13) (DL.de (dl_lst (da_cons ?h1 (da_cons ?h2 da_nil))))) (by rw [bE, ← List.map_append])) rfl)
      case h1 => exact de_ln (x := ("piece " : Str) ++ strI (ps.length : Int)) " a" " a\n" (by decide) (by rw [len_app, sn.1]; decide) (by decide) (de_addS (i := "piece ") (j := strI (ps.length : Int)) (by rw [sn.1]; decide) de_str (de_strI hstr sn.2 (DE.is (de_len B.len (ds := psD ps) rfl (de_ps L Pf (de_v 2))) (by rw [psD_len]))))
      case h2 => exact DE.is (de_addS (i := ("order 0 " : Str) ++ strI (ps.length : Int)) (j := "\n") (by rw [len_app, sn.1]; decide) (de_addS (i := "order 0 ") (j := strI (ps.length : Int)) (by rw [sn.1]; decide) de_str (de_strI hstr sn.2 (DE.is (de_len B.len (ds := psD ps) rfl (de_ps L Pf (de_v 2))) (by rw [psD_len])))) de_str) (congrArg DV.str (nl1 _))
    case g2 =>
      have lt : ¬ ps.length < 4 := by simp at h; omega
      rw [if_neg lt, List.append_nil] at bE
      exact dss_nil (by rw [bE]; rfl)
    rintro ρ rfl
    have fD : ∀ x ∈ (ws.map writeL).drop (sp + 1), noNl x = true ∧ x.length ≤ 100 := fun x hx => fineL x (List.mem_of_mem_drop hx)
    have lD : ((ws.map writeL).drop (sp + 1)).length ≤ 9 := by rw [List.length_drop]; omega
    refine dssc_cons (dsc_pl (ds_set 14 scWR.nd (d := .str (txtOf ((ws.map writeL).drop (sp + 1)) "")) (de_joinT de_str (DE.is (de_slL (de_v 8) (dp_some (de_add (de_v 10) de_int)) dp_none) (by rw [show ((sp : Int) + 1) = ((sp + 1 : Nat) : Int) by omega, cutG_from, ← List.map_drop, ← List.map_drop])) (fun x hx => (fD x hx).2) (by omega)) ?_))
    have tT := tlen ((ws.map writeL).take sp) "" (fun x hx => (fT x hx).2) (by omega) nil_ok.2
    have tD := tlen ((ws.map writeL).drop (sp + 1)) "" (fun x hx => (fD x hx).2) (by omega) nil_ok.2
    have putE : ∀ b : Str, (txtOf ((ws.map writeL).take sp) "" ++ lineN b) ++ txtOf ((ws.map writeL).drop (sp + 1)) "" = txtOf (putL (ws.map writeL) sp b) "" := fun b => by
      rw [← txt_snoc, txt_add]
      unfold putL txtOf
      rw [List.map_append, List.map_append, List.map_append, catS_app, catS_app, catS_app, show ("" : Str) = (⟨#[]⟩ : Str) from rfl, app_nil, app_nil]
    have noE : noOwn (wrR D i (fileD C "ab" ps od pp op tn) (endP ps ws) (endO od ws) ws (befD ps od ws) e6 e7 (ws.map writeL) sp (.val (stD PP OO)) (.val (.str (txtOf ((ws.map writeL).take sp) ""))) (.val (lnsD (badsW ps.length (oldP PP 0) OO (writeL w)))) (.val (.str (txtOf ((ws.map writeL).drop (sp + 1)) ""))) .un) = true := by
      unfold noOwn
      simp only [List.all_cons, List.all_nil, hn6.1, hn6.2]; rfl
    refine dssc_cons (dsc_if (x := false) (DTC.is (dtc_not (x := true) (dtc_e (dec_k (DEK.is (dek_all (bs := (badsW ps.length (oldP PP 0) OO (writeL w)).map fun _ => true) B.all (DEK.is (dek_lc (is := [17]) (own := [("_law_one", 17)]) scWR.nd (by decide +kernel) (di_l (ds := (badsW ps.length (oldP PP 0) OO (writeL w)).map fun b => DV.str (lineN b)) (de_v 13)) ?i1 (by decide) noE
      (fun d => [.val D, .val (.int (i : Int)), .val (fileD C "ab" ps od pp op tn), .val (stD (endP ps ws) (endO od ws)), .val (.lst (ws.map Wr.d)), .val (.lst (befD ps od ws)), e6, e7, .val (.lst (((ws.map writeL).map lineN).map DV.str)), .val (.str (txtOf (ws.map writeL) "")), .val (.int (sp : Int)), .val (stD PP OO), .val (.str (txtOf ((ws.map writeL).take sp) "")), .val (lnsD (badsW ps.length (oldP PP 0) OO (writeL w))), .val (.str (txtOf ((ws.map writeL).drop (sp + 1)) "")), .un, .un, .val d, .un]) ?i2 (fun _ => .bl true) (fun d hd => dg_n 17 scWR.nd) (fun d hd => ?i3)) ?i4)) ?i5)))) (by decide)) (fun z => by cases z) fun _ => dssc_nil ?_)
    case i1 =>
      rw [List.length_map, bE, List.length_append, lB]
      split
      · show 19 + 2 ≤ 100000; decide
      · show 19 + 0 ≤ 100000; decide
    case i2 =>
      intro d hd
      unfold noOwn
      simp only [List.all_cons, List.all_nil, hn6.1, hn6.2]; rfl
    case i3 =>
      obtain ⟨b, hb, rfl⟩ := List.mem_map.mp hd
      have bk := bok b hb
      refine DEK.is (dek_eqD (da := .tup [.int (sp : Int)]) (db := .tup [.int (sp : Int)]) (ok_odD [sp]) (ok_odD [sp]) (dek_lam (k := 6) (it := "_law_it") (o := badRow CT sp) (d2 := .str (txtOf (putL (ws.map writeL) sp b) "")) R TB hm hu (by unfold noOwn; simp only [List.all_cons, List.all_nil, hn6.1, hn6.2]; rfl) (DE.is (de_addS (i := txtOf ((ws.map writeL).take sp) "" ++ lineN b) (j := txtOf ((ws.map writeL).drop (sp + 1)) "") (by rw [len_app, lineN_len]; omega) (de_addS (i := txtOf ((ws.map writeL).take sp) "") (j := lineN b) (by rw [lineN_len]; omega) (de_v 12) (de_v 17)) (de_v 14)) (congrArg DV.str (putE b))) (EvX.of (dez_call RW (da_cons (de_v 2) (da_cons (de_v 19) da_nil)) (rd b hb))) (.inr ⟨sp, rfl⟩)) (de_tup (da_cons (de_v 10) da_nil))) ?_
      show DV.bl ((DV.tup (odD [sp])).eqv (.tup (odD [sp]))) = _
      rw [eqv_odD]
      simp
    case i4 => rw [List.map_map, List.map_map]; rfl
    case i5 =>
      congr 1
      rw [List.all_map]
      exact List.all_eq_true.mpr fun _ _ => rfl
    obtain ⟨wz, hwz⟩ : ∃ w, ws[ws.length - 1]? = some w := ⟨ws[ws.length - 1], List.getElem?_eq_getElem (by omega)⟩
    have lz := lkw wz (List.mem_of_getElem? hwz)
    have LSt : ws.map writeL = (ws.map writeL).take (ws.length - 1) ++ [writeL wz] := take_last (by rw [List.getElem?_map, hwz]; rfl) (by omega)
    have tW := tlen (ws.map writeL) "" hL9 (by omega) nil_ok.2
    have lenLs : ∀ {ρ : Rho} {p p2 pos : Pos}, ρ[8]? = some (.val (.lst (((ws.map writeL).map lineN).map DV.str))) → DE g ⟨8, wrN, defScope s__law_writes_right, fun _ => true, true, none⟩ (.Call (.Name "len" p) [.Name "_law_lines_here" p2] [] pos) ρ (.int (ws.length : Int)) := fun {ρ p p2 pos} r => DE.is (de_len B.len (ds := ((ws.map writeL).map lineN).map DV.str) rfl (de_v 8 r)) (by rw [List.length_map, List.length_map, lenL])
    refine dssc_cons (dsc_pl (ds_set 15 scWR.nd (d := .lst ((zA (ws.map writeL) ws.length (writeL wz)).map endD)) (DL.de (dl_lst (da_cons ?b1 (da_cons ?b2 (da_cons ?b3 da_nil))))) ?_))
    case b1 => exact de_tup (da_cons (DE.is (de_addS (i := txtOf (ws.map writeL) "") (j := "piece") (by show _ + 5 ≤ _; omega) (de_v 9) de_str) (congrArg DV.str (txt_add _ _))) (da_cons (de_tup (da_cons (lenLs rfl) da_nil)) da_nil))
    case b2 => exact de_tup (da_cons (DE.is (de_slS (z := txtOf (ws.map writeL) "") (by omega) (de_v 9) dp_none (dp_some (de_neg de_int))) (by
        show DV.str (L2.cutS (txtOf (ws.map writeL) "") none (some (-1))) = _
        conv => lhs; rw [LSt]
        rw [cut_nl])) (da_cons (de_tup (da_cons (DE.is (de_sub (lenLs rfl) de_int) (by congr 1; omega)) da_nil)) da_nil))
    case b3 => exact de_tup (da_cons de_non (da_cons (de_tup (da_cons de_int da_nil)) da_nil))
    refine dssc_cons (dsc_pl (ds_set 15 scWR.nd (d := .lst ((zA (ws.map writeL) ws.length (writeL wz) ++ zB).map endD)) (DE.is (de_catL (i := (zA (ws.map writeL) ws.length (writeL wz)).map endD) (j := zB.map endD) (by show 3 + 2 ≤ 100000; decide) (de_v 15) (DL.de (dl_lst (da_cons (de_tup (da_cons de_int (da_cons (de_tup (da_cons de_int da_nil)) da_nil))) (da_cons (de_tup (da_cons de_str (da_cons (de_tup (da_cons de_int da_nil)) da_nil))) da_nil))))) (by rw [← List.map_append])) ?_))
    have hes : ∀ x ∈ zA (ws.map writeL) ws.length (writeL wz) ++ zB, R_readw C CT [fileD C "ab" ps od pp op tn, x.1] (badRow CT x.2) := fun x hx => by
      rcases List.mem_append.mp hx with hx | hx
      · simp only [List.mem_cons, List.not_mem_nil, or_false] at hx
        rcases hx with rfl | rfl | rfl
        · have := rdO (ws.map writeL) "piece" fineL ⟨by decide +kernel, by decide⟩ (by omega)
          rwa [readW_bad vs hc (at_ := ws.length) (Nat.le_refl _) (fun j v _ hv => by rw [List.getElem?_map, hv]; rfl) (fun x hx => by rw [List.getElem?_eq_none (by omega)] at hx; cases hx) (.inr (by decide))] at this
        · have := rdO ((ws.map writeL).take (ws.length - 1)) (writeL wz) (fun x hx => fineL x (List.mem_of_mem_take hx)) lz.1 (by rw [List.length_take]; omega)
          rwa [readW_bad vs hc (at_ := ws.length - 1) (by omega) (fun j v hj hv => by rw [List.getElem?_take, if_pos hj, List.getElem?_map, hv]; rfl) (fun x hx => by rw [List.getElem?_eq_none (by rw [List.length_take]; omega)] at hx; cases hx) (.inr (fun z => by have := lz.2; rw [z] at this; exact absurd this (by decide)))] at this
        · exact ⟨ps, od, pp, op, tn, _, vs, rfl, .inl ⟨.inl rfl, rfl⟩⟩
      · simp only [List.mem_cons, List.not_mem_nil, or_false] at hx
        rcases hx with rfl | rfl
        · exact ⟨ps, od, pp, op, tn, _, vs, rfl, .inl ⟨.inr ⟨5, rfl⟩, rfl⟩⟩
        · have := rdO [] "x" (fun x hx => by cases hx) ⟨by decide +kernel, by decide⟩ (by decide)
          rw [readW_bad vs hc (L := []) (rest := "x") (at_ := 0) (Nat.zero_le _) (fun j v hj _ => absurd hj (Nat.not_lt_zero _)) (fun x hx => by cases hx) (.inr (by decide))] at this
          rw [show txtOf [] "x" = ("x" : Str) by decide +kernel] at this
          exact this
    have lES : (zA (ws.map writeL) ws.length (writeL wz) ++ zB).length = 5 := rfl
    generalize zA (ws.map writeL) ws.length (writeL wz) ++ zB = ES at *
    refine dssc_one (dsc_ret (DEC.is (dec_k (dek_all (bs := ES.map fun _ => true) B.all (DEK.is (dek_lc (is := [17, 18]) (own := [("_law_one", 17), ("_law_row_here", 18)]) scWR.nd (by decide +kernel) (di_l (ds := ES.map endD) (de_v 15)) (by rw [List.length_map]; omega) (by decide) ?k0
      (fun d => match d with | .tup [v, r] => [.val D, .val (.int (i : Int)), .val (fileD C "ab" ps od pp op tn), .val (stD (endP ps ws) (endO od ws)), .val (.lst (ws.map Wr.d)), .val (.lst (befD ps od ws)), e6, e7, .val (.lst (((ws.map writeL).map lineN).map DV.str)), .val (.str (txtOf (ws.map writeL) "")), .val (.int (sp : Int)), .val (stD PP OO), .val (.str (txtOf ((ws.map writeL).take sp) "")), .val (lnsD (badsW ps.length (oldP PP 0) OO (writeL w))), .val (.str (txtOf ((ws.map writeL).drop (sp + 1)) "")), .val (.lst (ES.map endD)), .un, .val v, .val r] | _ => []) ?k2 (fun _ => .bl true) (fun d hd => ?k1) (fun d hd => ?k3)) ?k4))) ?k5) ⟨rfl, rfl⟩)
    case k0 =>
      unfold noOwn
      show List.all [_, _, _, _, _, _, e6, e7, _, _, _, _, _, _, _, _, _, _, _] _ = true
      simp only [List.all_cons, List.all_nil, hn6.1, hn6.2]; rfl
    case k1 =>
      obtain ⟨x, hx, rfl⟩ := List.mem_map.mp hd
      exact dg_tup (dgs_cons (dg_n 17 scWR.nd) (dgs_cons (dg_n 18 scWR.nd) dgs_nil))
    case k2 =>
      intro d hd
      obtain ⟨x, hx, rfl⟩ := List.mem_map.mp hd
      unfold noOwn
      show List.all [_, _, _, _, _, _, e6, e7, _, _, _, _, _, _, _, _, _, _, _] _ = true
      simp only [List.all_cons, List.all_nil, hn6.1, hn6.2]; rfl
    case k3 =>
      obtain ⟨x, hx, rfl⟩ := List.mem_map.mp hd
      refine DEK.is (dek_eqD (da := .tup [.int (x.2 : Int)]) (db := .tup [.int (x.2 : Int)]) (ok_odD [x.2]) (ok_odD [x.2]) (dek_lam (k := 6) (it := "_law_it") (o := badRow CT x.2) (d2 := x.1) R TB hm hu ?k6 (de_v 17) (EvX.of (dez_call RW (da_cons (de_v 2) (da_cons (de_v 19) da_nil)) (hes x hx))) (.inr ⟨x.2, rfl⟩)) (de_v 18)) ?_
      case k6 =>
        unfold noOwn
        show List.all [_, _, _, _, _, _, e6, e7, _, _, _, _, _, _, _, _, _, _, _] _ = true
        simp only [List.all_cons, List.all_nil, hn6.1, hn6.2]; rfl
      show DV.bl ((DV.tup (odD [x.2])).eqv (.tup (odD [x.2]))) = _
      rw [eqv_odD]
      simp
    case k4 => rw [List.map_map, List.map_map]; rfl
    case k5 =>
      congr 1
      rw [List.all_map]
      exact List.all_eq_true.mpr fun _ _ => rfl
end SP

/-! _law_files_right. -/
namespace SP
open PySem PySem.Spec PyProof.Rows L2 PD
variable {g : Gb} {C CT fR : Addr}
theorem ok_filr (B : Bt g) (hstr : g.mg "str" = none) (L : Fl g C) (P : Fp g C) (Fe : Eo g 1 C (R_feq C)) (Ll : Fn g 3 "_law_lines" (R_llines C)) (Ft : Fn g 3 "file_text" (R_filet C)) (RF : FnZ g 6 "read_file" (R_readf C CT)) (Lr : Fn g 7 "_law_row" (R_lrow C CT fR)) (hR : g.mg "read_file" = some (.ref fR))
    {f : Addr} {fd : FuncData} (F : Fun g.K "_law_files_right" "_law_files_right" s__law_files_right f fd) : FnOkN g.P g.w g.K g.mg g.base CX0 8 1 f fd ["_law_file_here"] (spR g.K fun ds d => ∃ ps od pp op tn, VS "ab" ps od ∧ (1 ≤ pp ∧ pp ≤ 5) ∧ (1 ≤ op ∧ op ≤ 5) ∧ ds = [fileD C "ab" ps od pp op tn] ∧ d = .bl true) := by
  refine fn_okN F scFR5 (fun ds d ⟨_, _, _, _, _, _, _, _, e, _⟩ => by rw [e]; rfl) fun ds d ⟨ps, od, pp, op, tn, vs, h1, h2, e, ed⟩ => ?_
  subst e ed
  have n1 := vs.hps1
  have n4 := vs.hps
  have Wl : (linesOf "ab" ps od pp op tn).length = ps.length + 5 := lines_len
  have fineW := ln_fine (tn := tn) vs h1 h2
  have readW : readF C CT (linesOf "ab" ps od pp op tn) "" = _ := read_all vs h1 h2
  have noL := ln_noL (tn := tn) vs h1 h2
  have candW : ∀ {at_ : Nat} {w : Str}, at_ ≤ ps.length + 4 → (linesOf "ab" ps od pp op tn)[at_]? = some w → ∀ b ∈ badsF ps.length at_ w, rejF ps.length at_ b = true ∧ noNl b = true ∧ b.length ≤ 100 := fun ha h b hb => bads_ok vs h1 h2 ha h hb
  have splW : ∀ {at_ : Nat} {w : Str}, at_ ≤ ps.length + 4 → (linesOf "ab" ps od pp op tn)[at_]? = some w → Txt.split w (" " : Str) ≠ [] := fun ha h => by
    have := List.all_eq_true.mp (spl_ne n1 n4 ha) _ (ln_cand vs h1 h2 ha h)
    intro z
    rw [z] at this
    cases this
  have rput : ∀ {at_ : Nat} {b : Str}, at_ ≤ ps.length + 4 → rejF ps.length at_ b = true → readF C CT (putL (linesOf "ab" ps od pp op tn) at_ b) "" = badRow CT at_ := fun ha hb => read_put vs h1 h2 ha hb
  have rtake : ∀ {at_ : Nat} (rest : Str), at_ ≤ ps.length + 4 → readF C CT ((linesOf "ab" ps od pp op tn).take at_) rest = badRow CT at_ := fun rest ha => read_take vs h1 h2 ha
  have hft : ∀ {ρ : Rho} {e : Expr} {p pos : Pos}, True := fun {_ _ _ _} => trivial
  refine dsn_cons (.of (ds_par 1 2 scFR5.nd (d1 := .lst ((linesOf "ab" ps od pp op tn).map DV.str)) (d2 := .int (ps.length : Int)) (de_call Ll (da_cons (de_v 0) da_nil) ⟨"ab", ps, od, pp, op, tn, vs, h1, h2, rfl, rfl⟩) (DE.is (de_len B.len (ds := psD ps) rfl (de_ps L P (de_v 0))) (by rw [psD_len])) ?_))
  have sumW : termL (linesOf "ab" ps od pp op tn) = txtOf (linesOf "ab" ps od pp op tn) "" := join_txt _
  have r5 : readF C CT ([lettersL "ab"] ++ List.replicate 5 (pieceL "a") ++ (linesOf "ab" ps od pp op tn).drop (ps.length + 1)) "" = badRow CT 5 := read_five _
  have r1 : readF C CT ([lettersL "ab"] ++ (linesOf "ab" ps od pp op tn).drop (ps.length + 1)) "" = badRow CT 1 := read_short vs h1 h2
  have rmore : ∀ x : Str, readF C CT (linesOf "ab" ps od pp op tn ++ [x]) "" = badRow CT (ps.length + 5) := fun x => read_more vs h1 h2 x
  have rrest : readF C CT (linesOf "ab" ps od pp op tn) "a" = badRow CT (ps.length + 5) := read_rest vs h1 h2 (by decide)
  have W0 : (linesOf "ab" ps od pp op tn)[0]? = some (lettersL "ab") := ln0
  have Wlast : (linesOf "ab" ps od pp op tn)[ps.length + 4]? = some (tornL tn) := lnT 3
  have Wcons := lines_cons (ls := "ab") (ps := ps) (od := od) (pp := pp) (op := op) (tn := tn)
  have eqF : R_filet C [fileD C "ab" ps od pp op tn] (.str (termL (linesOf "ab" ps od pp op tn))) := ⟨"ab", ps, od, pp, op, tn, vs, h1, h2, rfl, rfl⟩
  generalize hW : linesOf "ab" ps od pp op tn = W at *
  have lenW : W.length ≤ 9 := by rw [Wl]; omega
  have lenW0 : 0 < W.length := by rw [Wl]; omega
  have tlen : ∀ (V : List Str) (r : Str), (∀ w ∈ V, w.length ≤ 100) → V.length ≤ 20 → r.length ≤ 100 → (txtOf V r).length ≤ 3000 := fun V r hv hl hr => by
    rw [txt_len]
    have : (V.map (·.length)).sum ≤ (V.map (·.length)).length * 100 := sum_le fun x hx => by
      rw [List.mem_map] at hx
      obtain ⟨w, hw, rfl⟩ := hx
      exact hv w hw
    rw [List.length_map] at this
    omega
  have hw9 : ∀ w ∈ W, w.length ≤ 100 := fun w hw => (fineW w hw).2
  have rdo : readO C CT (.str (txtOf W "")) (.val (fileD C "ab" ps od pp op tn)) := by
    have := readO_txt (C := C) (CT := CT) (ws := W) (rest := "") fineW ⟨rfl, by decide⟩ (by omega)
    rwa [readW] at this
  refine dsn_cons (.of (ds_lcV 3 (own := [("_law_word", 12)]) scFR5.nd (by decide +kernel) (ds := (W.map lineN).map DV.str) (EvL.is (rL.ev (is := [12]) (di_l (ds := W.map DV.str) (de_v 1)) (by rw [List.length_map]; omega) (by decide)
    (fun d => [.val (fileD C "ab" ps od pp op tn), .val (.lst (W.map DV.str)), .val (.int (ps.length : Int)), .un, .un, .un, .un, .un, .un, .un, .un, .un, .val d, .un]) (fun _ => true) (fun d => match d with | .str i => .str (lineN i) | _ => .non) (fun d hd => dg_n 12 scFR5.nd) (fun d hd => dts_nil) (fun d hd _ => ?_)) ?_) ?_))
  · rw [List.mem_map] at hd
    obtain ⟨w, hw, rfl⟩ := hd
    exact DE.is (de_addS (i := w) (j := "\n") (by have := hw9 w hw; show _ + 1 ≤ _; omega) (de_v 12) de_str) (congrArg DV.str (lineN_eq w).symm)
  · rw [filt, List.map_map, List.map_map]
    rfl
  refine dsn_cons (.of (ds_par 4 5 scFR5.nd (d1 := .str (txtOf W "")) (d2 := .int (W.length : Int)) (de_joinT de_str (de_v 3) hw9 (by omega)) (DE.is (de_len B.len (ds := (W.map lineN).map DV.str) rfl (de_v 3)) (by rw [List.length_map, List.length_map])) ?_))
  refine dsn_cons (.of (ds_if (x := false) (DT.is (dt_w (dw_or (dt_neS (i := termL W) (j := txtOf W "") (de_call Ft (da_cons (de_v 0) da_nil) eqF) (de_v 4)) fun _ => dw_or1 (dt_neO Fe (x := true) ⟨"ab", "ab", ps, ps, od, od, pp, pp, op, op, tn, tn, vs, vs, rfl, congrArg DV.bl (feq_self _ _ _ _ _ _).symm⟩ (de_call RF.v (da_cons (de_v 4) da_nil) ⟨.str (txtOf W ""), rfl, rdo⟩) (de_v 0)))) (by rw [sumW]; simp)) (fun z => by cases z) fun _ => dss_nil ?_))
  refine dsn_cons (dsn_for (is := [6]) (DI.is (di_r (n := W.length) B.range (by omega) (de_v 5)) (rg_rgD _)) (fun i ρ' => ∃ a b c d, ρ' = frR (fileD C "ab" ps od pp op tn) W ps.length a b c d) ⟨_, _, _, _, rfl⟩ (fun i d ρ' hd ⟨a, b, c, e, hI⟩ => ?turn) (fun ρ' ⟨a, b, c, d, hI⟩ => ?after))
  case turn =>
    subst hI
    obtain ⟨hi, rfl⟩ := rgD_at hd
    have hi4 : i ≤ ps.length + 4 := by omega
    obtain ⟨w, hw⟩ : ∃ w, W[i]? = some w := ⟨W[i], List.getElem?_eq_getElem hi⟩
    have wW := List.mem_of_getElem? hw
    have wf := fineW w wW
    have wl := wf.2
    have bok := candW hi4 hw
    have cutW : ∀ {e : Expr} {ρ : Rho} {p2 p3 pos : Pos}, ρ[3]? = some (.val (.lst ((W.map lineN).map DV.str))) → ρ[6]? = some (.val (.int (i : Int))) → DE g frL (.Subscript (.Name "_law_lines_here" p2) (.Slice none (some (.Name "_law_at" p3)) none pos) pos) ρ (.lst (((W.take i).map lineN).map DV.str)) := fun {e ρ p2 p3 pos} r3 r6 =>
      DE.is (de_slL (de_v 3 r3) dp_none (dp_some (de_v 6 r6))) (by rw [cutG_to (by rw [List.length_map, List.length_map]; omega), List.map_take, List.map_take])
    have fT : ∀ x ∈ W.take i, noNl x = true ∧ x.length ≤ 100 := fun x hx => fineW x (List.mem_of_mem_take hx)
    have lT : (W.take i).length ≤ 9 := by rw [List.length_take]; omega
    refine ⟨_, dg_n 6 scFR5.nd, ?_⟩
    refine dsn_cons (.of (ds_if (x := false) (dt_row (de_rowT Lr hR (ws := W.take i) (rest := "") (de_joinT de_str (DE.is (de_slL (de_v 3) dp_none (dp_some (de_v 6))) (by rw [cutG_to (by rw [List.length_map, List.length_map]; omega), ← List.map_take, ← List.map_take])) (fun x hx => (fT x hx).2) (by omega)) fT ⟨rfl, by decide⟩ (by omega) (rtake "" hi4)) (de_tup (da_cons (de_v 6) da_nil))) (fun z => by cases z) fun _ => dss_nil ?_))
    refine dsn_cons (.of (ds_if (x := false) (dt_row (de_rowT Lr hR (ws := W.take i) (rest := "x") (DE.is (de_addS (i := txtOf (W.take i) "") (j := "x") (by have := tlen (W.take i) "" (fun x hx => (fT x hx).2) (by omega) (by decide); show _ + 1 ≤ _; omega) (de_joinT de_str (DE.is (de_slL (de_v 3) dp_none (dp_some (de_v 6))) (by rw [cutG_to (by rw [List.length_map, List.length_map]; omega), ← List.map_take, ← List.map_take])) (fun x hx => (fT x hx).2) (by omega)) de_str) (congrArg DV.str (txt_add _ _))) fT ⟨by decide +kernel, by decide⟩ (by omega) (rtake "x" hi4)) (de_tup (da_cons (de_v 6) da_nil))) (fun z => by cases z) fun _ => dss_nil ?_))
    have wat : ∀ {ρ : Rho} {p2 p3 pos : Pos}, ρ[1]? = some (.val (.lst (W.map DV.str))) → ρ[6]? = some (.val (.int (i : Int))) → DE g frL (.Subscript (.Name "_law_words" p2) (.Name "_law_at" p3) pos) ρ (.str w) := fun {ρ p2 p3 pos} r1 r6 =>
      de_ixL (i := (i : Int)) (sec_at (by rw [List.getElem?_map, hw]; rfl)) (de_v 1 r1) (de_v 6 r6)
    have lat : ∀ {ρ : Rho} {p2 p3 pos : Pos}, ρ[3]? = some (.val (.lst ((W.map lineN).map DV.str))) → ρ[6]? = some (.val (.int (i : Int))) → DE g frL (.Subscript (.Name "_law_lines_here" p2) (.Name "_law_at" p3) pos) ρ (.str (lineN w)) := fun {ρ p2 p3 pos} r1 r6 =>
      de_ixL (i := (i : Int)) (sec_at (by rw [List.getElem?_map, List.getElem?_map, hw]; rfl)) (de_v 3 r1) (de_v 6 r6)
    have ups : (Txt.upper w).length ≤ 100 := (bok _ (by simp [badsF])).2.2
    have rps : (Txt.replace w (" " : Str) ("  " : Str)).length ≤ 100 := (bok _ (by simp [badsF])).2.2
    obtain ⟨s0, sr, es⟩ : ∃ s0 sr, Txt.split w (" " : Str) = s0 :: sr := by
      cases h : Txt.split w (" " : Str) with
      | nil => exact absurd h (splW hi4 hw)
      | cons a b => exact ⟨a, b, rfl⟩
    have s0s : s0.length ≤ 100 := (bok s0 (by simp [badsF, es])).2.2
    have nl1 : ∀ x : Str, x ++ ("\n" : Str) = lineN x := fun x => (lineN_eq x).symm
    refine dsn_cons (.of (ds_set 7 scFR5.nd (d := lnsD (bA w)) (DL.de (dl_lst (da_cons ?x1 (da_cons ?x2 (da_cons ?x3 (da_cons ?x4 (da_cons ?x5 (da_cons ?x6 da_nil)))))))) ?_))
    case x1 => exact DE.is (de_addS (i := " ") (j := lineN w) (by rw [lineN_len]; show 1 + _ ≤ _; omega) de_str (lat rfl rfl)) (by rw [lineN_eq, ← app_assoc, nl1])
    case x2 => exact de_ln (x := w) " " " \n" (by decide) (by omega) (by decide) (wat rfl rfl)
    case x3 => exact DE.is de_str (congrArg DV.str (by decide))
    case x4 => exact DE.is de_str (congrArg DV.str (by decide))
    case x5 => exact DE.is (de_addS (i := Txt.upper w) (j := "\n") (by show _ + 1 ≤ _; omega) (de_upper (by omega) (wat rfl rfl)) de_str) (congrArg DV.str (nl1 _))
    case x6 => exact de_ln (x := w) " x" " x\n" (by decide) (by omega) (by decide) (wat rfl rfl)
    refine dsn_cons (dsn_set 7 scFR5.nd (d := lnsD (bA w ++ bB w s0)) (DEN.is (den_catL (i := (bA w).map fun b => DV.str (lineN b)) (j := (bB w s0).map fun b => DV.str (lineN b)) (by show 6 + 2 ≤ 100000; decide) (.of (de_v 7)) (den_lst (dan_cons ?y1 (dan_cons ?y2 dan_nil)))) (by rw [← List.map_append])) ?_)
    case y1 => exact DEN.is (den_addS (x := Txt.replace w (" " : Str) ("  " : Str)) (y := "\n") (by show _ + 1 ≤ _; omega) (den_replC (Nat.le_refl 1) (by show w.length + (w.length + 1) * 2 ≤ _; omega) (wat rfl rfl)) (.of de_str)) (congrArg DV.str (nl1 _))
    case y2 => exact .of (DE.is (de_addS (i := s0) (j := "\n") (by show _ + 1 ≤ _; omega) (de_ixL (i := 0) (xs := DV.str s0 :: sr.map DV.str) (show atI _ ((0 : Nat) : Int) = _ from sec_at rfl) (DL.de (DL.is (dl_split (x := w) (y := " ") (by omega) (by decide) (wat rfl rfl) de_str) (by rw [es]; rfl))) de_int) de_str) (congrArg DV.str (nl1 _)))
    refine dsn_cons (.of (ds_set 7 scFR5.nd (d := lnsD ((bA w ++ bB w s0) ++ bC)) (DE.is (de_catL (i := (bA w ++ bB w s0).map fun b => DV.str (lineN b)) (j := bC.map fun b => DV.str (lineN b)) (by show 8 + 2 ≤ 100000; decide) (de_v 7) (DL.de (dl_lst (da_cons (DE.is de_str (congrArg DV.str (by decide))) (da_cons (DE.is de_str (congrArg DV.str (by decide))) da_nil))))) (by rw [← List.map_append])) ?_))
    have sn := strI_nat ps.length (by omega)
    have l2 : (if i = ps.length + 1 then bO ps.length else bPc).length ≤ 3 := by split; exact (show 2 ≤ 3 by decide); exact (show 3 ≤ 3 by decide)
    have l3 : (if ps.length < i then bT else bQ).length ≤ 4 := by split; exact (show 4 ≤ 4 by decide); exact (show 1 ≤ 4 by decide)
    refine dsn_cons (.of (ds_set 8 scFR5.nd (d := lnsD (bO ps.length)) (DL.de (dl_lst (da_cons (DE.is (de_addS (i := ("order " : Str) ++ strI (ps.length : Int)) (j := "\n") (by rw [len_app, sn.1]; decide) (de_addS (i := "order ") (j := strI (ps.length : Int)) (by rw [sn.1]; decide) de_str (de_strI hstr sn.2 (de_v 2))) de_str) (congrArg DV.str (nl1 _))) (da_cons (DE.is de_str (congrArg DV.str (by decide))) da_nil)))) ?_))
    refine dsn_cons (.of (ds_set 7 scFR5.nd (d := lnsD (((bA w ++ bB w s0) ++ bC) ++ (if i = ps.length + 1 then bO ps.length else bPc))) (DE.is (de_catL (i := ((bA w ++ bB w s0) ++ bC).map fun b => DV.str (lineN b)) (j := (if i = ps.length + 1 then bO ps.length else bPc).map fun b => DV.str (lineN b)) ?z1 (de_v 7) (de_if (x := !decide ((i : Int) = (ps.length : Int) + 1)) (dt_neI (de_v 6) (de_add (de_v 2) de_int)) (fun h => ?z2) (fun h => ?z3))) (by rw [← List.map_append])) ?_))
    case z1 => rw [List.length_map, List.length_map]; show 10 + _ ≤ 100000; omega
    case z2 =>
      have ne : ¬ i = ps.length + 1 := fun e => by rw [e] at h; simp at h
      rw [if_neg ne]
      exact DL.de (dl_lst (da_cons (DE.is de_str (congrArg DV.str (by decide))) (da_cons (DE.is de_str (congrArg DV.str (by decide))) (da_cons (DE.is de_str (congrArg DV.str (by decide))) da_nil))))
    case z3 =>
      have e : i = ps.length + 1 := by simp at h; omega
      rw [if_pos e]
      exact de_v 8
    refine dsn_cons (.of (ds_set 8 scFR5.nd (d := lnsD bT) (DL.de (dl_lst (da_cons (DE.is de_str (congrArg DV.str (by decide +kernel))) (da_cons (DE.is de_str (congrArg DV.str (by decide +kernel))) (da_cons (DE.is de_str (congrArg DV.str (by decide +kernel))) (da_cons (DE.is de_str (congrArg DV.str (by decide +kernel))) da_nil)))))) ?_))
    have bE : badsF ps.length i w = (((bA w ++ bB w s0) ++ bC) ++ (if i = ps.length + 1 then bO ps.length else bPc)) ++ (if ps.length < i then bT else bQ) := by
      unfold badsF
      rw [es]
      simp only [List.append_assoc, List.cons_append, List.nil_append, List.getD_cons_zero]
    generalize hP : (((bA w ++ bB w s0) ++ bC) ++ (if i = ps.length + 1 then bO ps.length else bPc)) = PP at bE ⊢
    have lP : PP.length ≤ 13 := by
      rw [← hP, List.length_append]
      show 10 + _ ≤ 13
      omega
    refine dsn_cons (.of (ds_set 7 scFR5.nd (d := lnsD (badsF ps.length i w)) (DE.is (de_catL (i := PP.map fun b => DV.str (lineN b)) (j := (if ps.length < i then bT else bQ).map fun b => DV.str (lineN b)) ?w1 (de_v 7) (de_if (x := decide ((ps.length : Int) < (i : Int))) (dt_gtI (de_v 6) (de_v 2)) (fun h => ?w2) (fun h => ?w3))) (by rw [bE, ← List.map_append])) ?_))
    case w1 => rw [List.length_map, List.length_map]; omega
    case w2 =>
      have lt : ps.length < i := by simp at h; omega
      rw [if_pos lt]
      exact de_v 8
    case w3 =>
      have lt : ¬ ps.length < i := by simp at h; omega
      rw [if_neg lt]
      exact DL.de (dl_lst (da_cons (DE.is de_str (congrArg DV.str (by decide +kernel))) da_nil))
    refine dsn_one (.of (ds_for (is := [9]) (di_l (ds := (badsF ps.length i w).map fun b => DV.str (lineN b)) (de_v 7)) (fun _ ρ' => ∃ c e, ρ' = frR (fileD C "ab" ps od pp op tn) W ps.length (.val (.int (i : Int))) (.val (lnsD (badsF ps.length i w))) c e) ⟨_, _, rfl⟩ (fun k d ρ' hd ⟨c, e, hI⟩ => ?inner) fun ρ' ⟨c, e, hI⟩ => ⟨_, _, _, _, hI⟩))
    case inner =>
      subst hI
      rw [List.getElem?_map] at hd
      obtain ⟨b, hb, rfl⟩ := Option.map_eq_some_iff.mp hd
      have bk := bok b (List.mem_of_getElem? hb)
      have fP : ∀ x ∈ putL W i b, noNl x = true ∧ x.length ≤ 100 := fun x hx => by
        rcases List.mem_append.mp hx with hx | hx
        · rcases List.mem_append.mp hx with hx | hx
          · exact fT x hx
          · rw [List.mem_singleton.mp hx]; exact bk.2
        · exact fineW x (List.mem_of_mem_drop hx)
      have lD : (W.drop (i + 1)).length ≤ 9 := by rw [List.length_drop]; omega
      have lQ : (putL W i b).length ≤ 20 := by
        unfold putL
        rw [List.length_append, List.length_append]
        show _ + 1 + _ ≤ _
        omega
      refine ⟨_, dg_n 9 scFR5.nd, ?_⟩
      refine dss_one (ds_if (x := false) (dt_row (de_rowT Lr hR (ws := putL W i b) (rest := "") (de_joinT de_str (DE.is (de_catL (i := ((W.take i).map lineN).map DV.str ++ [.str (lineN b)]) (j := ((W.drop (i + 1)).map lineN).map DV.str) ?v1 (de_catL (i := ((W.take i).map lineN).map DV.str) (j := [.str (lineN b)]) ?v2 (DE.is (de_slL (de_v 3) dp_none (dp_some (de_v 6))) ?v3) (DL.de (dl_lst (da_cons (de_v 9) da_nil)))) (DE.is (de_slL (de_v 3) (dp_some (de_add (de_v 6) de_int)) dp_none) ?v4)) ?v5) (fun x hx => (fP x hx).2) (by omega)) fP ⟨rfl, by decide⟩ (by omega) (rput hi4 bk.1)) (de_tup (da_cons (de_v 6) da_nil))) (fun z => by cases z) fun _ => dss_nil ⟨_, _, rfl⟩)
      case v1 => rw [List.length_append, List.length_map, List.length_map, List.length_map, List.length_map]; show _ + 1 + _ ≤ _; omega
      case v2 => rw [List.length_map, List.length_map]; show _ + 1 ≤ _; omega
      case v3 => rw [cutG_to (by rw [List.length_map, List.length_map]; omega), ← List.map_take, ← List.map_take]
      case v4 => rw [show ((i : Int) + 1) = ((i + 1 : Nat) : Int) by omega, cutG_from, ← List.map_drop, ← List.map_drop]
      case v5 =>
        unfold putL
        rw [List.map_append, List.map_append, List.map_append, List.map_append]
        rfl
  case after =>
    subst hI
    have w5 : ∀ x ∈ W, noNl x = true ∧ x.length ≤ 100 := fineW
    have nil_ok : noNl ("" : Str) = true ∧ ("" : Str).length ≤ 100 := ⟨rfl, by decide⟩
    have pa_ok : noNl (pieceL "a") = true ∧ (pieceL "a").length ≤ 100 := by decide +kernel
    have la_ok : noNl (lettersL "ab") = true ∧ (lettersL "ab").length ≤ 100 := by decide +kernel
    have lt_ok : noNl ("letter ab" : Str) = true ∧ ("letter ab" : Str).length ≤ 100 := by decide +kernel
    have a_ok : noNl ("a" : Str) = true ∧ ("a" : Str).length ≤ 100 := by decide +kernel
    have tW := tlen W "" hw9 (by omega) (by decide)
    have take1 : W.take 1 = [lettersL "ab"] := by rw [Wcons]; rfl
    have lDr : (W.drop (ps.length + 1)).length ≤ 9 := by rw [List.length_drop]; omega
    have f5 : ∀ x ∈ [lettersL "ab"] ++ List.replicate 5 (pieceL "a") ++ W.drop (ps.length + 1), noNl x = true ∧ x.length ≤ 100 := fun x hx => by
      rcases List.mem_append.mp hx with hx | hx
      · rcases List.mem_append.mp hx with hx | hx
        · rw [List.mem_singleton.mp hx]; exact la_ok
        · rw [(List.mem_replicate.mp hx).2]; exact pa_ok
      · exact fineW x (List.mem_of_mem_drop hx)
    have l5 : ([lettersL "ab"] ++ List.replicate 5 (pieceL "a") ++ W.drop (ps.length + 1)).length ≤ 20 := by
      rw [List.length_append]
      show 6 + _ ≤ _
      omega
    refine dsn_cons (.of (ds_set 10 scFR5.nd (d := .str (txtOf ([lettersL "ab"] ++ List.replicate 5 (pieceL "a") ++ W.drop (ps.length + 1)) "")) (de_joinT de_str (DE.is (de_catL (i := ([lettersL "ab"].map lineN).map DV.str ++ ((List.replicate 5 (pieceL "a")).map lineN).map DV.str) (j := ((W.drop (ps.length + 1)).map lineN).map DV.str) ?a1 (de_catL (i := ([lettersL "ab"].map lineN).map DV.str) (j := ((List.replicate 5 (pieceL "a")).map lineN).map DV.str) (by decide) (DE.is (de_slL (de_v 3) dp_none (dp_some de_int)) ?a2) (DE.is (DL.de (dl_rep (k := 5) (xs := [DV.str (lineN (pieceL "a"))]) (dl_lst (da_cons (DE.is de_str (congrArg DV.str (by decide +kernel))) da_nil)) de_int (by decide) (by decide))) rfl)) (DE.is (de_slL (de_v 3) (dp_some (de_add (de_v 2) de_int)) dp_none) ?a3)) ?a4) (fun x hx => (f5 x hx).2) (by omega)) ?_))
    case a1 => simp only [List.length_append, List.length_map, List.length_replicate, List.length_singleton]; omega
    case a2 => rw [show (1 : Int) = ((1 : Nat) : Int) from rfl, cutG_to (by rw [List.length_map, List.length_map]; omega), ← List.map_take, ← List.map_take, take1]
    case a3 => rw [show ((ps.length : Int) + 1) = ((ps.length + 1 : Nat) : Int) by omega, cutG_from, ← List.map_drop, ← List.map_drop]
    case a4 => rw [List.map_append, List.map_append, List.map_append, List.map_append]
    generalize hV5 : [lettersL "ab"] ++ List.replicate 5 (pieceL "a") ++ W.drop (ps.length + 1) = V5 at *
    have Wt : W = W.take (ps.length + 4) ++ [tornL tn] := take_last Wlast Wl
    have tt : (tornL tn).length ≤ 100 ∧ noNl (tornL tn) = true := by
      have := fineW _ (List.mem_of_getElem? Wlast)
      exact ⟨this.2, this.1⟩
    refine dsn_cons (.of (ds_set 11 scFR5.nd (d := .lst ((eA W ps.length (tornL tn)).map endD)) (DL.de (dl_lst (da_cons ?b1 (da_cons ?b2 (da_cons ?b3 da_nil))))) ?_))
    case b1 => exact de_tup (da_cons (DE.is (de_addS (i := txtOf W "") (j := "\n") (by show _ + 1 ≤ _; omega) (de_v 4) de_str) (by rw [txt_snoc]; exact congrArg (fun z => DV.str (txtOf W "" ++ z)) (by decide))) (da_cons (de_tup (da_cons (de_v 5) da_nil)) da_nil))
    case b2 => exact de_tup (da_cons (DE.is (de_addS (i := txtOf W "") (j := lineN (tornL tn)) (by rw [lineN_len]; omega) (de_v 4) (de_ixL (i := -1) (xs := ((W.take (ps.length + 4)).map lineN).map DV.str ++ [DV.str (lineN (tornL tn))]) (atI_last _ _) (DE.is (de_v 3) (by
        conv => lhs; rw [Wt]
        rw [List.map_append, List.map_append]; rfl)) (de_neg de_int))) (by rw [txt_snoc])) (da_cons (de_tup (da_cons (de_v 5) da_nil)) da_nil))
    case b3 => exact de_tup (da_cons (DE.is (de_slS (z := txtOf W "") (by omega) (de_v 4) dp_none (dp_some (de_neg de_int))) (by
        show DV.str (L2.cutS (txtOf W "") none (some (-1))) = _
        conv => lhs; rw [Wt]
        rw [cut_nl])) (da_cons (de_tup (da_cons (DE.is (de_sub (de_v 5) de_int) (by rw [Wl]; congr 1; omega)) da_nil)) da_nil))
    refine dsn_cons (.of (ds_set 11 scFR5.nd (d := .lst ((eA W ps.length (tornL tn) ++ eB W V5).map endD)) (DE.is (de_catL (i := (eA W ps.length (tornL tn)).map endD) (j := (eB W V5).map endD) (by show 3 + 2 ≤ 100000; decide) (de_v 11) (DL.de (dl_lst (da_cons (de_tup (da_cons (DE.is (de_addS (i := txtOf W "") (j := "a") (by show _ + 1 ≤ _; omega) (de_v 4) de_str) (congrArg DV.str (txt_add _ _))) (da_cons (de_tup (da_cons (de_v 5) da_nil)) da_nil))) (da_cons (de_tup (da_cons (de_v 10) (da_cons (de_tup (da_cons de_int da_nil)) da_nil))) da_nil))))) (by rw [← List.map_append])) ?_))
    refine dsn_cons (.of (ds_set 11 scFR5.nd (d := .lst (((eA W ps.length (tornL tn) ++ eB W V5) ++ eC).map endD)) (DE.is (de_catL (i := (eA W ps.length (tornL tn) ++ eB W V5).map endD) (j := eC.map endD) (by show 5 + 2 ≤ 100000; decide) (de_v 11) (DL.de (dl_lst (da_cons (de_tup (da_cons de_non (da_cons (de_tup (da_cons de_int da_nil)) da_nil))) (da_cons (de_tup (da_cons de_int (da_cons (de_tup (da_cons de_int da_nil)) da_nil))) da_nil))))) (by rw [← List.map_append])) ?_))
    have dlow : ∀ x ∈ W.drop (ps.length + 1), x.length ≤ 100 := fun x hx => (fineW x (List.mem_of_mem_drop hx)).2
    have tD := tlen (W.drop (ps.length + 1)) "" dlow (by omega) (by decide)
    have W1 : W = lettersL "ab" :: W.drop 1 := by
      conv => lhs; rw [← List.take_append_drop 1 W, take1]
      rfl
    have nl1 : ∀ v ∈ W.drop 1, (TL.tl v).contains 108 = false := fun v hv => by
      obtain ⟨j, hj⟩ := List.getElem?_of_mem hv
      rw [List.getElem?_drop] at hj
      exact noL (1 + j) v (by omega) hj
    refine dsn_cons (dsn_set 11 scFR5.nd (d := .lst ((((eA W ps.length (tornL tn) ++ eB W V5) ++ eC) ++ eE ([lettersL "ab"] ++ W.drop (ps.length + 1)) (("letter ab" : Str) :: W.drop 1)).map endD)) (DEN.is (den_catL (i := ((eA W ps.length (tornL tn) ++ eB W V5) ++ eC).map endD) (j := (eE ([lettersL "ab"] ++ W.drop (ps.length + 1)) (("letter ab" : Str) :: W.drop 1)).map endD) (by show 7 + 2 ≤ 100000; decide) (.of (de_v 11)) (den_lst (dan_cons (.of ?c1) (dan_cons (den_tup (dan_cons ?c2 (dan_cons (.of (de_tup (da_cons de_int da_nil))) dan_nil))) dan_nil)))) (by rw [← List.map_append])) ?_)
    case c1 => exact de_tup (da_cons (DE.is (de_addS (i := lineN (lettersL "ab")) (j := txtOf (W.drop (ps.length + 1)) "") (by rw [lineN_len]; have := la_ok.2; omega) (de_ixL (i := 0) (xs := (W.map lineN).map DV.str) (show atI _ ((0 : Nat) : Int) = _ from sec_at (by rw [List.getElem?_map, List.getElem?_map, W0]; rfl)) (de_v 3) de_int) (de_joinT de_str (DE.is (de_slL (de_v 3) (dp_some (de_add (de_v 2) de_int)) dp_none) (by rw [show ((ps.length : Int) + 1) = ((ps.length + 1 : Nat) : Int) by omega, cutG_from, ← List.map_drop, ← List.map_drop])) dlow (by omega))) (by
        show DV.str (lineN (lettersL "ab") ++ txtOf (W.drop (ps.length + 1)) "") = DV.str (txtOf (lettersL "ab" :: W.drop (ps.length + 1)) "")
        unfold txtOf
        rw [List.map_cons, catS_cons, app_assoc])) (da_cons (de_tup (da_cons de_int da_nil)) da_nil))
    case c2 => exact DEN.is (den_replC (x := txtOf W "") (y := "letters") (z := "letter") (Nat.le_refl 1) (by show _ + _ * 6 ≤ _; omega) (de_v 4)) (by
        conv => lhs; rw [W1]
        rw [txt_letter nl1])
    have V5ok : readO C CT (.str (txtOf V5 "")) (badRow CT 5) := by
      have := readO_txt (C := C) (CT := CT) (ws := V5) (rest := "") f5 nil_ok (by omega)
      rwa [r5] at this
    have nlW : ∀ x : Str, noNl x = true ∧ x.length ≤ 100 → readO C CT (.str (txtOf (W ++ [x]) "")) (badRow CT W.length) := fun x hx => by
      have := readO_txt (C := C) (CT := CT) (ws := W ++ [x]) (rest := "") (fun y hy => by
        rcases List.mem_append.mp hy with hy | hy
        · exact fineW y hy
        · rw [List.mem_singleton.mp hy]; exact hx) nil_ok (by rw [List.length_append]; show _ + 1 ≤ _; omega)
      rw [rmore x, ← Wl] at this
      exact this
    have f1 : ∀ x ∈ [lettersL "ab"] ++ W.drop (ps.length + 1), noNl x = true ∧ x.length ≤ 100 := fun x hx => by
      rcases List.mem_append.mp hx with hx | hx
      · rw [List.mem_singleton.mp hx]; exact la_ok
      · exact fineW x (List.mem_of_mem_drop hx)
    have f0 : ∀ x ∈ ("letter ab" : Str) :: W.drop 1, noNl x = true ∧ x.length ≤ 100 := fun x hx => by
      rcases List.mem_cons.mp hx with hx | hx
      · rw [hx]; exact lt_ok
      · exact fineW x (List.mem_of_mem_drop hx)
    have hes : ∀ x ∈ ((eA W ps.length (tornL tn) ++ eB W V5) ++ eC) ++ eE ([lettersL "ab"] ++ W.drop (ps.length + 1)) (("letter ab" : Str) :: W.drop 1), readO C CT x.1 (badRow CT x.2) := fun x hx => by
      rcases List.mem_append.mp hx with hx | hx
      · rcases List.mem_append.mp hx with hx | hx
        · rcases List.mem_append.mp hx with hx | hx
          · simp only [List.mem_cons, List.not_mem_nil, or_false] at hx
            rcases hx with rfl | rfl | rfl
            · exact nlW "" nil_ok
            · exact nlW _ ⟨tt.2, tt.1⟩
            · have := readO_txt (C := C) (CT := CT) (ws := W.take (ps.length + 4)) (rest := tornL tn) (fun y hy => fineW y (List.mem_of_mem_take hy)) ⟨tt.2, tt.1⟩ (by rw [List.length_take]; omega)
              rwa [rtake (tornL tn) (Nat.le_refl _)] at this
          · simp only [List.mem_cons, List.not_mem_nil, or_false] at hx
            rcases hx with rfl | rfl
            · have := readO_txt (C := C) (CT := CT) (ws := W) (rest := "a") fineW a_ok (by omega)
              rw [rrest, ← Wl] at this
              exact this
            · exact V5ok
        · simp only [List.mem_cons, List.not_mem_nil, or_false] at hx
          rcases hx with rfl | rfl
          · exact .inl ⟨.inl rfl, rfl⟩
          · exact .inl ⟨.inr ⟨5, rfl⟩, rfl⟩
      · simp only [List.mem_cons, List.not_mem_nil, or_false] at hx
        rcases hx with rfl | rfl
        · have := readO_txt (C := C) (CT := CT) (ws := [lettersL "ab"] ++ W.drop (ps.length + 1)) (rest := "") f1 nil_ok (by rw [List.length_append]; show 1 + _ ≤ _; omega)
          rwa [r1] at this
        · have := readO_txt (C := C) (CT := CT) (ws := ("letter ab" : Str) :: W.drop 1) (rest := "") f0 nil_ok (by rw [List.length_cons, List.length_drop]; omega)
          rwa [read_letter] at this
    have lES : (((eA W ps.length (tornL tn) ++ eB W V5) ++ eC) ++ eE ([lettersL "ab"] ++ W.drop (ps.length + 1)) (("letter ab" : Str) :: W.drop 1)).length = 9 := rfl
    generalize (((eA W ps.length (tornL tn) ++ eB W V5) ++ eC) ++ eE ([lettersL "ab"] ++ W.drop (ps.length + 1)) (("letter ab" : Str) :: W.drop 1)) = ES at *
    refine dsn_one (.of (ds_ret (DE.is (de_all (bs := ES.map fun _ => true) B.all (DE.is (dl_rL (own := [("_law_one", 9), ("_law_row_here", 13)]) scFR5.nd (by decide +kernel) (rL.ev (is := [9, 13]) (di_l (ds := ES.map endD) (de_v 11)) (by rw [List.length_map]; omega) (by decide)
      (fun d => match d with | .tup [v, r] => [.val (fileD C "ab" ps od pp op tn), .val (.lst (W.map DV.str)), .val (.int (ps.length : Int)), .val (.lst ((W.map lineN).map DV.str)), .val (.str (txtOf W "")), .val (.int (W.length : Int)), a, b, c, .val v, .val (.str (txtOf V5 "")), .val (.lst (ES.map endD)), .un, .val r] | _ => []) (fun _ => true) (fun _ => .bl true) (fun d hd => ?d1) (fun _ _ => dts_nil) (fun d hd _ => ?d2))).de ?d3)) ?d4) rfl))
    case d1 =>
      obtain ⟨x, hx, rfl⟩ := List.mem_map.mp hd
      exact dg_tup (dgs_cons (dg_n 9 scFR5.nd) (dgs_cons (dg_n 13 scFR5.nd) dgs_nil))
    case d2 =>
      obtain ⟨x, hx, rfl⟩ := List.mem_map.mp hd
      exact de_row (r := x.2) (DE.is (de_call Lr (da_cons (de_gl (v := .ref fR) hR rfl (fun S => .adr fR)) (da_cons (de_v 9) da_nil)) ⟨x.1, badRow CT x.2, rfl, hes x hx, rfl⟩) rfl) (de_v 13)
    case d3 => rw [filt, List.map_map, List.map_map]; rfl
    case d4 =>
      congr 1
      rw [List.all_map]
      exact List.all_eq_true.mpr fun _ _ => rfl
end SP

/-! try: what raises nothing; _law_all_right, law. -/
namespace PD
open PySem PySem.Spec PyProof.Rows L2 LamX
section
variable {X : Cx} {n : Nat} {body : List Stmt} {hs : List ExceptHandler} {pos : Pos} {tb : TS}
theorem sn_try_quiet (hb : ∀ (pn : List (Addr × Obj)) (xe : Value → Shared → Prop), PassesOwn (model X.prog X.w) X.A X.env xe → SsN (X.tr pn xe) n body tb) (hh : hs ≠ []) : SN X n (.Try body hs [] [] pos) tb := by
  obtain ⟨h0, hr, rfl⟩ := List.exists_cons_of_ne_nil hh
  refine ⟨fun pins s σ H D ht I h => wpAny_Try_except ?_⟩
  refine wpAny_mono ((hb (X.pn ++ pins) _ PassesOwn.looking).run [] s σ H D ht (I.toTry _) h) (fun f s1 sp1 => ?_) fun e s1 he => he
  match f, sp1 with
  | .next, ⟨σ1, H1, J, q⟩ => exact wpAny_execs_nil ⟨σ1, H1, J.ofTry I.ok, q⟩
  | .brk, ⟨σ1, H1, J, q⟩ => exact ⟨σ1, H1, J.ofTry I.ok, q⟩
  | .cont, ⟨σ1, H1, J, q⟩ => exact ⟨σ1, H1, J.ofTry I.ok, q⟩
  | .ret u, ⟨v, σ1, H1, J, r, q⟩ => exact ⟨v, σ1, H1, J.ofTry I.ok, r, q⟩
end
section
variable {g : Gb} {n : Nat} {l : Lc} {c : Addr} {q : Str} {ρ : Rho} {m m1 m2 : Mo} {a b e : Expr} {body : List Stmt} {hs : List ExceptHandler} {pos : Pos} {E : Pm} {x y : Bool}
theorem OfC.tr {X : Cx} (w : OfC g l c q X) {pn : List (Addr × Obj)} {xe : Value → Shared → Prop} (po : PassesOwn (model X.prog X.w) X.A X.env xe) (hex : l.ex = none) : OfC g l c q (X.tr pn xe) :=
  ⟨⟨w.o.prog, w.o.w, w.o.K, w.o.mg, w.o.base, w.o.N, w.o.sc, w.o.fn, w.o.calm, w.o.room, w.o.un, fun _ => po, fun _ _ _ h => by rw [hex] at h; cases h⟩, w.code, w.qual⟩
theorem dsc_try (h : DSsC g n l c q body ρ m E) (hh : hs ≠ [] := by exact List.cons_ne_nil _ _) (hex : l.ex = none := by rfl) : DSC g n l c q (.Try body hs [] [] pos) ρ m E :=
  .by _ (fun X w => sn_try_quiet (fun pn xe po => USsC.sn (w.tr po hex) body) hh) h
theorem dtc_or2 (h1 : DTC g n l c q a ρ m false m1) (h2 : DTC g n l c q b ρ m1 y m2) {p : Pos} : DTC g n l c q (.BoolOp .Or [a, b] p) ρ m y m2 :=
  .by (tOr (UTC g n l c q a) (UTC g n l c q b)) (fun X w => (pwn_or (UTC.pt w a) (pwn_or1 (UTC.pt w b))).pt) fun S0 H0 B σ S H s Q k => h1 S0 H0 B σ S H s _ fun S1 H1 s1 e1 => h2 S0 H0 B σ S1 H1 s1 Q fun S2 H2 s2 e2 => k S2 H2 s2 (e1.tr e2)
end
end PD
namespace SP
open PySem PySem.Spec PyProof.Rows L2 PD LamX
variable {g : Gb} {C CT c : Addr} {T : List (Addr × Str)}
abbrev abcT : Str := "letters abc\npiece ca\norder -\npiece_price 5\norder_price 4\ntorn no\n"
abbrev abcL : List Str := ["letters abc", "piece ca", "order -", "piece_price 5", "order_price 4", "torn no"]
theorem read_abc : readO C CT (.str abcT) (.val (fileD C "abc" ["ca"] [] 5 4 false)) := by
  refine .inr ⟨abcT, abcL, "", rfl, by decide +kernel, by decide, by decide +kernel, ?_⟩
  have e0 : tk lettersT abcL 0 = some ("abc" : Str) := by decide +kernel
  have e1 : tk (piecesT "abc") abcL 1 = some ("ca" : Str) := by decide +kernel
  have e2 : moreP "abc" abcL 2 3 = [] := by decide +kernel
  have e3 : tk (ordersT ([("ca" : Str)] : List Str).length) abcL (1 + ([("ca" : Str)] : List Str).length) = some ([] : List Nat) := by decide +kernel
  have e4 : tk (pricesT "piece_price") abcL (2 + ([("ca" : Str)] : List Str).length) = some (5 : Int) := by decide +kernel
  have e5 : tk (pricesT "order_price") abcL (3 + ([("ca" : Str)] : List Str).length) = some (4 : Int) := by decide +kernel
  have e6 : tk tornT abcL (4 + ([("ca" : Str)] : List Str).length) = some false := by decide +kernel
  have e7 : endBad abcL "" (5 + ([("ca" : Str)] : List Str).length) = false := by decide +kernel
  unfold readF
  rw [e0]
  dsimp only
  rw [e1]
  dsimp only
  rw [e2, e3]
  dsimp only
  rw [e4]
  dsimp only
  rw [e5]
  dsimp only
  rw [e6]
  dsimp only
  rw [e7]
  rfl
abbrev laN : List Str := ["_law_script", "_law_number_here", "_law_seed", "_law_file_here"]
theorem scLAll : FnScope laN ["_law_script"] (defScope s__law_all_right) := ⟨rfl, rfl, rfl, by decide +kernel, rfl, by decide +kernel, by decide +kernel⟩
def R_lall : List DV → DV → Prop := fun ds d => ∃ (D : DV) (xs : List Int), Scr D xs ∧ xs.length ≤ 63 ∧ ds = [D] ∧ d = .bl true
theorem ok_lall (B : Bt g) (L : Fl g C) (Pf : Fp g C) (Nu : Fn g 1 "_law_number" R_num) (Lf : Fn g 6 "_law_file" (R_lfile C)) (Fr : FnN g 8 1 "_law_files_right" fun ds d => ∃ ps od pp op tn, VS "ab" ps od ∧ (1 ≤ pp ∧ pp ≤ 5) ∧ (1 ≤ op ∧ op ≤ 5) ∧ ds = [fileD C "ab" ps od pp op tn] ∧ d = .bl true)
    (Wr : FnT g 9 1 T "_law_writes_right" (R_wrr C)) (RF : FnZ g 6 "read_file" (R_readf C CT)) {f : Addr} {fd : FuncData} (F : FunC g.K "_law_all_right" "_law_all_right" s__law_all_right c f fd) : FnOkN g.P g.w g.K g.mg g.base CX0 10 1 f fd ["_law_script"] (spT g.K T R_lall) := by
  refine fn_okT (q := "_law_all_right.<locals>.<lambda>") F (by decide +kernel) scLAll (fun ds d ⟨_, _, _, _, e, _⟩ => by rw [e]; rfl) fun ds d ⟨D, xs, hD, hx, e, ed⟩ => ?_
  subst e ed
  refine dssc_cons (dsc_for (is := [1]) (DI.is (di_r (n := 2) B.range (by decide) de_int) (rg_rgD _)) (fun _ ρ m => m = tabM T ∧ ∃ x1 x2 x3 : EV, ρ = [.val D, x1, x2, x3]) ⟨rfl, _, _, _, rfl⟩ ?_ ?_)
  · rintro k d ρ m hd ⟨rfl, x1, x2, x3, rfl⟩
    obtain ⟨hk, rfl⟩ := rgD_at hd
    have nn := numOf_nn xs (3 + k)
    obtain ⟨j, hj, hj4⟩ := emod_nat (a := numOf xs (3 + k) / 1000) (n := 4) (by decide)
    refine ⟨_, dg_n 1 scLAll.nd, ?_⟩
    refine dssc_cons (dsc_pl (ds_set 2 scLAll.nd (d := .int (numOf xs (3 + k))) (de_call Nu (da_cons (de_v 0) (da_cons (de_add de_int (de_v 1)) da_nil)) ⟨D, xs, 3 + k, hD, hx, by omega, rfl, rfl⟩) ?_))
    have vs := VS_file (numOf xs (3 + k)) (n := 1 + j) (by omega) (by omega)
    have b1 : 1 ≤ fpp (numOf xs (3 + k)) ∧ fpp (numOf xs (3 + k)) ≤ 5 := by unfold fpp; omega
    have b2 : 1 ≤ fop (numOf xs (3 + k)) ∧ fop (numOf xs (3 + k)) ≤ 5 := by unfold fop; omega
    refine dssc_cons (dsc_pl (ds_set 3 scLAll.nd (d := fileOf C (numOf xs (3 + k)) (1 + j)) (de_call Lf (da_cons (de_v 2) (da_cons (DE.is (de_add (i := 1) (j := numOf xs (3 + k) / 1000 % ((4 : Nat) : Int)) de_int (de_mod (by decide) (de_intOf B.int (de_fdiv ⟨by decide, by decide⟩ (de_v 2) de_int)) de_int)) (by rw [hj]; congr 1)) da_nil)) ⟨_, 1 + j, nn.1, by omega, by omega, rfl, rfl⟩) ?_))
    refine dssc_one (dsc_if (x := false) (dtc_or2 (DTC.is (dtc_of (dtn_not (x := true) (dtn_e (den_call Fr (da_cons (de_v 3) da_nil) ⟨_, _, _, _, _, vs, b1, b2, rfl, rfl⟩)))) rfl) (DTC.is (dtc_not (x := true) (dtc_e (dec_call Wr (da_cons (de_v 0) (da_cons (de_add de_int (de_mul (.inl (by decide)) de_int (de_v 1))) (da_cons (de_v 3) da_nil))) ⟨D, xs, 20 + 30 * k, _, _, _, _, _, hD, hx, by omega, vs, b1, b2, rfl, rfl⟩))) rfl)) (fun z => by cases z) fun _ => dssc_nil ⟨rfl, _, _, _, rfl⟩)
  · rintro ρ m ⟨rfl, x1, x2, x3, rfl⟩
    refine dssc_one (dsc_ret (DEC.is (dec_of (.of (de_eqD (da := .tup (psD ["ca"])) (db := .tup (psD ["ca"])) (by decide +kernel) (by decide +kernel) (de_ps L Pf (de_call RF.v (da_cons de_str da_nil) ⟨_, rfl, read_abc⟩)) (de_tup (da_cons de_str da_nil))))) (by rw [eqv_psD]; simp)) ⟨rfl, rfl⟩)
theorem scLaw8 : FnScope ["_law_script"] ["_law_script"] (defScope s_law) := ⟨rfl, rfl, rfl, by decide +kernel, rfl, by decide +kernel, by decide +kernel⟩
def R_law8 : List DV → DV → Prop := fun ds d => ∃ xs : List Int, xs.length ≤ 63 ∧ ds = [.frz (xs.map DV.int)] ∧ d = .bl true
theorem ok_law8 (Al : FnT g 10 1 T "_law_all_right" R_lall) {f : Addr} {fd : FuncData} (F : FunC g.K "law" "law" s_law c f fd) : FnOkN g.P g.w g.K g.mg g.base CX0 11 1 f fd ["_law_script"] (spT g.K T R_law8) := by
  refine fn_okT (q := "law.<locals>.<lambda>") F (by decide +kernel) scLaw8 (fun ds d ⟨_, _, e, _⟩ => by rw [e]; rfl) fun ds d ⟨xs, hx, e, ed⟩ => ?_
  subst e ed
  exact dssc_one (dsc_try (dssc_one (dsc_ret (dec_call Al (da_cons (de_v 0) da_nil) ⟨_, xs, .inr rfl, hx, rfl, rfl⟩) ⟨rfl, rfl⟩)))
end SP

/-! Files made without keywords, with one. -/
namespace PD
open PySem PySem.Spec PyProof.Rows L2
section
variable {g : Gb} {l : Lc} {ρ : Rho} {e : Expr} {es : List Expr} {pos p : Pos} {ds ms : List DV} {C : Addr} {gs : List (Str × DV)} {x : Str} {k : Nat}
end
end PD
namespace SP
open PySem PySem.Spec PyProof.Rows L2 PD
variable {g : Gb} {C f : Addr} {fd : FuncData}
def kw3 : List (Str × V) := [("piece_price", .int 1), ("order_price", .int 1), ("torn", .bl false)]
end SP

/-! Facts as the head tells them: defs, methods, classes; the script. -/
namespace SP
open PySem PySem.Spec PyProof.Rows L2 PD LamX PySem.W NdefX
/-- a def as the top has written it -/
def DefAt (K : PySem.W.Frag) (x : Str) (st : Stmt) : Prop := ∃ f fd, PySem.W.nsIn K mainGlobals x = some (some (.ref f)) ∧ Fun K x x st f fd
theorem def_mk {K : PySem.W.Frag} {x : Str} {st : Stmt} {f : Addr} {oc : Value} {od an : Option Addr} {osl : Array (Option Value)} {kV doc pm cdv ct : Value} (a : PySem.W.nsIn K mainGlobals x = some (some (.ref f)))
    (l : K.lookup f = some ⟨oc, od, .func (PySem.W.fnOf x x (defArgs st) (defBody st) (defScope st) .none kV doc pm an cdv ct), osl⟩) (c : PySem.W.codeIn K cdv x = true) (k : PySem.W.keepIn K (.ref f) = true) : DefAt K x st := ⟨f, _, a, fun_mk l c k⟩
def MethAt (K : PySem.W.Frag) (C : Addr) (m qual : Str) (st : Stmt) : Prop := ∃ f fd, Meth K C m f ∧ Fun K m qual st f fd
theorem meth_mk {K : PySem.W.Frag} {C : Addr} {m qual : Str} {st : Stmt} {f : Addr} {oc : Value} {od an : Option Addr} {osl : Array (Option Value)} {kV doc pm cdv ct : Value} (a : PySem.W.findIn K (.ref C) m = some (some (.ref f))) (i : PySem.W.isFn K (.ref f) = true)
    (l : K.lookup f = some ⟨oc, od, .func (PySem.W.fnOf m qual (defArgs st) (defBody st) (defScope st) .none kV doc pm an cdv ct), osl⟩) (c : PySem.W.codeIn K cdv qual = true) (k : PySem.W.keepIn K (.ref f) = true) : MethAt K C m qual st := ⟨f, _, ⟨a, i, k⟩, fun_mk l c k⟩
def PropAt (K : PySem.W.Frag) (C : Addr) (m qual : Str) (st : Stmt) : Prop := ∃ p f fd, PropOf K C m p f ∧ Fun K m qual st f fd
theorem prop_mk {K : PySem.W.Frag} {C : Addr} {m qual : Str} {st : Stmt} {p f : Addr} {rest : List Value} {oc : Value} {od an : Option Addr} {osl : Array (Option Value)} {kV doc pm cdv ct : Value} (a : PySem.W.findIn K (.ref C) m = some (some (.ref p))) (e : PySem.W.specialIn K (.ref p) "__get__" = some (some (.builtin "property.__get__"))) (t : PySem.W.takesIn K (.ref p) = some true) (r : PySem.W.recIn K p "property" = some (.ref f :: rest))
    (l : K.lookup f = some ⟨oc, od, .func (PySem.W.fnOf m qual (defArgs st) (defBody st) (defScope st) .none kV doc pm an cdv ct), osl⟩) (c : PySem.W.codeIn K cdv qual = true) (k : PySem.W.keepIn K (.ref f) = true) : PropAt K C m qual st := ⟨p, f, _, ⟨a, e, t, ⟨rest, r⟩⟩, fun_mk l c k⟩
def InitAt (K : PySem.W.Frag) (C : Addr) (st : Stmt) : Prop := ∃ f fd, Mk K C f ∧ FunD K "__init__" "File.__init__" (defArgs st) (defBody st) (defScope st) [] kw3 f fd
theorem init_mk {K : PySem.W.Frag} {C D : Addr} {st : Stmt} {f : Addr} {oc : Value} {od an : Option Addr} {osl : Array (Option Value)} {doc pm cdv ct : Value} {t1 t2 : Tok} (m : PySem.W.makesIn K C = true) (a : PySem.W.findIn K (.ref C) "__init__" = some (some (.ref f))) (i : PySem.W.isFn K (.ref f) = true) (kc : PySem.W.keepIn K (.ref C) = true)
    (l : K.lookup f = some ⟨oc, od, .func (PySem.W.fnOf "__init__" "File.__init__" (defArgs st) (defBody st) (defScope st) .none (.ref D) doc pm an cdv ct), osl⟩) (c : PySem.W.codeIn K cdv "File.__init__" = true) (k : PySem.W.keepIn K (.ref f) = true) (n : PySem.W.nsIn K D "torn" = some (some (.bool false))) (n1 : PySem.W.nsIn K D "piece_price" = some (some (.int 1 t1))) (n2 : PySem.W.nsIn K D "order_price" = some (some (.int 1 t2))) : InitAt K C st :=
  ⟨f, _, ⟨m, a, i, kc⟩, ⟨⟨oc, od, .none, .ref D, doc, pm, an, cdv, ct, osl, rfl, l, c, .inl ⟨rfl, rfl⟩, .inr ⟨D, rfl, fun q hq => by
    simp only [kw3, List.mem_cons, List.not_mem_nil, or_false] at hq
    rcases hq with rfl | rfl | rfl
    · exact ⟨_, n1, ⟨_, rfl⟩⟩
    · exact ⟨_, n2, ⟨_, rfl⟩⟩
    · exact ⟨_, n, rfl⟩⟩⟩, k⟩⟩
theorem letters_mk {K : PySem.W.Frag} {T : Addr} {d : Option Addr} {u1 u2 : Tok} {n : Nat} {sl : Array (Option Value)} (l : K.lookup T = some ⟨.type "tuple", d, .seq #[.str "ab" u1, .str "abc" u2] n, sl⟩) (S : Hp) : Rp K S (.ref T) (.tup [.str "ab", .str "abc"]) :=
  .tup (xs := [.str "ab", .str "abc"]) (.inr ⟨_, _, _, l, rfl, rfl, (by show 2 ≤ sizeLine; decide), .cons ⟨_, rfl⟩ (.cons ⟨_, rfl⟩ .nil)⟩) (.cons (.str _) (.cons (.str _) .nil))
def InitAt0 (K : PySem.W.Frag) (C : Addr) (q : Str) (st : Stmt) : Prop := ∃ f fd, Mk K C f ∧ Fun K "__init__" q st f fd
theorem init_mk0 {K : PySem.W.Frag} {C : Addr} {q : Str} {st : Stmt} {f : Addr} {oc : Value} {od an : Option Addr} {osl : Array (Option Value)} {kV doc pm cdv ct : Value} (m : PySem.W.makesIn K C = true) (a : PySem.W.findIn K (.ref C) "__init__" = some (some (.ref f))) (i : PySem.W.isFn K (.ref f) = true) (kc : PySem.W.keepIn K (.ref C) = true)
    (l : K.lookup f = some ⟨oc, od, .func (PySem.W.fnOf "__init__" q (defArgs st) (defBody st) (defScope st) .none kV doc pm an cdv ct), osl⟩) (c : PySem.W.codeIn K cdv q = true) (k : PySem.W.keepIn K (.ref f) = true) : InitAt0 K C q st := ⟨f, _, ⟨m, a, i, kc⟩, fun_mk l c k⟩
/-- one with an __init__ of its own -/
structure XiK (P : Program) (K : PySem.W.Frag) (C : Addr) (q : Str) (st : Stmt) : Prop where
  T : OexC K C
  ini : ∃ f cc cda fd, PySem.W.findIn K (.ref C) "__init__" = some (some (.ref f)) ∧ PySem.W.typeIn K (.ref f) = some (.type "function") ∧ ∀ mg : Str → Option Value, mg "super" = none → SupF P K mg q st C f cc cda fd
theorem sup_binds {P : Program} {K : PySem.W.Frag} {mg : Str → Option Value} {q nm : Str} {st : Stmt} {C f cc cda : Addr} {fd : FuncData} (F : SupF P K mg q st C f cc cda fd) (h : ∀ (kV doc pm : Value) (an : Option Addr) (ct u v : Value), bindArgs (ksFn "__init__" q (defArgs st) (defBody st) (defScope st) .none kV doc pm an (.ref cda) ct cc) ⟨[u, v], []⟩ = pure [(("self" : Str), u), (nm, v)]) : Binds K fd ["self", nm] [] := by
  obtain ⟨kV, doc, pm, an, ct, rfl⟩ := F.fdeq
  exact fun s us X hl => match us, hl with | [u, v], _ => .of_eq (h kV doc pm an ct u v)
theorem XiK.row {g : Gb} {C : Addr} (h : XiK g.P g.K C "BadText.__init__" s_BadText_init) (m : g.mg "BadText" = some (.ref C)) (hs : g.mg "super" = none) (hno : PySem.W.findIn g.K (.ref C) "row" = some none) : Xi g C "BadText" txT "row" := by
  obtain ⟨T, f, cc, cda, fd, h1, h2, F⟩ := h
  exact ⟨m, T, ⟨f, fd, "row", h1, h2, ok_super (nscope_by (by decide +kernel)) rfl T (F g.mg hs) hno rfl rfl (by decide) rfl, sup_binds (F g.mg hs) fun _ _ _ _ _ _ _ => rfl⟩, by decide +kernel⟩
/-- a def at the top whose code object is at c -/
def MakerAt (K : PySem.W.Frag) (x : Str) (st : Stmt) (c : Addr) : Prop := ∃ f fd, PySem.W.nsIn K mainGlobals x = some (some (.ref f)) ∧ FunC K x x st c f fd ∧ PySem.W.keepIn K (.ref f) = true
theorem fun_of {K : PySem.W.Frag} {x q : Str} {st : Stmt} {c f : Addr} {fd : FuncData} (F : FunC K x q st c f fd) (k : PySem.W.keepIn K (.ref f) = true) : Fun K x q st f fd := by
  obtain ⟨oc, od, kV, doc, pm, an, ct, osl, h1, h2, h3⟩ := F.ex
  exact ⟨⟨oc, od, kV, doc, pm, an, .ref c, ct, osl, h1, h2, h3⟩, k⟩
/-- the script as the law takes it, the table beside -/
theorem at_script8 {K : PySem.W.Frag} {c1 P1 : Addr} {q1 : Str} (H : Hp) (a : Addr) (ns : List Int) (hl : ns.length ≤ 63) (hT : ∀ p ∈ [(c1, P1)], H p.2 = some (.tbl #[])) (ha : a ∉ ([(c1, P1)] : List (Addr × Addr)).map (·.2)) (hS : SqL K H a (ns.map V.int)) :
    spT K [(P1, q1)] R_law8 [.ref a] H (fun v _ => v = .bl true) fun _ _ _ => False := by
  have go : ∀ (S : Hp) (ns : List Int), RpA K S (ns.map V.int) (ns.map DV.int) := by
    intro S ns
    induction ns with
    | nil => exact .nil
    | cons n ns ih => exact .cons (.int n) ih
  have t1 := hT (c1, P1) (by simp)
  let S : Hp := fun b => if b ∈ [P1] then none else H b
  have sin : ∀ b, b ∈ [P1] → S b = none := fun b h => if_pos h
  have sout : ∀ b, b ∉ [P1] → S b = H b := fun b h => if_neg h
  have ea : S a = H a := sout a ha
  have hS' : SqL K S a (ns.map V.int) := by
    rcases hS with h | h
    · refine .inl ?_
      unfold Rd at h ⊢
      rw [ea]
      exact h
    · exact .inr h
  refine ⟨S, tabM [(P1, q1)], [.frz (ns.map DV.int)], _, fun b u z => ?_, fun b z => ?_, fun p hp => ?_, .cons (.frz hS' (go S ns)) .nil, ⟨rfl, .bl true, ⟨ns, by omega, rfl, rfl⟩, rfl⟩, fun d m' v S' H' z _ r => ?_⟩
  · by_cases h : b ∈ [P1]
    · rw [sin b h] at z; cases z
    · rw [sout b h] at z; exact z
  · have z' : b ∈ [P1] := z
    refine ⟨sin b z', ?_⟩
    simp only [List.mem_cons, List.not_mem_nil, or_false] at z'
    rw [z', t1]
    exact fun y => by cases y
  · have tt : H p.1 = some (.tbl #[]) := by
      simp only [List.mem_cons, List.not_mem_nil, or_false] at hp
      rcases hp with rfl
      exact t1
    exact ⟨#[], tt, True.intro, fun pos cv h => by cases h⟩
  · obtain ⟨rfl, _⟩ := z
    cases r
    rfl
end SP

/-! What the top has left, asked by one run: questions to a part of the heap, told by one equation. -/
namespace HF
open PySem PySem.Spec PyProof.Rows L2 PD LamX PySem.W PySem.W.X
theorem isRef_ok {v : Option (Option Value)} (h : isRef v = true) : v = some (some (.ref (refO v))) := by
  unfold isRef at h
  split at h
  · rfl
  · cases h
theorem isRefV_ok {v : Value} (h : isRefV v = true) : v = .ref (refA v) := by
  unfold isRefV at h
  split at h
  · rfl
  · cases h
theorem isInt_ok {i : Int} {v : Option (Option Value)} (h : isInt i v = true) : v = some (some (.int i (tokO v))) := by
  unfold isInt at h
  split at h
  · rw [of_decide_eq_true h]; rfl
  · cases h
theorem isStr_ok {x : Str} {v : Option (Option Value)} (h : isStr x v = true) : v = some (some (.str x (tokO v))) := by
  unfold isStr at h
  split at h
  · rw [of_decide_eq_true h]; rfl
  · cases h
def Told (K : Frag) (l : List Ask) : Prop := l.map (Ask.obs K) = l.map Ask.val
def Tolds (K : Frag) (l : List (List Ask)) : Prop := l.map (List.map (Ask.obs K)) = l.map (List.map Ask.val)
section
variable {K : Frag} {l : List Ask}
theorem Tolds.at {gs : List (List Ask)} (e : Tolds K gs) (i : Nat) (h : gs[i]? = some l) : Told K l := by
  have q := congrArg (fun z : List (List Ans) => z[i]?) e
  rw [List.getElem?_map, List.getElem?_map, h] at q
  exact Option.some.inj q
theorem Told.at (e : Told K l) (i : Nat) {a : Ask} (h : l[i]? = some a) : a.obs K = a.val := by
  have q := congrArg (fun z : List Ans => z[i]?) e
  rw [List.getElem?_map, List.getElem?_map, h] at q
  exact Option.some.inj q
theorem Told.b (e : Told K l) (i : Nat) {f : Frag → Bool} (h : l[i]? = some (.b f)) : f K = true := Ans.b.inj (e.at i h)
theorem Told.v (e : Told K l) (i : Nat) {f : Frag → Option (Option Value)} {r : Option (Option Value)} (h : l[i]? = some (.v f r)) : f K = r := Ans.v.inj (e.at i h)
theorem Told.o (e : Told K l) (i : Nat) {f : Frag → Option Bool} {r : Option Bool} (h : l[i]? = some (.o f r)) : f K = r := Ans.o.inj (e.at i h)
theorem Told.d (e : Told K l) (i : Nat) {at_ : Frag → Addr} {name qual : Str} {st : Stmt} {cs : List Str} (h : l[i]? = some (.d at_ name qual st cs)) :
    ∃ oc od osl doc pm an ct, (K.lookup (at_ K) = some ⟨oc, od, .func (fnX name qual (defArgs st) (defBody st) (defScope st) (clOf K (at_ K)) .none (kwOf K (at_ K)) doc pm an (cdOf K (at_ K)) ct), osl⟩ ∧ (clOf K (at_ K)).map (·.1) = cs) ∧
      codeIn K (cdOf K (at_ K)) qual = true ∧ keepIn K (.ref (at_ K)) = true := by
  obtain ⟨h1, h2, h3⟩ := Ans.d.inj (e.at i h)
  cases q : K.lookup (at_ K) with
  | none =>
    rw [show fdAt K (at_ K) = none by unfold fdAt; rw [q]] at h1
    cases h1
  | some o =>
    obtain ⟨oc, od, dt, osl⟩ := o
    cases dt with
    | func fd =>
      have ef : fdAt K (at_ K) = some fd := by unfold fdAt; rw [q]
      have e1 : clOf K (at_ K) = fd.closure := by unfold clOf; rw [ef]
      have e2 : kwOf K (at_ K) = fd.kwdefaults := by unfold kwOf; rw [ef]
      have e3 : cdOf K (at_ K) = fd.code := by unfold cdOf; rw [ef]
      rw [ef] at h1
      rw [e1, e2]
      rw [e3] at h2 ⊢
      obtain ⟨n1, n2, n3, n4, n5, n6, n7, n8, n9, n10, n11, n12, n13, n14, n15⟩ := fd
      have e2 : (some (n1, n2, n3, n4, n5, n6, n7.map (·.1), n8, n15) : FV) = some (name, qual, defArgs st, .stmts (defBody st), defScope st, mainGlobals, cs, .none, builtinsNs) := h1
      simp only [Option.some.injEq, Prod.mk.injEq] at e2
      obtain ⟨h1, h2', h3', h4, h5, h6, h7, h8, h9⟩ := e2
      subst h1 h2' h3' h4 h5 h6 h8 h9
      exact ⟨oc, od, osl, n10, n11, n12, n14, ⟨rfl, h7⟩, h2, h3⟩
    | _ =>
      rw [show fdAt K (at_ K) = none by unfold fdAt; rw [q]] at h1
      cases h1
/-- a def without a closure -/
theorem Told.d0 (e : Told K l) (i : Nat) {at_ : Frag → Addr} {name qual : Str} {st : Stmt} (h : l[i]? = some (.d at_ name qual st [])) :
    ∃ oc od osl doc pm an ct, K.lookup (at_ K) = some ⟨oc, od, .func (fnOf name qual (defArgs st) (defBody st) (defScope st) .none (kwOf K (at_ K)) doc pm an (cdOf K (at_ K)) ct), osl⟩ ∧
      codeIn K (cdOf K (at_ K)) qual = true ∧ keepIn K (.ref (at_ K)) = true := by
  obtain ⟨oc, od, osl, doc, pm, an, ct, ⟨h1, h2⟩, h3, h4⟩ := e.d i h
  rw [List.map_eq_nil_iff] at h2
  rw [h2] at h1
  exact ⟨oc, od, osl, doc, pm, an, ct, h1, h3, h4⟩
end
/-! ### the questions -/
section
variable {K : Frag}
theorem ref_of {x : Str} (e : Told K (aRef x)) : nsIn K mainGlobals x = some (some (.ref (ga K x))) := isRef_ok (e.b 0 rfl)
theorem int_of {x : Str} {i : Int} (e : Told K (aInt x i)) : nsIn K mainGlobals x = some (some (.int i (tokO (nsIn K mainGlobals x)))) := isInt_ok (e.b 0 rfl)
theorem str_of {x y : Str} (e : Told K (aStr x y)) : nsIn K mainGlobals x = some (some (.str y (tokO (nsIn K mainGlobals x)))) := isStr_ok (e.b 0 rfl)
theorem none_of {x : Str} (e : Told K (aNone x)) : nsIn K mainGlobals x = some none := e.v 0 rfl
theorem b_of {f : Frag → Bool} (e : Told K (aB f)) : f K = true := e.b 0 rfl
theorem v_of {f : Frag → Option (Option Value)} {r : Option (Option Value)} (e : Told K (aV f r)) : f K = r := e.v 0 rfl
theorem o_of {f : Frag → Option Bool} {r : Option Bool} (e : Told K (aO f r)) : f K = r := e.o 0 rfl
theorem def_of {x : Str} {st : Stmt} (e : Told K (aDef x st)) : SP.DefAt K x st := by
  obtain ⟨_, _, _, _, _, _, _, l, c, k⟩ := e.d0 1 rfl
  exact SP.def_mk (isRef_ok (e.b 0 rfl)) l c k
theorem meth_of {C m qual : Str} {st : Stmt} (e : Told K (aMeth C m qual st)) : SP.MethAt K (ga K C) m qual st := by
  obtain ⟨_, _, _, _, _, _, _, l, c, k⟩ := e.d0 2 rfl
  exact SP.meth_mk (isRef_ok (e.b 0 rfl)) (e.b 1 rfl) l c k
theorem isRec_ok {K : Frag} {p : Addr} (h : isRec (recIn K p "property") = true) : ∃ rest, recIn K p "property" = some (.ref (gp K p) :: rest) := by
  unfold gp
  generalize recIn K p "property" = v at h
  unfold isRec at h
  split at h
  · exact ⟨_, rfl⟩
  · cases h
theorem prop_of {C m qual : Str} {st : Stmt} (e : Told K (aProp C m qual st)) : SP.PropAt K (ga K C) m qual st := by
  obtain ⟨_, _, _, _, _, _, _, l, c, k⟩ := e.d0 4 rfl
  obtain ⟨rest, r⟩ := isRec_ok (e.b 3 rfl)
  exact SP.prop_mk (isRef_ok (e.b 0 rfl)) (e.v 1 rfl) (e.o 2 rfl) r l c k
theorem init_of0 {C q : Str} {st : Stmt} (e : Told K (aInit C q st)) : SP.InitAt0 K (ga K C) q st := by
  obtain ⟨_, _, _, _, _, _, _, l, c, k⟩ := e.d0 4 rfl
  exact SP.init_mk0 (e.b 0 rfl) (isRef_ok (e.b 1 rfl)) (e.b 2 rfl) (e.b 3 rfl) l c k
theorem init_ofF {C : Str} {st : Stmt} (e : Told K (aInitF C st)) : SP.InitAt K (ga K C) st := by
  obtain ⟨_, _, _, _, _, _, _, l, c, k⟩ := e.d0 4 rfl
  rw [isRefV_ok (e.b 5 rfl)] at l
  exact SP.init_mk (e.b 0 rfl) (isRef_ok (e.b 1 rfl)) (e.b 2 rfl) (e.b 3 rfl) l c k (e.v 6 rfl) (isInt_ok (e.b 7 rfl)) (isInt_ok (e.b 8 rfl))
theorem maker_of {x : Str} {st : Stmt} (e : Told K (aMaker x st)) : SP.MakerAt K x st (cdA K x) := by
  obtain ⟨oc, od, osl, doc, pm, an, ct, l, c, k⟩ := e.d0 1 rfl
  rw [isRefV_ok (e.b 2 rfl)] at l c
  exact ⟨_, _, isRef_ok (e.b 0 rfl), ⟨⟨oc, od, _, doc, pm, an, ct, osl, rfl, l, c⟩⟩, k⟩
theorem tup2_ok {T : Addr} {x y : Str} (h : tup2 K T x y = true) : ∃ d u1 u2 n sl, K.lookup T = some ⟨.type "tuple", d, .seq #[.str x u1, .str y u2] n, sl⟩ := by
  unfold tup2 at h
  split at h
  · rename_i c d us n sl e
    obtain ⟨h1, h2⟩ := Bool.and_eq_true_iff.mp h
    split at h2
    · rename_i a t b t2 eu
      obtain ⟨h3, h4⟩ := Bool.and_eq_true_iff.mp h2
      rw [of_decide_eq_true h3, of_decide_eq_true h4] at eu
      rw [beq_iff_eq.mp h1] at e
      have eu2 : us = #[.str x t, .str y t2] := by
        rw [← Array.toList_inj]; exact eu
      rw [eu2] at e
      exact ⟨_, _, _, _, _, e⟩
    · cases h2
  · cases h
theorem oexOk_ok {C : Addr} (h : oexOk K C = true) : ∃ nm q N bs bm sn sub ab col dd k0 k1 k2 k3 k5, K.lookup C = some (excClassObj nm q C N bs bm true sn sub ab col dd k0 k1 k2 k3 k5 "ValueError.__new__") ∧ PySem.HandSPX.refsVE bm = true := by
  unfold oexOk at h
  split at h
  · rename_i t d cd sl e
    obtain ⟨h, h5⟩ := Bool.and_eq_true_iff.mp h
    obtain ⟨h, h4⟩ := Bool.and_eq_true_iff.mp h
    obtain ⟨h, h3⟩ := Bool.and_eq_true_iff.mp h
    obtain ⟨h1, h2⟩ := Bool.and_eq_true_iff.mp h
    obtain ⟨n1, n2, n3, n4, n5, n6, n7, n8, n9, n10, n11⟩ := cd
    split at h2
    · rename_i v bm em
      obtain ⟨h6, h7⟩ := Bool.and_eq_true_iff.mp h2
      split at h5
      · rename_i k0 k1 k2 k3 b k5 es
        have es2 : sl = #[k0, k1, k2, k3, some (.builtin b), k5] := by
          rw [← Array.toList_inj]; exact es
        have em' : n3 = v :: bm := em
        have h3' : n6 = true := h3
        have h4' : n11 = false := by
          have : (!n11) = true := h4
          cases n11
          · rfl
          · cases this
        rw [beq_iff_eq.mp h6] at em'
        rw [beq_iff_eq.mp h5] at es2
        rw [beq_iff_eq.mp h1] at e
        subst em' h3' h4' es2
        exact ⟨_, _, _, _, bm, _, _, _, _, _, k0, k1, k2, k3, k5, e, h7⟩
      · cases h5
    · cases h2
  · cases h
theorem cobjOk_ok {P : Program} {c : Addr} (h : cobjOk K P c = true) : ∃ ccl cdd vs ccs file tf, K.lookup c = some ⟨ccl, cdd, .fields vs, ccs⟩ ∧ vs[2]? = some (.str file tf) ∧ ((P.main.file : Str) == file) = true := by
  unfold cobjOk at h
  split at h
  · rename_i a b vs d e
    split at h
    · rename_i file tf ev
      exact ⟨_, _, vs, _, file, tf, e, ev, h⟩
    · cases h
  · cases h
theorem cellOk_ok {c C : Addr} (h : cellOk K c C = true) : ∃ cl cld csl, K.lookup c = some ⟨cl, cld, .cell (some (.ref C)), csl⟩ := by
  unfold cellOk at h
  split at h
  · rename_i a b D d e
    rw [beq_iff_eq.mp h] at e
    exact ⟨_, _, _, e⟩
  · cases h
theorem xi_of {P : Program} {C q : Str} {st : Stmt} (e : Told K (aXi P C q st)) : SP.XiK P K (ga K C) q st := by
  obtain ⟨oc, od, osl, doc, pm, an, ct, ⟨l, hl⟩, c, k⟩ := e.d 7 rfl
  rw [isRefV_ok (e.b 8 rfl)] at l c
  have hcl : clOf K (ma K (ga K C) "__init__") = [(("__class__" : Str), ccOf K (ma K (ga K C) "__init__"))] := by
    unfold ccOf
    revert hl
    generalize clOf K (ma K (ga K C) "__init__") = z
    intro hl
    match z, hl with
    | [(x, c)], hl =>
      have hx : x = ("__class__" : Str) := (List.cons.inj hl).1
      rw [hx]
  have hz : (P.main.scope.names.lookup ("super" : Str)).isSome = false := by
    have z := e.b 11 (f := fun _ => !(P.main.scope.names.lookup ("super" : Str)).isSome) rfl
    cases q : (P.main.scope.names.lookup ("super" : Str)).isSome with
    | false => rfl
    | true => rw [q] at z; cases z
  rw [hcl] at l
  exact ⟨⟨oexOk_ok (e.b 0 rfl), e.v 1 rfl, e.o 2 rfl, beq_iff_eq.mp (e.b 3 rfl), e.b 4 rfl⟩,
    _, _, _, _, isRef_ok (e.b 5 rfl), beq_iff_eq.mp (e.b 6 rfl), fun mg hs => ⟨⟨_, doc, pm, an, ct, rfl⟩, ⟨oc, od, osl, l⟩, c, cobjOk_ok (e.b 9 rfl), cellOk_ok (e.b 10 rfl), hs, hz, e.v 12 rfl, e.o 13 rfl, e.o 14 rfl, e.v 15 rfl⟩⟩
end
/-! ### what is looked at -/
theorem obT_eq (ts : List Addr) (n m : Nat) (gs : List (List Ask)) (s : SharedT) : obT ts n m gs s = obS ts n m gs s.abs := by
  unfold obT obS
  rw [show HandSHeadRun.getT s = s.abs.heap.get? from funext (HandSHeadRun.getT_eq s)]
  rfl
theorem le_toks {R : WRecords} {w : World} {s₀ s₁ : Shared} {ns : List Int} {a : Addr} {as : List Addr} {m : Nat} (L : Laid R w s₀ s₁ [ofPy (PyData.list (ns.map PyData.int))] [.ref a] as) (h : m ≤ s₀.toks) : m ≤ s₁.toks := Nat.le_trans h (script_toks L rfl)
theorem walk_any {l : PySem.W.OpenLaw} {n k m sz : Nat} {q : Program} {loose : List Str} {XP : (Str → Option Value) → Heap → Prop} {d : DefRec} {ts : List Addr} {gs : List (List Ask)} {x : Str} (hn : l.most = some n) (hn2 : n ≤ sizeLine) (hdf : d.params.defaults = []) (hr : Room k callerA)
    (F : ∀ (w : World) (mg : Str → Option Value) (fa : Addr) (h : Heap) (K : Frag), K.In h → h.Ns mainGlobals mg → mg d.name = some (.ref fa) → Tolds K gs → (∀ P ∈ ts, K.lookup P = none) → ∃ (fd : FuncData) (cs : List (Addr × Addr)) (sp : Sp), (∀ p ∈ cs, p.2 ∈ ts) ∧ (∀ p ∈ cs, PySem.W.codeHdIn K p.1 p.2 = true) ∧
      (∀ (s : Shared) (u : Value), BindsTo s fd ⟨[u], []⟩ [(x, u)]) ∧ (∀ (H : Hp) (a : Addr) (ns : List Int), ns.length ≤ n → (∀ p ∈ cs, H p.2 = some (.tbl #[])) → a ∉ cs.map (·.2) → SqL K H a (ns.map V.int) → sp [.ref a] H (fun v _ => v = .bl true) fun _ _ _ => False) ∧
      ∀ base : Heap, K.In base → base.Ns mainGlobals mg → (∀ p ∈ cs, TabB base mg p.1 p.2) → FnOkN l.prog w K mg base CX0 k m fa fd [x] sp) : WalkX q loose XP (obS ts sz m gs) (fun _ => valG ts gs) l.row.toRowW d [] (fun f vs => PySem.call f vs) := by
  intro w s₀ s₁ mg mb G y fa o pm cd doc dV kV ho hd hcd hD hmg hg args vals as' L hpre hlay hrd hwl hlo
  obtain rfl : dV = .none := Dflts.none hD hdf
  obtain rfl : kV = .none := Dflts.noKw hD
  obtain ⟨a, vs, ns, rfl, rfl, hobj, hints, hlen⟩ := Att.script_of hn hpre hwl
  have y1 : Tolds (wholeK ts sz s₀.heap.get?) gs := congrArg (fun z : List (List Ans) × Bool × List (Option Obj) => z.1) y
  have y2 : m ≤ s₀.toks := Nat.le_of_ble_eq_true (congrArg (fun z : List (List Ans) × Bool × List (Option Obj) => z.2.1) y)
  have y3 : ts.map s₀.heap.get? = ts.map fun _ => some noObj := congrArg (fun z : List (List Ans) × Bool × List (Option Obj) => z.2.2) y
  have KX : (wholeK ts sz s₀.heap.get?).In s₁.heap := Frag.In.keeps wholeK_in L.keeps
  obtain ⟨fd, cs, sp, h1, h3, hb, hsp, hF⟩ := F w mg fa _ _ KX G.T.g hmg y1 fun P hp => wholeK_no hp
  have hT : ∀ p ∈ cs, s₁.heap.get? p.2 = some noObj := fun p hp => by
    have e : ∀ P ∈ ts, s₀.heap.get? P = some noObj := fun P hP => List.map_inj_left.mp y3 P hP
    exact L.keeps _ _ (e p.2 (h1 p hp))
  refine enter_call (codeAny_mono (law_callTN KX G.T.g G.T.b G.T.builtins G.T.nolimit hg hT (fun p hp => wholeK_no (h1 p hp)) h3 G.T.bmain hobj hints (Nat.le_trans hlen hn2) hr (le_toks (ns := ns) (by rw [ofPy_ints]; exact L) y2) hF hb fun H z1 z2 z3 => hsp H a ns hlen z1 z2 z3) fun r s' hq => ?_)
  obtain ⟨rfl, g2, g3, g4⟩ := hq
  exact ⟨.inl ⟨.bool true, .bool true, [], rfl, fun _ => rfl, .bool true, Att.post_true l _, fun _ => ⟨List.Pairwise.nil, fun _ hm => (nomatch hm)⟩⟩, g2, g3, g4⟩
end HF

/-! law_k35: all together, over the facts. -/
namespace SP
open PySem PySem.Spec PyProof.Rows L2 PD LamX
theorem fin8 {P : Program} {w : World} {K : PySem.W.Frag} {h : Heap} {mg : Str → Option Value} {fa C T CR CT c1 c2 cL P1 : Addr} {t_PIECE_LETTERS t_ORDER_BLOCKS t_MOST_BLOCKS t_MOST_PRICE t_NOTHING u1 u2 : Tok} {dT : Option Addr} {nT : Nat} {slT : Array (Option Value)} (X : K.In h) (G : h.Ns mainGlobals mg) (hfa : mg "law" = some (.ref fa))
    (aC : PySem.W.nsIn K mainGlobals "File" = some (some (.ref C)))
    (b_isinstance : PySem.W.nsIn K mainGlobals "isinstance" = some none)
    (b_int : PySem.W.nsIn K mainGlobals "int" = some none)
    (b_bool : PySem.W.nsIn K mainGlobals "bool" = some none)
    (b_str : PySem.W.nsIn K mainGlobals "str" = some none)
    (b_tuple : PySem.W.nsIn K mainGlobals "tuple" = some none)
    (b_list : PySem.W.nsIn K mainGlobals "list" = some none)
    (b_len : PySem.W.nsIn K mainGlobals "len" = some none)
    (b_all : PySem.W.nsIn K mainGlobals "all" = some none)
    (b_range : PySem.W.nsIn K mainGlobals "range" = some none)
    (b_enumerate : PySem.W.nsIn K mainGlobals "enumerate" = some none)
    (b_sum : PySem.W.nsIn K mainGlobals "sum" = some none)
    (b_super : PySem.W.nsIn K mainGlobals "super" = some none)
    (c_PIECE_LETTERS : PySem.W.nsIn K mainGlobals "PIECE_LETTERS" = some (some (.int 2 t_PIECE_LETTERS)))
    (c_ORDER_BLOCKS : PySem.W.nsIn K mainGlobals "ORDER_BLOCKS" = some (some (.int 3 t_ORDER_BLOCKS)))
    (c_MOST_BLOCKS : PySem.W.nsIn K mainGlobals "MOST_BLOCKS" = some (some (.int 4 t_MOST_BLOCKS)))
    (c_MOST_PRICE : PySem.W.nsIn K mainGlobals "MOST_PRICE" = some (some (.int 5 t_MOST_PRICE)))
    (c_NOTHING : PySem.W.nsIn K mainGlobals "NOTHING" = some (some (.str "-" t_NOTHING)))
    (c_SETS : PySem.W.nsIn K mainGlobals "LETTER_SETS" = some (some (.ref T)))
    (r_SETS : K.lookup T = some ⟨.type "tuple", dT, .seq #[.str "ab" u1, .str "abc" u2] nT, slT⟩)
    (pg : PySem.W.plainGet K C Str.empty = true)
    (hd : PySem.W.hasDictIn K C = true)
    (po : PySem.W.plainOver K C = true)
    (sa : PySem.W.findIn K (.ref C) "__setattr__" = some (some (.builtin "object.__setattr__")))
    (kc : PySem.W.findIn K (.ref C) "__class__" = some (some (.builtin "object.__class__")))
    (kg : PySem.W.specialIn K (.builtin "object.__class__") "__get__" = some (some (.builtin "getset_descriptor.__get__")))
    (kt : PySem.W.takesIn K (.builtin "object.__class__") = some true)
    (km : PySem.W.mroIn K C (.type "object") = some true)
    (kn : PySem.W.findIn K (.ref C) "__ne__" = some (some (.builtin "object.__ne__")))
    (ks : PySem.W.subIn K (.ref C) (.type "object") = some true)
    (no_letters : PySem.W.findIn K (.ref C) "_letters" = some none)
    (no_pieces : PySem.W.findIn K (.ref C) "_pieces" = some none)
    (no_order : PySem.W.findIn K (.ref C) "_order" = some none)
    (no_piece_price : PySem.W.findIn K (.ref C) "_piece_price" = some none)
    (no_order_price : PySem.W.findIn K (.ref C) "_order_price" = some none)
    (no_torn : PySem.W.findIn K (.ref C) "_torn" = some none)
    (p_letters : PropAt K C "letters" "File.letters" (inClass sFile 1))
    (p_pieces : PropAt K C "pieces" "File.pieces" (inClass sFile 2))
    (p_order : PropAt K C "order" "File.order" (inClass sFile 3))
    (p_piece_price : PropAt K C "piece_price" "File.piece_price" (inClass sFile 4))
    (p_order_price : PropAt K C "order_price" "File.order_price" (inClass sFile 5))
    (p_torn : PropAt K C "torn" "File.torn" (inClass sFile 6))
    (m_len : MethAt K C "__len__" "File.__len__" sFLen)
    (m_eq : MethAt K C "__eq__" "File.__eq__" sFEq)
    (m_init : InitAt K C sFInit)
    (d_is_number : DefAt K "is_number" sNumber)
    (d_is_word : DefAt K "is_word" sWord)
    (d_is_piece : DefAt K "is_piece" sPiece)
    (d_is_block : DefAt K "is_block" sBlock)
    (d_is_order : DefAt K "is_order" sOrder)
    (d_is_state_write : DefAt K "is_state_write" sSWrite)
    (d_contents : DefAt K "contents" sContents)
    (d_all_pieces : DefAt K "all_pieces" sAllPieces)
    (d_all_orders : DefAt K "all_orders" sAllOrders)
    (d_every_write : DefAt K "every_write" sEvery)
    (d_put_content : DefAt K "put_content" sPut)
    (d_state_after : DefAt K "state_after" sSAfter)
    (d_is_letters : DefAt K "is_letters" sIsLetters)
    (d_are_pieces : DefAt K "are_pieces" sArePieces)
    (d_is_price : DefAt K "is_price" sIsPrice)
    (d_check_file : DefAt K "check_file" sCheckFile)
    (d_file_state : DefAt K "file_state" sFileState)
    (d_passed_states : DefAt K "passed_states" sPassed)
    (d_check_writes : DefAt K "check_writes" sCheckWrites)
    (d_piece_word : DefAt K "piece_word" s_piece_word)
    (d_torn_line : DefAt K "torn_line" s_torn_line)
    (d_letters_line : DefAt K "letters_line" s_letters_line)
    (d_piece_line : DefAt K "piece_line" s_piece_line)
    (d_price_line : DefAt K "price_line" s_price_line)
    (d_order_line : DefAt K "order_line" s_order_line)
    (d_write_line : DefAt K "write_line" s_write_line)
    (d_price_lines : DefAt K "price_lines" s_price_lines)
    (d_terminated : DefAt K "terminated" s_terminated)
    (d_file_text : DefAt K "file_text" s_file_text)
    (d_writes_text : DefAt K "writes_text" s_writes_text)
    (d_read_file : DefAt K "read_file" s_read_file)
    (d_read_writes : DefAt K "read_writes" s_read_writes)
    (d__law_number : DefAt K "_law_number" s__law_number)
    (d__law_file : DefAt K "_law_file" s__law_file)
    (d__law_after : DefAt K "_law_after" s__law_after)
    (d__law_writes : DefAt K "_law_writes" s__law_writes)
    (d__law_state : DefAt K "_law_state" s__law_state)
    (d__law_order : DefAt K "_law_order" s__law_order)
    (d__law_piece : DefAt K "_law_piece" s__law_piece)
    (d__law_lines : DefAt K "_law_lines" s__law_lines)
    (d__law_write : DefAt K "_law_write" s__law_write)
    (d__law_row : DefAt K "_law_row" s__law_row)
    (d__law_files_right : DefAt K "_law_files_right" s__law_files_right)
    (aCR : PySem.W.nsIn K mainGlobals "Reader" = some (some (.ref CR)))
    (aCT : PySem.W.nsIn K mainGlobals "BadText" = some (some (.ref CT)))
    (r_pg : PySem.W.plainGet K CR Str.empty = true)
    (r_hd : PySem.W.hasDictIn K CR = true)
    (r_po : PySem.W.plainOver K CR = true)
    (r_sa : PySem.W.findIn K (.ref CR) "__setattr__" = some (some (.builtin "object.__setattr__")))
    (ro_lines : PySem.W.findIn K (.ref CR) "lines" = some none)
    (ro_rest : PySem.W.findIn K (.ref CR) "rest" = some none)
    (ro_row : PySem.W.findIn K (.ref CR) "row" = some none)
    (rm_look : MethAt K CR "look" "Reader.look" s_Reader_look)
    (rm_take : MethAt K CR "take" "Reader.take" s_Reader_take)
    (rm_end : MethAt K CR "end" "Reader.end" s_Reader_end)
    (rm_init : InitAt0 K CR "Reader.__init__" s_Reader_init)
    (xiCT : XiK P K CT "BadText.__init__" s_BadText_init)
    (xno : PySem.W.findIn K (.ref CT) "row" = some none)
    (xe : PySem.W.exmOne K (.ref CT) (.ref CT) = some true)
    (xf : XfC K CT)
    (mk1 : MakerAt K "_law_writes_right" s__law_writes_right c1)
    (mk2 : MakerAt K "_law_all_right" s__law_all_right c2)
    (mkl : MakerAt K "law" s_law cL)
    : ∃ fd : FuncData, (∀ (s : Shared) (v : Value), BindsTo s fd ⟨[v], []⟩ [("_law_script", v)]) ∧ ∀ base : Heap, K.In base → base.Ns mainGlobals mg → (∀ p ∈ [(c1, P1)], TabB base mg p.1 p.2) → FnOkN P w K mg base CX0 11 1 fa fd ["_law_script"] (spT K [(P1, qWR)] R_law8) := by
  obtain ⟨_, _, a_is_number, F_is_number⟩ := d_is_number
  obtain ⟨_, _, a_is_word, F_is_word⟩ := d_is_word
  obtain ⟨_, _, a_is_piece, F_is_piece⟩ := d_is_piece
  obtain ⟨_, _, a_is_block, F_is_block⟩ := d_is_block
  obtain ⟨_, _, a_is_order, F_is_order⟩ := d_is_order
  obtain ⟨_, _, a_is_state_write, F_is_state_write⟩ := d_is_state_write
  obtain ⟨_, _, a_contents, F_contents⟩ := d_contents
  obtain ⟨_, _, a_all_pieces, F_all_pieces⟩ := d_all_pieces
  obtain ⟨_, _, a_all_orders, F_all_orders⟩ := d_all_orders
  obtain ⟨_, _, a_every_write, F_every_write⟩ := d_every_write
  obtain ⟨_, _, a_put_content, F_put_content⟩ := d_put_content
  obtain ⟨_, _, a_state_after, F_state_after⟩ := d_state_after
  obtain ⟨_, _, a_is_letters, F_is_letters⟩ := d_is_letters
  obtain ⟨_, _, a_are_pieces, F_are_pieces⟩ := d_are_pieces
  obtain ⟨_, _, a_is_price, F_is_price⟩ := d_is_price
  obtain ⟨_, _, a_check_file, F_check_file⟩ := d_check_file
  obtain ⟨_, _, a_file_state, F_file_state⟩ := d_file_state
  obtain ⟨_, _, a_passed_states, F_passed_states⟩ := d_passed_states
  obtain ⟨_, _, a_check_writes, F_check_writes⟩ := d_check_writes
  obtain ⟨_, _, a_piece_word, F_piece_word⟩ := d_piece_word
  obtain ⟨_, _, a_torn_line, F_torn_line⟩ := d_torn_line
  obtain ⟨_, _, a_letters_line, F_letters_line⟩ := d_letters_line
  obtain ⟨_, _, a_piece_line, F_piece_line⟩ := d_piece_line
  obtain ⟨_, _, a_price_line, F_price_line⟩ := d_price_line
  obtain ⟨_, _, a_order_line, F_order_line⟩ := d_order_line
  obtain ⟨_, _, a_write_line, F_write_line⟩ := d_write_line
  obtain ⟨_, _, a_price_lines, F_price_lines⟩ := d_price_lines
  obtain ⟨_, _, a_terminated, F_terminated⟩ := d_terminated
  obtain ⟨_, _, a_file_text, F_file_text⟩ := d_file_text
  obtain ⟨_, _, a_writes_text, F_writes_text⟩ := d_writes_text
  obtain ⟨_, _, a_read_file, F_read_file⟩ := d_read_file
  obtain ⟨_, _, a_read_writes, F_read_writes⟩ := d_read_writes
  obtain ⟨_, _, a__law_number, F__law_number⟩ := d__law_number
  obtain ⟨_, _, a__law_file, F__law_file⟩ := d__law_file
  obtain ⟨_, _, a__law_after, F__law_after⟩ := d__law_after
  obtain ⟨_, _, a__law_writes, F__law_writes⟩ := d__law_writes
  obtain ⟨_, _, a__law_state, F__law_state⟩ := d__law_state
  obtain ⟨_, _, a__law_order, F__law_order⟩ := d__law_order
  obtain ⟨_, _, a__law_piece, F__law_piece⟩ := d__law_piece
  obtain ⟨_, _, a__law_lines, F__law_lines⟩ := d__law_lines
  obtain ⟨_, _, a__law_write, F__law_write⟩ := d__law_write
  obtain ⟨_, _, a__law_row, F__law_row⟩ := d__law_row
  obtain ⟨_, _, a__law_files_right, F__law_files_right⟩ := d__law_files_right
  obtain ⟨_, _, a__law_writes_right, F__law_writes_right, k__law_writes_right⟩ := mk1
  obtain ⟨_, _, a__law_all_right, F__law_all_right, k__law_all_right⟩ := mk2
  obtain ⟨f_law, fd_law, a_law, F_law, k_law⟩ := mkl
  obtain ⟨_, _, _, O_letters, F_p_letters⟩ := p_letters
  obtain ⟨_, _, _, O_pieces, F_p_pieces⟩ := p_pieces
  obtain ⟨_, _, _, O_order, F_p_order⟩ := p_order
  obtain ⟨_, _, _, O_piece_price, F_p_piece_price⟩ := p_piece_price
  obtain ⟨_, _, _, O_order_price, F_p_order_price⟩ := p_order_price
  obtain ⟨_, _, _, O_torn, F_p_torn⟩ := p_torn
  obtain ⟨_, _, M_len, F_m_len⟩ := m_len
  obtain ⟨_, _, M_eq, F_m_eq⟩ := m_eq
  obtain ⟨_, _, M_init, F_m_init⟩ := m_init
  obtain ⟨_, _, MR_look, FR_look⟩ := rm_look
  obtain ⟨_, _, MR_take, FR_take⟩ := rm_take
  obtain ⟨_, _, MR_end, FR_end⟩ := rm_end
  obtain ⟨_, _, MR_init, FR_init⟩ := rm_init
  have e := hfa.symm.trans (PySem.W.mg_of X G a_law)
  cases e
  refine ⟨fd_law, ?_, fun base _ _ tb => ?_⟩
  · obtain ⟨oc, od, kV, doc, pm, an, ct, osl, rfl, _⟩ := F_law.ex
    exact fun s v => .of_eq rfl
  let g : Gb := ⟨P, w, K, mg, base⟩
  have B : Bt g := ⟨PySem.W.mg_none_of X G b_isinstance, PySem.W.mg_none_of X G b_int, PySem.W.mg_none_of X G b_bool, PySem.W.mg_none_of X G b_str, PySem.W.mg_none_of X G b_tuple, PySem.W.mg_none_of X G b_list, PySem.W.mg_none_of X G b_len, PySem.W.mg_none_of X G b_all, PySem.W.mg_none_of X G b_range, PySem.W.mg_none_of X G b_enumerate, PySem.W.mg_none_of X G b_sum⟩
  have S : Cs g := ⟨⟨_, PySem.W.mg_of X G c_PIECE_LETTERS⟩, ⟨_, PySem.W.mg_of X G c_ORDER_BLOCKS⟩⟩
  have S2 : Cf g := ⟨⟨_, PySem.W.mg_of X G c_MOST_BLOCKS⟩, ⟨_, PySem.W.mg_of X G c_MOST_PRICE⟩, ⟨_, PySem.W.mg_of X G c_SETS, letters_mk r_SETS⟩⟩
  have CT0 : Ct g := ⟨⟨_, PySem.W.mg_of X G c_NOTHING⟩, trivial⟩
  have n_is_number : Fn g 1 "is_number" R_number := Fn.mk' F_is_number (ok_number (g := g) B F_is_number) (PySem.W.mg_of X G a_is_number) (F_is_number.binds (ps := ["value"]) fun _ _ _ _ _ _ us hl => match us, hl with | [_], _ => rfl)
  have n_is_word : Fn g 1 "is_word" R_word := Fn.mk' F_is_word (ok_word (g := g) B F_is_word) (PySem.W.mg_of X G a_is_word) (F_is_word.binds (ps := ["letters", "most", "value"]) fun _ _ _ _ _ _ us hl => match us, hl with | [_, _, _], _ => rfl)
  have n_is_piece : Fn g 2 "is_piece" R_piece := Fn.mk' F_is_piece (ok_piece (g := g) S n_is_word F_is_piece) (PySem.W.mg_of X G a_is_piece) (F_is_piece.binds (ps := ["letters", "value"]) fun _ _ _ _ _ _ us hl => match us, hl with | [_, _], _ => rfl)
  have n_is_block : Fn g 2 "is_block" R_block := Fn.mk' F_is_block (ok_block (g := g) n_is_number F_is_block) (PySem.W.mg_of X G a_is_block) (F_is_block.binds (ps := ["blocks", "value"]) fun _ _ _ _ _ _ us hl => match us, hl with | [_, _], _ => rfl)
  have n_is_order : Fn g 3 "is_order" R_order := Fn.mk' F_is_order (ok_order (g := g) B S n_is_block F_is_order) (PySem.W.mg_of X G a_is_order) (F_is_order.binds (ps := ["blocks", "value"]) fun _ _ _ _ _ _ us hl => match us, hl with | [_, _], _ => rfl)
  have n_is_state_write : Fn g 4 "is_state_write" R_swrite := Fn.mk' F_is_state_write (ok_swrite (g := g) B n_is_piece n_is_block n_is_order F_is_state_write) (PySem.W.mg_of X G a_is_state_write) (F_is_state_write.binds (ps := ["letters", "state", "value"]) fun _ _ _ _ _ _ us hl => match us, hl with | [_, _, _], _ => rfl)
  have n_contents : Fn g 1 "contents" R_contents := Fn.mk' F_contents (ok_contents (g := g) B F_contents) (PySem.W.mg_of X G a_contents) (F_contents.binds (ps := ["empty", "items", "most"]) fun _ _ _ _ _ _ us hl => match us, hl with | [_, _, _], _ => rfl)
  have n_all_pieces : Fn g 2 "all_pieces" R_allp := Fn.mk' F_all_pieces (ok_allp (g := g) B S n_contents F_all_pieces) (PySem.W.mg_of X G a_all_pieces) (F_all_pieces.binds (ps := ["letters"]) fun _ _ _ _ _ _ us hl => match us, hl with | [_], _ => rfl)
  have n_all_orders : Fn g 2 "all_orders" R_allo := Fn.mk' F_all_orders (ok_allo (g := g) B S n_contents F_all_orders) (PySem.W.mg_of X G a_all_orders) (F_all_orders.binds (ps := ["blocks"]) fun _ _ _ _ _ _ us hl => match us, hl with | [_], _ => rfl)
  have n_every_write : Fn g 3 "every_write" R_every := Fn.mk' F_every_write (ok_every (g := g) B n_all_pieces n_all_orders F_every_write) (PySem.W.mg_of X G a_every_write) (F_every_write.binds (ps := ["letters", "blocks"]) fun _ _ _ _ _ _ us hl => match us, hl with | [_, _], _ => rfl)
  have n_put_content : Fn g 1 "put_content" R_put := Fn.mk' F_put_content (ok_put (g := g) F_put_content) (PySem.W.mg_of X G a_put_content) (F_put_content.binds (ps := ["state", "write", "content"]) fun _ _ _ _ _ _ us hl => match us, hl with | [_, _, _], _ => rfl)
  have n_state_after : Fn g 2 "state_after" R_safter := Fn.mk' F_state_after (ok_safter (g := g) n_put_content F_state_after) (PySem.W.mg_of X G a_state_after) (F_state_after.binds (ps := ["state", "write"]) fun _ _ _ _ _ _ us hl => match us, hl with | [_, _], _ => rfl)
  have n_is_letters : Fn g 1 "is_letters" R_isl := Fn.mk' F_is_letters (ok_isl (g := g) B S2 F_is_letters) (PySem.W.mg_of X G a_is_letters) (F_is_letters.binds (ps := ["value"]) fun _ _ _ _ _ _ us hl => match us, hl with | [_], _ => rfl)
  have n_are_pieces : Fn g 3 "are_pieces" R_arep := Fn.mk' F_are_pieces (ok_arep (g := g) B S2 n_is_piece F_are_pieces) (PySem.W.mg_of X G a_are_pieces) (F_are_pieces.binds (ps := ["letters", "value"]) fun _ _ _ _ _ _ us hl => match us, hl with | [_, _], _ => rfl)
  have n_is_price : Fn g 2 "is_price" R_price := Fn.mk' F_is_price (ok_price (g := g) S2 n_is_number F_is_price) (PySem.W.mg_of X G a_is_price) (F_is_price.binds (ps := ["value"]) fun _ _ _ _ _ _ us hl => match us, hl with | [_], _ => rfl)
  have L : Fl g C := ⟨⟨⟨pg, hd, po, sa⟩, kc, kg, kt, km, PySem.W.mg_of X G aC⟩, no_letters, no_pieces, no_order, no_piece_price, no_order_price, no_torn⟩
  have q_init := ok_finit (g := g) B L n_is_letters n_are_pieces n_is_order n_is_price F_m_init
  obtain ⟨mv, KB⟩ := F_m_init.kbinds0 (ps := ["self", "letters", "pieces", "order", "piece_price", "order_price", "torn"]) 4 ["piece_price", "order_price", "torn"] [] (fun us _ ws => us ++ ws) (by simp [kw3]) (fun q hq => by cases hq) (fun r1 _ r2 => r1.append r2) (fun D doc pm an cdv ct us mv ws l1 _ l2 => match us, ws, l1, l2 with | [_, _, _, _], [_, _, _], _, _ => rfl)
  have MF : Mf g 4 3 ["piece_price", "order_price", "torn"] C "File" [] R_finit := ⟨PySem.W.mg_of X G aC, _, _, _, _, _, [], M_init, q_init, KB, fun v vs zs => by rw [List.append_nil]; rfl, fun S => .nil⟩
  have P_letters : Pr g 1 C "letters" (R_get C "_letters") := ⟨_, _, O_letters, _, ["self"], ok_get (g := g) L.kl.c L.n1 ⟨rfl, rfl, rfl, by decide +kernel, rfl, by decide +kernel, by decide +kernel⟩ rfl F_p_letters, (F_p_letters.binds (ps := ["self"]) fun _ _ _ _ _ _ us hl => match us, hl with | [_], _ => rfl)⟩
  have P_pieces : Pr g 1 C "pieces" (R_get C "_pieces") := ⟨_, _, O_pieces, _, ["self"], ok_get (g := g) L.kl.c L.n2 ⟨rfl, rfl, rfl, by decide +kernel, rfl, by decide +kernel, by decide +kernel⟩ rfl F_p_pieces, (F_p_pieces.binds (ps := ["self"]) fun _ _ _ _ _ _ us hl => match us, hl with | [_], _ => rfl)⟩
  have P_order : Pr g 1 C "order" (R_get C "_order") := ⟨_, _, O_order, _, ["self"], ok_get (g := g) L.kl.c L.n3 ⟨rfl, rfl, rfl, by decide +kernel, rfl, by decide +kernel, by decide +kernel⟩ rfl F_p_order, (F_p_order.binds (ps := ["self"]) fun _ _ _ _ _ _ us hl => match us, hl with | [_], _ => rfl)⟩
  have P_piece_price : Pr g 1 C "piece_price" (R_get C "_piece_price") := ⟨_, _, O_piece_price, _, ["self"], ok_get (g := g) L.kl.c L.n4 ⟨rfl, rfl, rfl, by decide +kernel, rfl, by decide +kernel, by decide +kernel⟩ rfl F_p_piece_price, (F_p_piece_price.binds (ps := ["self"]) fun _ _ _ _ _ _ us hl => match us, hl with | [_], _ => rfl)⟩
  have P_order_price : Pr g 1 C "order_price" (R_get C "_order_price") := ⟨_, _, O_order_price, _, ["self"], ok_get (g := g) L.kl.c L.n5 ⟨rfl, rfl, rfl, by decide +kernel, rfl, by decide +kernel, by decide +kernel⟩ rfl F_p_order_price, (F_p_order_price.binds (ps := ["self"]) fun _ _ _ _ _ _ us hl => match us, hl with | [_], _ => rfl)⟩
  have P_torn : Pr g 1 C "torn" (R_get C "_torn") := ⟨_, _, O_torn, _, ["self"], ok_get (g := g) L.kl.c L.n6 ⟨rfl, rfl, rfl, by decide +kernel, rfl, by decide +kernel, by decide +kernel⟩ rfl F_p_torn, (F_p_torn.binds (ps := ["self"]) fun _ _ _ _ _ _ us hl => match us, hl with | [_], _ => rfl)⟩
  have Pf : Fp g C := ⟨P_letters, P_pieces, P_order, P_piece_price, P_order_price, P_torn, MF⟩
  have ME_len : Lo g 1 C (R_flen C) := ⟨_, M_len, _, ["self"], ok_flen (g := g) B L F_m_len, (F_m_len.binds (ps := ["self"]) fun _ _ _ _ _ _ us hl => match us, hl with | [_], _ => rfl)⟩
  have EF : Eo g 1 C (R_feq C) := ⟨⟨_, M_eq, _, ["self", "other"], ok_feq (g := g) B L F_m_eq, (F_m_eq.binds (ps := ["self", "other"]) fun _ _ _ _ _ _ us hl => match us, hl with | [_, _], _ => rfl)⟩, kn, ks⟩
  have n_check_file : Fn g 1 "check_file" (R_cfile C) := Fn.mk' F_check_file (ok_cfile (g := g) B L F_check_file) (PySem.W.mg_of X G a_check_file) (F_check_file.binds (ps := ["file"]) fun _ _ _ _ _ _ us hl => match us, hl with | [_], _ => rfl)
  have n_file_state : Fn g 3 "file_state" (R_fstate C) := Fn.mk' F_file_state (ok_fstate (g := g) L Pf F_file_state) (PySem.W.mg_of X G a_file_state) (F_file_state.binds (ps := ["file"]) fun _ _ _ _ _ _ us hl => match us, hl with | [_], _ => rfl)
  have n_passed_states : Fn g 5 "passed_states" (R_passed C) := Fn.mk' F_passed_states (ok_passed (g := g) B L Pf n_file_state n_is_state_write n_state_after F_passed_states) (PySem.W.mg_of X G a_passed_states) (F_passed_states.binds (ps := ["file", "writes"]) fun _ _ _ _ _ _ us hl => match us, hl with | [_, _], _ => rfl)
  have n_check_writes : Fn g 6 "check_writes" (R_cwrs C) := Fn.mk' F_check_writes (ok_cwrs (g := g) n_passed_states F_check_writes) (PySem.W.mg_of X G a_check_writes) (F_check_writes.binds (ps := ["file", "writes"]) fun _ _ _ _ _ _ us hl => match us, hl with | [_, _], _ => rfl)
  have n_piece_word : Fn g 1 "piece_word" R_pword := Fn.mk' F_piece_word (ok_pword (g := g) CT0 F_piece_word) (PySem.W.mg_of X G a_piece_word) (F_piece_word.binds (ps := ["piece"]) fun _ _ _ _ _ _ us hl => match us, hl with | [_], _ => rfl)
  have n_torn_line : Fn g 1 "torn_line" R_tline := Fn.mk' F_torn_line (ok_tline (g := g) F_torn_line) (PySem.W.mg_of X G a_torn_line) (F_torn_line.binds (ps := ["torn"]) fun _ _ _ _ _ _ us hl => match us, hl with | [_], _ => rfl)
  have n_letters_line : Fn g 1 "letters_line" R_lline := Fn.mk' F_letters_line (ok_lline (g := g) F_letters_line) (PySem.W.mg_of X G a_letters_line) (F_letters_line.binds (ps := ["letters"]) fun _ _ _ _ _ _ us hl => match us, hl with | [_], _ => rfl)
  have n_piece_line : Fn g 2 "piece_line" R_pline := Fn.mk' F_piece_line (ok_pline (g := g) n_piece_word F_piece_line) (PySem.W.mg_of X G a_piece_line) (F_piece_line.binds (ps := ["piece"]) fun _ _ _ _ _ _ us hl => match us, hl with | [_], _ => rfl)
  have n_price_line : Fn g 1 "price_line" R_prline := Fn.mk' F_price_line (ok_prline (g := g) F_price_line) (PySem.W.mg_of X G a_price_line) (F_price_line.binds (ps := ["name", "price"]) fun _ _ _ _ _ _ us hl => match us, hl with | [_, _], _ => rfl)
  have n_order_line : Fn g 1 "order_line" R_oline := Fn.mk' F_order_line (ok_oline (g := g) CT0 B B.str F_order_line) (PySem.W.mg_of X G a_order_line) (F_order_line.binds (ps := ["order"]) fun _ _ _ _ _ _ us hl => match us, hl with | [_], _ => rfl)
  have n_write_line : Fn g 2 "write_line" R_wline := Fn.mk' F_write_line (ok_wline (g := g) n_order_line n_piece_word F_write_line) (PySem.W.mg_of X G a_write_line) (F_write_line.binds (ps := ["write"]) fun _ _ _ _ _ _ us hl => match us, hl with | [_], _ => rfl)
  have n_price_lines : Fn g 2 "price_lines" (R_prlines g.w) := Fn.mk' F_price_lines (ok_prlines (g := g) B S2 n_price_line F_price_lines) (PySem.W.mg_of X G a_price_lines) (F_price_lines.binds (ps := ["name"]) fun _ _ _ _ _ _ us hl => match us, hl with | [_], _ => rfl)
  have n_terminated : Fn g 1 "terminated" R_term := Fn.mk' F_terminated (ok_term (g := g) F_terminated) (PySem.W.mg_of X G a_terminated) (F_terminated.binds (ps := ["lines"]) fun _ _ _ _ _ _ us hl => match us, hl with | [_], _ => rfl)
  have n_file_text : Fn g 3 "file_text" (R_filet C) := Fn.mk' F_file_text (ok_filet (g := g) L Pf n_check_file n_letters_line n_piece_line n_order_line n_price_line n_torn_line n_terminated F_file_text) (PySem.W.mg_of X G a_file_text) (F_file_text.binds (ps := ["file"]) fun _ _ _ _ _ _ us hl => match us, hl with | [_], _ => rfl)
  have n_writes_text : Fn g 7 "writes_text" (R_wrt C) := Fn.mk' F_writes_text (ok_wrt (g := g) n_check_file n_check_writes n_write_line n_terminated F_writes_text) (PySem.W.mg_of X G a_writes_text) (F_writes_text.binds (ps := ["file", "writes"]) fun _ _ _ _ _ _ us hl => match us, hl with | [_, _], _ => rfl)
  have XT : Xi g CT "BadText" txT "row" := xiCT.row (g := g) (PySem.W.mg_of X G aCT) (PySem.W.mg_none_of X G b_super) xno
  have D : Rdr g CR CT := ⟨⟨r_pg, r_hd, r_po, r_sa⟩, ro_lines, ro_rest, ro_row, XT⟩
  have MKR : MkY g 3 CR "Reader" (A_rinit g CR CT) := ⟨PySem.W.mg_of X G aCR, _, _, ["self", "lines"], MR_init, ok_rinit (g := g) B D FR_init, (FR_init.binds (ps := ["self", "lines"]) fun _ _ _ _ _ _ us hl => match us, hl with | [_, _], _ => rfl)⟩
  have ME_look : MeM g 1 CR "look" (A_look g CR) := ⟨_, MR_look, _, ["self", "table"], ok_look (g := g) B D FR_look, (FR_look.binds (ps := ["self", "table"]) fun _ _ _ _ _ _ us hl => match us, hl with | [_, _], _ => rfl)⟩
  have ME_take : MeY g 3 CR "take" (A_take g CR CT) := ⟨_, MR_take, _, ["self", "table"], ok_take (g := g) D ME_look FR_take, (FR_take.binds (ps := ["self", "table"]) fun _ _ _ _ _ _ us hl => match us, hl with | [_, _], _ => rfl)⟩
  have ME_end : MeY g 3 CR "end" (A_end g CR CT) := ⟨_, MR_end, _, ["self"], ok_end (g := g) B D FR_end, (FR_end.binds (ps := ["self"]) fun _ _ _ _ _ _ us hl => match us, hl with | [_], _ => rfl)⟩
  have n_read_file : FnZ g 6 "read_file" (R_readf C CT) := ⟨_, _, ["lines"], ok_readf (g := g) B S S2 D Pf n_letters_line n_piece_line n_order_line n_price_lines n_torn_line n_all_pieces n_all_orders MKR ME_look ME_take ME_end F_read_file, PySem.W.mg_of X G a_read_file, F_read_file.kp, (F_read_file.binds (ps := ["lines"]) fun _ _ _ _ _ _ us hl => match us, hl with | [_], _ => rfl)⟩
  have n_read_writes : FnZ g 6 "read_writes" (R_readw C CT) := ⟨_, _, ["file", "lines"], ok_readw (g := g) B D L Pf n_check_file n_write_line n_every_write n_file_state n_is_state_write n_state_after ME_len MKR ME_look ME_take ME_end F_read_writes, PySem.W.mg_of X G a_read_writes, F_read_writes.kp, (F_read_writes.binds (ps := ["file", "lines"]) fun _ _ _ _ _ _ us hl => match us, hl with | [_, _], _ => rfl)⟩
  have n__law_number : Fn g 1 "_law_number" R_num := Fn.mk' F__law_number (ok_num (g := g) B F__law_number) (PySem.W.mg_of X G a__law_number) (F__law_number.binds (ps := ["_law_script", "_law_index"]) fun _ _ _ _ _ _ us hl => match us, hl with | [_, _], _ => rfl)
  have n__law_file : Fn g 6 "_law_file" (R_lfile C) := Fn.mk' F__law_file (ok_lfile (g := g) B Pf F__law_file) (PySem.W.mg_of X G a__law_file) (F__law_file.binds (ps := ["_law_seed", "_law_blocks"]) fun _ _ _ _ _ _ us hl => match us, hl with | [_, _], _ => rfl)
  have n__law_after : Fn g 1 "_law_after" R_safter := Fn.mk' F__law_after (ok_lafter (g := g) F__law_after) (PySem.W.mg_of X G a__law_after) (F__law_after.binds (ps := ["_law_state_here", "_law_write_here"]) fun _ _ _ _ _ _ us hl => match us, hl with | [_, _], _ => rfl)
  have n__law_writes : Fn g 1 "_law_writes" R_lwrs := Fn.mk' F__law_writes (ok_lwrs (g := g) B F__law_writes) (PySem.W.mg_of X G a__law_writes) (F__law_writes.binds (ps := ["_law_file_here", "_law_state_here"]) fun _ _ _ _ _ _ us hl => match us, hl with | [_, _], _ => rfl)
  have n__law_state : Fn g 3 "_law_state" (R_fstate C) := Fn.mk' F__law_state (ok_lstate (g := g) L Pf F__law_state) (PySem.W.mg_of X G a__law_state) (F__law_state.binds (ps := ["_law_file_here"]) fun _ _ _ _ _ _ us hl => match us, hl with | [_], _ => rfl)
  have n__law_order : Fn g 1 "_law_order" R_lorder := Fn.mk' F__law_order (ok_lorder (g := g) B.str F__law_order) (PySem.W.mg_of X G a__law_order) (F__law_order.binds (ps := ["_law_order_here"]) fun _ _ _ _ _ _ us hl => match us, hl with | [_], _ => rfl)
  have n__law_piece : Fn g 1 "_law_piece" R_pword := Fn.mk' F__law_piece (ok_lpiece (g := g) F__law_piece) (PySem.W.mg_of X G a__law_piece) (F__law_piece.binds (ps := ["_law_piece_here"]) fun _ _ _ _ _ _ us hl => match us, hl with | [_], _ => rfl)
  have n__law_lines : Fn g 3 "_law_lines" (R_llines C) := Fn.mk' F__law_lines (ok_llines (g := g) B.str L Pf n__law_order n__law_piece F__law_lines) (PySem.W.mg_of X G a__law_lines) (F__law_lines.binds (ps := ["_law_file_here"]) fun _ _ _ _ _ _ us hl => match us, hl with | [_], _ => rfl)
  have n__law_write : Fn g 2 "_law_write" R_wline := Fn.mk' F__law_write (ok_lwrite (g := g) B.str n__law_order n__law_piece F__law_write) (PySem.W.mg_of X G a__law_write) (F__law_write.binds (ps := ["_law_write_here"]) fun _ _ _ _ _ _ us hl => match us, hl with | [_], _ => rfl)
  have xt : Xt g CT := ⟨PySem.W.mg_of X G aCT, xe, xf, xno⟩
  have fdR : FdZ g 6 _ (R_readf C CT) := ⟨_, ["lines"], ok_readf (g := g) B S S2 D Pf n_letters_line n_piece_line n_order_line n_price_lines n_torn_line n_all_pieces n_all_orders MKR ME_look ME_take ME_end F_read_file, F_read_file.kp, (F_read_file.binds (ps := ["lines"]) fun _ _ _ _ _ _ us hl => match us, hl with | [_], _ => rfl)⟩
  have n__law_row : Fn g 7 "_law_row" (R_lrow C CT _) := Fn.mk' F__law_row (ok_lrow (g := g) xt fdR F__law_row) (PySem.W.mg_of X G a__law_row) (F__law_row.binds (ps := ["_law_function", "_law_things"]) fun _ _ _ _ _ _ us hl => match us, hl with | [_, _], _ => rfl)
  have rwf : Rwf g CT := ⟨xt, _, _, F__law_row, PySem.W.mg_of X G a__law_row, (F__law_row.binds (ps := ["_law_function", "_law_things"]) fun _ _ _ _ _ _ us hl => match us, hl with | [_, _], _ => rfl)⟩
  have n__law_files_right := FnN.mk' F__law_files_right (ok_filr (g := g) B B.str L Pf EF n__law_lines n_file_text n_read_file n__law_row (PySem.W.mg_of X G a_read_file) F__law_files_right) (PySem.W.mg_of X G a__law_files_right) (F__law_files_right.binds (ps := ["_law_file_here"]) fun _ _ _ _ _ _ us hl => match us, hl with | [_], _ => rfl)
  have t1 : FnT g 9 1 [(P1, qWR)] "_law_writes_right" (R_wrr C) := ⟨_, _, ["_law_script", "_law_start", "_law_file_here"], ok_wrr (g := g) B B.str L Pf n__law_number n__law_state n__law_writes n__law_after n__law_write n__law_order n__law_piece n_writes_text n_read_writes rwf (tb (c1, P1) (by simp)) (by simp) (fun p hp _ => by rw [List.mem_singleton.mp hp]) F__law_writes_right, PySem.W.mg_of X G a__law_writes_right, k__law_writes_right, ((fun_of F__law_writes_right k__law_writes_right).binds (ps := ["_law_script", "_law_start", "_law_file_here"]) fun _ _ _ _ _ _ us hl => match us, hl with | [_, _, _], _ => rfl)⟩
  have t2 : FnT g 10 1 [(P1, qWR)] "_law_all_right" R_lall := ⟨_, _, ["_law_script"], ok_lall (g := g) B L Pf n__law_number n__law_file n__law_files_right t1 n_read_file F__law_all_right, PySem.W.mg_of X G a__law_all_right, k__law_all_right, ((fun_of F__law_all_right k__law_all_right).binds (ps := ["_law_script"]) fun _ _ _ _ _ _ us hl => match us, hl with | [_], _ => rfl)⟩
  exact ok_law8 (g := g) t2 F_law
end SP

/-! What follows from the answers. -/
namespace HF
open PySem PySem.Spec PyProof.Rows L2 PD LamX PySem.W SP
theorem Tolds.left {K : Frag} {a b : List (List Ask)} (e : Tolds K (a ++ b)) : Tolds K a := by
  unfold Tolds at e ⊢
  rw [List.map_append, List.map_append] at e
  exact List.append_inj_left e (by simp)
theorem Tolds.right {K : Frag} {a b : List (List Ask)} (e : Tolds K (a ++ b)) : Tolds K b := by
  unfold Tolds at e ⊢
  rw [List.map_append, List.map_append] at e
  exact List.append_inj_right e (by simp)
theorem end8h {P : Program} {w : World} {K : Frag} {h : Heap} {mg : Str → Option Value} {fa : Addr} (X : K.In h) (G : h.Ns mainGlobals mg) (hfa : mg "law" = some (.ref fa)) (T : Tolds K (qs P)) (hno : ∀ P ∈ [518], K.lookup P = none) :
    ∃ (fd : FuncData) (cs : List (Addr × Addr)) (sp : Sp), (∀ p ∈ cs, p.2 ∈ [518]) ∧ (∀ p ∈ cs, codeHdIn K p.1 p.2 = true) ∧ (∀ (s : Shared) (u : Value), BindsTo s fd ⟨[u], []⟩ [("_law_script", u)]) ∧
      (∀ (H : Hp) (a : Addr) (ns : List Int), ns.length ≤ 63 → (∀ p ∈ cs, H p.2 = some (.tbl #[])) → a ∉ cs.map (·.2) → SqL K H a (ns.map V.int) → sp [.ref a] H (fun v _ => v = .bl true) fun _ _ _ => False) ∧
      ∀ base : Heap, K.In base → base.Ns mainGlobals mg → (∀ p ∈ cs, TabB base mg p.1 p.2) → FnOkN P w K mg base CX0 11 1 fa fd ["_law_script"] sp := by
  unfold qs at T
  have T2 := T.right
  replace T := T.left
  have T1 := T.right
  replace T := T.left
  have T0 := T
  obtain ⟨_, _, _, _, _, z_r_SETS⟩ := tup2_ok (b_of (T0.at 19 rfl))
  have e1 := b_of (f := fun K => codeHdIn K (cdA K "_law_writes_right") 518) (T2.at 28 rfl)
  obtain ⟨fd, hb, hF⟩ := fin8 (P := P) (w := w) (c1 := cdA K "_law_writes_right") (P1 := 518) X G hfa
    (ref_of (T0.at 0 rfl))
    (none_of (T0.at 1 rfl))
    (none_of (T0.at 2 rfl))
    (none_of (T0.at 3 rfl))
    (none_of (T0.at 4 rfl))
    (none_of (T0.at 5 rfl))
    (none_of (T0.at 6 rfl))
    (none_of (T0.at 7 rfl))
    (none_of (T0.at 8 rfl))
    (none_of (T0.at 9 rfl))
    (none_of (T0.at 10 rfl))
    (none_of (T0.at 11 rfl))
    (none_of (T0.at 12 rfl))
    (int_of (T0.at 13 rfl))
    (int_of (T0.at 14 rfl))
    (int_of (T0.at 15 rfl))
    (int_of (T0.at 16 rfl))
    (str_of (T0.at 17 rfl))
    (ref_of (T0.at 18 rfl))
    z_r_SETS
    (b_of (T0.at 20 rfl))
    (b_of (T0.at 21 rfl))
    (b_of (T0.at 22 rfl))
    (v_of (T0.at 23 rfl))
    (v_of (T0.at 24 rfl))
    (v_of (T0.at 25 rfl))
    (o_of (T0.at 26 rfl))
    (o_of (T0.at 27 rfl))
    (v_of (T0.at 28 rfl))
    (o_of (T0.at 29 rfl))
    (v_of (T0.at 30 rfl))
    (v_of (T0.at 31 rfl))
    (v_of (T0.at 32 rfl))
    (v_of (T0.at 33 rfl))
    (v_of (T0.at 34 rfl))
    (v_of (T0.at 35 rfl))
    (prop_of (T0.at 36 rfl))
    (prop_of (T0.at 37 rfl))
    (prop_of (T0.at 38 rfl))
    (prop_of (T0.at 39 rfl))
    (prop_of (T1.at 0 rfl))
    (prop_of (T1.at 1 rfl))
    (meth_of (T1.at 2 rfl))
    (meth_of (T1.at 3 rfl))
    (init_ofF (T1.at 4 rfl))
    (def_of (T1.at 5 rfl))
    (def_of (T1.at 6 rfl))
    (def_of (T1.at 7 rfl))
    (def_of (T1.at 8 rfl))
    (def_of (T1.at 9 rfl))
    (def_of (T1.at 10 rfl))
    (def_of (T1.at 11 rfl))
    (def_of (T1.at 12 rfl))
    (def_of (T1.at 13 rfl))
    (def_of (T1.at 14 rfl))
    (def_of (T1.at 15 rfl))
    (def_of (T1.at 16 rfl))
    (def_of (T1.at 17 rfl))
    (def_of (T1.at 18 rfl))
    (def_of (T1.at 19 rfl))
    (def_of (T1.at 20 rfl))
    (def_of (T1.at 21 rfl))
    (def_of (T1.at 22 rfl))
    (def_of (T1.at 23 rfl))
    (def_of (T1.at 24 rfl))
    (def_of (T1.at 25 rfl))
    (def_of (T1.at 26 rfl))
    (def_of (T1.at 27 rfl))
    (def_of (T1.at 28 rfl))
    (def_of (T1.at 29 rfl))
    (def_of (T1.at 30 rfl))
    (def_of (T1.at 31 rfl))
    (def_of (T1.at 32 rfl))
    (def_of (T1.at 33 rfl))
    (def_of (T1.at 34 rfl))
    (def_of (T1.at 35 rfl))
    (def_of (T1.at 36 rfl))
    (def_of (T1.at 37 rfl))
    (def_of (T1.at 38 rfl))
    (def_of (T1.at 39 rfl))
    (def_of (T2.at 0 rfl))
    (def_of (T2.at 1 rfl))
    (def_of (T2.at 2 rfl))
    (def_of (T2.at 3 rfl))
    (def_of (T2.at 4 rfl))
    (def_of (T2.at 5 rfl))
    (def_of (T2.at 6 rfl))
    (def_of (T2.at 7 rfl))
    (ref_of (T2.at 8 rfl))
    (ref_of (T2.at 9 rfl))
    (b_of (T2.at 10 rfl))
    (b_of (T2.at 11 rfl))
    (b_of (T2.at 12 rfl))
    (v_of (T2.at 13 rfl))
    (v_of (T2.at 14 rfl))
    (v_of (T2.at 15 rfl))
    (v_of (T2.at 16 rfl))
    (meth_of (T2.at 17 rfl))
    (meth_of (T2.at 18 rfl))
    (meth_of (T2.at 19 rfl))
    (init_of0 (T2.at 20 rfl))
    (xi_of (T2.at 21 rfl))
    (v_of (T2.at 22 rfl))
    (o_of (T2.at 23 rfl))
    (L2.xfB_ok (b_of (T2.at 24 rfl)))
    (maker_of (T2.at 25 rfl))
    (maker_of (T2.at 26 rfl))
    (maker_of (T2.at 27 rfl))
  refine ⟨fd, [(cdA K "_law_writes_right", 518)], _, fun p hp => ?_, fun p hp => ?_, hb, fun H a ns hl h1 h2 h3 => at_script8 H a ns hl h1 h2 h3, hF⟩
  · rw [List.mem_singleton.mp hp]; simp
  · rw [List.mem_singleton.mp hp]; exact e1
end HF

open PySem PySem.W PySem.Calls PyProof.Rows
set_option maxHeartbeats 0 in
theorem PySem.Challenge.cw_safepatch_k35_whole_texts_holds : PySem.Challenge.rw_safepatch_k35_whole_texts.Holds := by
  w_on; o_law
  refine PD.head_X (r := OpenLaw.row PySem.Challenge.rw_safepatch_k35_whole_texts) (q := HeadT.qv) (obs := HF.obS [518] 536 1 (HF.qs PySem.Challenge.rw_safepatch_k35_whole_texts.prog)) (val := fun _ => HF.valG [518] (HF.qs PySem.Challenge.rw_safepatch_k35_whole_texts.prog)) (ob := HF.obT [518] 536 1 (HF.qs PySem.Challenge.rw_safepatch_k35_whole_texts.prog)) (M := 8000) (loose := HeadT.names) (d := HandSHeadRun.topDef (OpenLaw.row PySem.Challenge.rw_safepatch_k35_whole_texts).prog 65) (kwd := []) (HF.obT_eq _ _ _ _)
    (by kernel_rfl) (fun s => by kernel_rfl) HeadT.run (by kernel_rfl) (by kernel_rfl) (by kernel_rfl) (by rfl) (by first | assumption | decide +kernel) (by decide +kernel) ⟨rfl, rfl, rfl, rfl, rfl, by decide +kernel⟩ ?hw ?hc
  case hw => w_witness2
  case hc =>
    refine HF.walk_any (l := PySem.Challenge.rw_safepatch_k35_whole_texts) (n := 63) (k := 11) (m := 1) (x := "_law_script") rfl (by decide) (by kernel_rfl) ⟨rfl, by decide, by decide⟩ ?F
    intro w mg fa h K X G hmg0 T hno
    have hmg : mg ("law" : PySem.Str) = some (.ref fa) := by
      have e : (HandSHeadRun.topDef (OpenLaw.row PySem.Challenge.rw_safepatch_k35_whole_texts).prog 65).name = ("law" : PySem.Str) := by kernel_rfl
      rw [← e]
      exact hmg0
    exact HF.end8h X G hmg T hno
#print axioms PySem.Challenge.cw_safepatch_k35_whole_texts_holds
