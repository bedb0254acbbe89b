import PyProof.Rows.All
import Wide.All
import OpenK.AllK
import Wide.FinOn
import HandS.ForMost
import HandS.ForExc
import HandS.Walk
import HandS.Zip
import HandS.Rev
import HandS.Style
import HandS.Property
import HandS.MakeKw
import HandS.OwnEq
import HandS.Star
import HandS.IsInst
import HandS.Wide
import HandS.Flow
import HandS.ExcInit
import HandS.Gcd
import HandS.TupAny
import HandS.TupMul
import HandS.MakeKwOnly
import HandS.EndBits
import PyProof.ReprRoads
import PyProof.ReprLen
import KE.DataCmp
import HandS.NoneIn
import HandS.Dict
import KE.KDictZip
import PySem.Challenge.RW_liftsteps_k12_linear_parts
set_option Elab.async false
set_option linter.all false
set_option maxRecDepth 100000
namespace PK
open PySem L2

/-- data: what a value stands for, without the heap -/
inductive D where
  | non | bl (b : Bool) | int (i : Int) | str (s : Str)
  | lst (xs : List D) | tup (xs : List D)
  | ins (c : Str) (ns : List Str) (xs : List D)
  | scr (ns : List Int)
/-- what a slot holds: data, or a list of the def's own that may change, by its number -/
inductive Vl where
  | fz (d : D) | rf (k : Nat)

section
variable (K : PySem.W.Frag) (mg : Str → Option Value)
mutual
def Rp (B : Hp) : D → V → Prop
  | .non, v => v = .non
  | .bl b, v => v = .bl b
  | .int i, v => v = .int i
  | .str s, v => v = .str s
  | .lst ds, v => ∃ a xs, v = .ref a ∧ B a = some (.lst xs) ∧ Rps B ds xs
  | .tup ds, v => ∃ a xs, v = .ref a ∧ B a = some (.tup xs) ∧ Rps B ds xs
  | .ins c ns ds, v => ∃ a C dx xs, v = .ref a ∧ mg c = some (.ref C) ∧ B a = some (.ins C dx (ns.zip xs)) ∧ ns.length = xs.length ∧ Rps B ds xs
  | .scr ns, v => ∃ a, v = .ref a ∧ SqL K B a (ns.map V.int)
def Rps (B : Hp) : List D → List V → Prop
  | [], vs => vs = []
  | d :: ds, vs => ∃ v r, vs = v :: r ∧ Rp B d v ∧ Rps B ds r
end
end

/-- the slots and the lists that may change (none: dead) -/
structure Dl where
  sl : List (Option Vl)
  st : List (Option (List D))

theorem sqL_mono {K : PySem.W.Frag} {B B' : Hp} {a : Addr} {xs : List V} (e : Same B B') (h : SqL K B a xs) : SqL K B' a xs := e.seq h
theorem sqT_mono {K : PySem.W.Frag} {B B' : Hp} {a : Addr} {xs : List V} (e : Same B B') (h : SqT K B a xs) : SqT K B' a xs := by
  rcases h with (h | ⟨o, h⟩) | h
  · exact .inl (.inl (e _ _ h))
  · exact .inl (.inr ⟨o, e _ _ h⟩)
  · exact .inr h

def Pre (ad ad' : List Addr) : Prop := ∃ m, ad' = ad ++ m
theorem Pre.refl (ad : List Addr) : Pre ad ad := ⟨[], by simp⟩
theorem Pre.trans {a b c : List Addr} (h : Pre a b) (g : Pre b c) : Pre a c := by
  obtain ⟨m, rfl⟩ := h
  obtain ⟨n, rfl⟩ := g
  exact ⟨m ++ n, by simp⟩
theorem Pre.get {a b : List Addr} (h : Pre a b) {k : Nat} {p : Addr} (e : a[k]? = some p) : b[k]? = some p := by
  obtain ⟨m, rfl⟩ := h
  obtain ⟨hk, _⟩ := List.getElem?_eq_some_iff.mp e
  rw [List.getElem?_append_left hk]
  exact e
theorem Pre.app (a m : List Addr) : Pre a (a ++ m) := ⟨m, rfl⟩

section
variable {K : PySem.W.Frag} {mg : Str → Option Value} {B B' : Hp}
mutual
theorem Rp.mono (e : Same B B') : ∀ (d : D) (v : V), Rp K mg B d v → Rp K mg B' d v
  | .non, v, h => h
  | .bl _, v, h => h
  | .int _, v, h => h
  | .str _, v, h => h
  | .lst ds, v, h => by
    obtain ⟨a, xs, h1, h2, h3⟩ := h
    exact ⟨a, xs, h1, e _ _ h2, Rps.mono e ds xs h3⟩
  | .tup ds, v, h => by
    obtain ⟨a, xs, h1, h2, h3⟩ := h
    exact ⟨a, xs, h1, e _ _ h2, Rps.mono e ds xs h3⟩
  | .ins c ns ds, v, h => by
    obtain ⟨a, C, dx, xs, h1, h2, h3, h4, h5⟩ := h
    exact ⟨a, C, dx, xs, h1, h2, e _ _ h3, h4, Rps.mono e ds xs h5⟩
  | .scr ns, v, h => by
    obtain ⟨a, h1, h2⟩ := h
    exact ⟨a, h1, sqL_mono e h2⟩
theorem Rps.mono (e : Same B B') : ∀ (ds : List D) (vs : List V), Rps K mg B ds vs → Rps K mg B' ds vs
  | [], vs, h => h
  | d :: ds, vs, h => by
    obtain ⟨v, r, h1, h2, h3⟩ := h
    exact ⟨v, r, h1, Rp.mono e d v h2, Rps.mono e ds r h3⟩
end
theorem Rps.length : ∀ {ds : List D} {vs : List V}, Rps K mg B ds vs → vs.length = ds.length
  | [], vs, h => by
    have h' : vs = [] := h
    rw [h']; rfl
  | d :: ds, vs, h => by
    obtain ⟨v, r, h1, _, h3⟩ := h
    rw [h1, List.length_cons, List.length_cons, Rps.length h3]
theorem Rps.get : ∀ {ds : List D} {vs : List V} {i : Nat} {d : D}, Rps K mg B ds vs → ds[i]? = some d → ∃ v, vs[i]? = some v ∧ Rp K mg B d v
  | [], vs, i, d, h, e => by simp at e
  | x :: ds, vs, 0, d, h, e => by
    obtain ⟨v, r, h1, h2, h3⟩ := h
    simp at e
    subst e
    exact ⟨v, by rw [h1]; rfl, h2⟩
  | x :: ds, vs, i + 1, d, h, e => by
    obtain ⟨v, r, h1, h2, h3⟩ := h
    obtain ⟨w, h4, h5⟩ := Rps.get h3 (by simpa using e)
    exact ⟨w, by rw [h1]; simpa using h4, h5⟩
theorem Rps.back : ∀ {ds : List D} {vs : List V} {i : Nat} {v : V}, Rps K mg B ds vs → vs[i]? = some v → ∃ d, ds[i]? = some d ∧ Rp K mg B d v := fun {ds vs i v} h e => by
  have hl := Rps.length h
  obtain ⟨hi, _⟩ := List.getElem?_eq_some_iff.mp e
  have hi' : i < ds.length := by omega
  obtain ⟨w, h1, h2⟩ := Rps.get h (List.getElem?_eq_getElem hi')
  rw [e] at h1
  cases h1
  exact ⟨_, List.getElem?_eq_getElem hi', h2⟩
theorem Rps.app : ∀ {ds es : List D} {vs ws : List V}, Rps K mg B ds vs → Rps K mg B es ws → Rps K mg B (ds ++ es) (vs ++ ws)
  | [], es, vs, ws, h, g => by
    have h' : vs = [] := h
    rw [h']; exact g
  | d :: ds, es, vs, ws, h, g => by
    obtain ⟨v, r, h1, h2, h3⟩ := h
    exact ⟨v, r ++ ws, by rw [h1]; rfl, h2, Rps.app h3 g⟩
theorem Rps.one {d : D} {v : V} (h : Rp K mg B d v) : Rps K mg B [d] [v] := ⟨v, [], rfl, h, rfl⟩
theorem Rps.of_get : ∀ {ds : List D} {vs : List V}, vs.length = ds.length → (∀ (i : Nat) (d : D) (v : V), ds[i]? = some d → vs[i]? = some v → Rp K mg B d v) → Rps K mg B ds vs
  | [], vs, hl, h => by
    show vs = []
    exact List.length_eq_zero_iff.mp (by simpa using hl)
  | d :: ds, [], hl, h => by simp at hl
  | d :: ds, v :: vs, hl, h => ⟨v, vs, rfl, h 0 d v rfl rfl, Rps.of_get (by simpa using hl) fun i e w h1 h2 => h (i + 1) e w (by simpa using h1) (by simpa using h2)⟩
theorem Rps.set {ds : List D} {vs : List V} {i : Nat} {d : D} {v : V} (h : Rps K mg B ds vs) (hd : Rp K mg B d v) : Rps K mg B (ds.set i d) (vs.set i v) := by
  have hl := Rps.length h
  refine Rps.of_get (by simp [hl]) fun j e w h1 h2 => ?_
  by_cases hj : i = j
  · subst hj
    obtain ⟨q, _⟩ := List.getElem?_eq_some_iff.mp h1
    have q' : i < ds.length := by simpa using q
    rw [List.getElem?_set_self q'] at h1
    rw [List.getElem?_set_self (by omega)] at h2
    cases h1; cases h2
    exact hd
  · rw [List.getElem?_set_ne hj] at h1 h2
    obtain ⟨w', g1, g2⟩ := Rps.get h h1
    rw [h2] at g1
    cases g1
    exact g2
theorem Rps.take {ds : List D} {vs : List V} (n : Nat) (h : Rps K mg B ds vs) : Rps K mg B (ds.take n) (vs.take n) := by
  have hl := Rps.length h
  refine Rps.of_get (by simp [hl]) fun j e w h1 h2 => ?_
  rw [List.getElem?_take] at h1 h2
  split at h1
  · rename_i hj
    rw [if_pos hj] at h2
    obtain ⟨w', g1, g2⟩ := Rps.get h h1
    rw [h2] at g1
    cases g1
    exact g2
  · cases h1
theorem Rps.drop {ds : List D} {vs : List V} (n : Nat) (h : Rps K mg B ds vs) : Rps K mg B (ds.drop n) (vs.drop n) := by
  have hl := Rps.length h
  refine Rps.of_get (by simp [hl]) fun j e w h1 h2 => ?_
  rw [List.getElem?_drop] at h1 h2
  obtain ⟨w', g1, g2⟩ := Rps.get h h1
  rw [h2] at g1
  cases g1
  exact g2
theorem Rps.rev {ds : List D} {vs : List V} (h : Rps K mg B ds vs) : Rps K mg B ds.reverse vs.reverse := by
  have hl := Rps.length h
  refine Rps.of_get (by simp [hl]) fun j e w h1 h2 => ?_
  obtain ⟨hj, _⟩ := List.getElem?_eq_some_iff.mp h1
  have hj' : j < ds.length := by simpa using hj
  rw [List.getElem?_reverse hj'] at h1
  rw [List.getElem?_reverse (by omega)] at h2
  rw [hl] at h2
  obtain ⟨w', g1, g2⟩ := Rps.get h h1
  rw [h2] at g1
  cases g1
  exact g2
end

def RpV (K : PySem.W.Frag) (mg : Str → Option Value) (B : Hp) (ad : List Addr) : Vl → V → Prop
  | .fz d, v => Rp K mg B d v
  | .rf k, v => ∃ a, v = .ref a ∧ ad[k]? = some a
theorem RpV.mono {K : PySem.W.Frag} {mg : Str → Option Value} {B B' : Hp} {ad ad' : List Addr} (e : Same B B') (p : Pre ad ad') {d : Vl} {v : V} (h : RpV K mg B ad d v) : RpV K mg B' ad' d v := by
  cases d with
  | fz d => exact Rp.mono e d v h
  | rf k =>
    obtain ⟨a, h1, h2⟩ := h
    exact ⟨a, h1, p.get h2⟩

structure SRep (K : PySem.W.Frag) (mg : Str → Option Value) (B F : Hp) (ad : List Addr) (σ : L2.St) (δ : Dl) (H : Hp) : Prop where
  exB : Same B H
  exF : Same F H
  dis : ∀ a o, F a = some o → B a = none
  nd : ad.Nodup
  len : ad.length = δ.st.length
  slen : σ.length = δ.sl.length
  cell : ∀ (k : Nat) (ds : List D), δ.st[k]? = some (some ds) → ∃ (p : Addr) (xs : List V), ad[k]? = some p ∧ H p = some (.lst xs) ∧ Rps K mg B ds xs ∧ B p = none ∧ F p = none
  dead : ∀ (k : Nat) (p : Addr), ad[k]? = some p → δ.st[k]? = some none → B p ≠ none
  slot : ∀ (i : Nat) (d : Vl), δ.sl[i]? = some (some d) → ∃ v, σ[i]? = some (some v) ∧ RpV K mg B ad d v

section
variable {K : PySem.W.Frag} {mg : Str → Option Value} {B B' F : Hp} {ad ad' : List Addr} {σ : L2.St} {δ : Dl} {H : Hp} {p : Addr} {o : HO}
theorem SRep.known (S : SRep K mg B F ad σ δ H) {p : Addr} (hp : p ∈ ad) : H p ≠ none := by
  obtain ⟨k, hk⟩ := List.getElem?_of_mem hp
  obtain ⟨hl, _⟩ := List.getElem?_eq_some_iff.mp hk
  have hl' : k < δ.st.length := by rw [← S.len]; exact hl
  cases e : δ.st[k]? with
  | none => exact absurd (List.getElem?_eq_none_iff.mp e) (by omega)
  | some u =>
    cases u with
    | none =>
      have h1 := S.dead k p hk e
      intro z
      cases q : B p with
      | none => exact h1 q
      | some o =>
        have := S.exB p o q
        rw [z] at this
        cases this
    | some ds =>
      obtain ⟨q, xs, h1, h2, _⟩ := S.cell k ds e
      rw [hk] at h1
      cases h1
      rw [h2]
      simp
theorem same_new (h : H p = none) : Same H (upd H p o) := fun a u e => by
  rw [upd_ne (ne_of_none e h)]
  exact e
/-- a new object, known from now on -/
theorem SRep.alloc (S : SRep K mg B F ad σ δ H) (h : H p = none) : SRep K mg (upd B p o) F ad σ δ (upd H p o) where
  exB := fun a u e => by
    by_cases ha : a = p
    · subst ha
      rw [upd_same] at e ⊢
      exact e
    · rw [upd_ne ha] at e ⊢
      exact S.exB a u e
  exF := fun a u e => by rw [upd_ne (ne_of_none (S.exF a u e) h)]; exact S.exF a u e
  dis := fun a u e => by rw [upd_ne (ne_of_none (S.exF a u e) h)]; exact S.dis a u e
  nd := S.nd
  len := S.len
  slen := S.slen
  cell := fun k ds e => by
    obtain ⟨q, xs, h1, h2, h3, h4, h5⟩ := S.cell k ds e
    have hq : q ≠ p := ne_of_none h2 h
    exact ⟨q, xs, h1, by rw [upd_ne hq]; exact h2, Rps.mono (same_new (S.exB.free h)) ds xs h3, by rw [upd_ne hq]; exact h4, h5⟩
  dead := fun k q h1 h2 => by
    have h3 := S.dead k q h1 h2
    by_cases hq : q = p
    · rw [hq, upd_same]; simp
    · rw [upd_ne hq]; exact h3
  slot := fun i d e => by
    obtain ⟨v, h1, h2⟩ := S.slot i d e
    exact ⟨v, h1, RpV.mono (same_new (S.exB.free h)) (Pre.refl _) h2⟩
/-- a new list that may change -/
theorem SRep.cellNew {xs : List V} {ds : List D} (S : SRep K mg B F ad σ δ H) (h : H p = none) (r : Rps K mg B ds xs) : SRep K mg B F (ad ++ [p]) σ { δ with st := δ.st ++ [some ds] } (upd H p (.lst xs)) where
  exB := fun a u e => by rw [upd_ne (ne_of_none (S.exB a u e) h)]; exact S.exB a u e
  exF := fun a u e => by rw [upd_ne (ne_of_none (S.exF a u e) h)]; exact S.exF a u e
  dis := S.dis
  nd := by
    rw [List.nodup_append]
    refine ⟨S.nd, by simp, fun a ha b hb => ?_⟩
    have hb' : b = p := by simpa using hb
    subst hb'
    exact fun z => S.known ha (by rw [z]; exact h)
  len := by simp [S.len]
  slen := S.slen
  cell := fun k es e => by
    have e' : (δ.st ++ [some ds])[k]? = some (some es) := e
    by_cases hk : k < δ.st.length
    · rw [List.getElem?_append_left hk] at e'
      obtain ⟨q, ys, h1, h2, h3, h4, h5⟩ := S.cell k es e'
      have hq : q ≠ p := ne_of_none h2 h
      exact ⟨q, ys, (Pre.app ad [p]).get h1, by rw [upd_ne hq]; exact h2, h3, h4, h5⟩
    · have hk2 : k = δ.st.length := by
        obtain ⟨q, _⟩ := List.getElem?_eq_some_iff.mp e'
        simp at q
        omega
      subst hk2
      rw [List.getElem?_append_right (Nat.le_refl _)] at e'
      simp at e'
      subst e'
      refine ⟨p, xs, ?_, upd_same, r, S.exB.free h, S.exF.free h⟩
      rw [← S.len, List.getElem?_append_right (Nat.le_refl _)]
      simp
  dead := fun k q h1 h2 => by
    have h2' : (δ.st ++ [some ds])[k]? = some none := h2
    have hk : k < δ.st.length := by
      rcases Nat.lt_or_ge k δ.st.length with z | z
      · exact z
      · rw [List.getElem?_append_right z] at h2'
        cases q : k - δ.st.length with
        | zero => rw [q] at h2'; simp at h2'
        | succ n => rw [q] at h2'; simp at h2'
    rw [List.getElem?_append_left hk] at h2'
    rw [List.getElem?_append_left (by rw [S.len]; exact hk)] at h1
    exact S.dead k q h1 h2'
  slot := fun i d e => by
    obtain ⟨v, h1, h2⟩ := S.slot i d e
    exact ⟨v, h1, RpV.mono (Same.refl _) (Pre.app _ _) h2⟩
/-- a slot is set -/
theorem SRep.setS {i : Nat} {d : Vl} {v : V} (S : SRep K mg B F ad σ δ H) (r : RpV K mg B ad d v) : SRep K mg B F ad (σ.set i (some v)) { δ with sl := δ.sl.set i (some d) } H where
  exB := S.exB
  exF := S.exF
  dis := S.dis
  nd := S.nd
  len := S.len
  slen := by simp [S.slen]
  cell := S.cell
  dead := S.dead
  slot := fun j e he => by
    have he' : (δ.sl.set i (some d))[j]? = some (some e) := he
    by_cases hj : i = j
    · subst hj
      obtain ⟨q, _⟩ := List.getElem?_eq_some_iff.mp he'
      have q' : i < δ.sl.length := by simpa using q
      rw [List.getElem?_set_self q'] at he'
      cases he'
      exact ⟨v, by rw [List.getElem?_set_self (by rw [S.slen]; exact q')], r⟩
    · rw [List.getElem?_set_ne hj] at he' ⊢
      exact S.slot j e he'
/-- a slot is forgotten (whatever stands there) -/
theorem SRep.dropS {i : Nat} {x : Option V} (S : SRep K mg B F ad σ δ H) : SRep K mg B F ad (σ.set i x) { δ with sl := δ.sl.set i none } H where
  exB := S.exB
  exF := S.exF
  dis := S.dis
  nd := S.nd
  len := S.len
  slen := by simp [S.slen]
  cell := S.cell
  dead := S.dead
  slot := fun j e he => by
    have he' : (δ.sl.set i none)[j]? = some (some e) := he
    by_cases hj : i = j
    · subst hj
      obtain ⟨q, _⟩ := List.getElem?_eq_some_iff.mp he'
      have q' : i < δ.sl.length := by simpa using q
      rw [List.getElem?_set_self q'] at he'
      cases he'
    · rw [List.getElem?_set_ne hj] at he' ⊢
      exact S.slot j e he'
/-- a list of our own changes -/
theorem SRep.cellSet {k : Nat} {ds es : List D} {xs ys : List V} (S : SRep K mg B F ad σ δ H) (hk : δ.st[k]? = some (some ds)) (hp : ad[k]? = some p) (hx : H p = some (.lst xs)) (r : Rps K mg B es ys) :
    SRep K mg B F ad σ { δ with st := δ.st.set k (some es) } (upd H p (.lst ys)) := by
  obtain ⟨q, zs, g1, g2, g3, g4, g5⟩ := S.cell k ds hk
  rw [hp] at g1
  cases g1
  have hkl : k < δ.st.length := (List.getElem?_eq_some_iff.mp hk).1
  refine ⟨fun a u e => ?_, fun a u e => ?_, S.dis, S.nd, by simp [S.len], S.slen, fun j fs e => ?_, fun j a h1 h2 => ?_, S.slot⟩
  · rw [upd_ne (ne_of_none e g4)]; exact S.exB a u e
  · rw [upd_ne (ne_of_none e g5)]; exact S.exF a u e
  · have e' : (δ.st.set k (some es))[j]? = some (some fs) := e
    by_cases hj : k = j
    · subst hj
      rw [List.getElem?_set_self hkl] at e'
      cases e'
      exact ⟨p, ys, hp, upd_same, r, g4, g5⟩
    · rw [List.getElem?_set_ne hj] at e'
      obtain ⟨b, ws, h1, h2, h3, h4, h5⟩ := S.cell j fs e'
      have hb : b ≠ p := fun z => by
        subst z
        obtain ⟨hk1, e1⟩ := List.getElem?_eq_some_iff.mp hp
        obtain ⟨hj1, e2⟩ := List.getElem?_eq_some_iff.mp h1
        exact hj ((List.getElem_inj S.nd).mp (e1.trans e2.symm))
      exact ⟨b, ws, h1, by rw [upd_ne hb]; exact h2, h3, h4, h5⟩
  · have h2' : (δ.st.set k (some es))[j]? = some none := h2
    by_cases hj : k = j
    · subst hj
      rw [List.getElem?_set_self hkl] at h2'
      cases h2'
    · rw [List.getElem?_set_ne hj] at h2'
      exact S.dead j a h1 h2'
/-- a list of our own is frozen -/
theorem SRep.freeze {k : Nat} {ds : List D} {xs : List V} (S : SRep K mg B F ad σ δ H) (hk : δ.st[k]? = some (some ds)) (hp : ad[k]? = some p) (hx : H p = some (.lst xs)) :
    SRep K mg (upd B p (.lst xs)) F ad σ { δ with st := δ.st.set k none } H ∧ Same B (upd B p (.lst xs)) := by
  obtain ⟨q, zs, g1, g2, g3, g4, g5⟩ := S.cell k ds hk
  rw [hp] at g1
  cases g1
  have hkl : k < δ.st.length := (List.getElem?_eq_some_iff.mp hk).1
  have sB : Same B (upd B p (.lst xs)) := same_new g4
  refine ⟨⟨fun a u e => ?_, S.exF, fun a u e => ?_, S.nd, by simp [S.len], S.slen, fun j fs e => ?_, fun j a h1 h2 => ?_, fun i d e => ?_⟩, sB⟩
  · by_cases ha : a = p
    · subst ha
      rw [upd_same] at e
      cases e
      exact hx
    · rw [upd_ne ha] at e
      exact S.exB a u e
  · rw [upd_ne (ne_of_none e g5)]; exact S.dis a u e
  · have e' : (δ.st.set k none)[j]? = some (some fs) := e
    by_cases hj : k = j
    · subst hj
      rw [List.getElem?_set_self hkl] at e'
      cases e'
    · rw [List.getElem?_set_ne hj] at e'
      obtain ⟨b, ws, h1, h2, h3, h4, h5⟩ := S.cell j fs e'
      have hb : b ≠ p := fun z => by
        subst z
        obtain ⟨hk1, e1⟩ := List.getElem?_eq_some_iff.mp hp
        obtain ⟨hj1, e2⟩ := List.getElem?_eq_some_iff.mp h1
        exact hj ((List.getElem_inj S.nd).mp (e1.trans e2.symm))
      exact ⟨b, ws, h1, h2, Rps.mono sB fs ws h3, by rw [upd_ne hb]; exact h4, h5⟩
  · have h2' : (δ.st.set k none)[j]? = some none := h2
    by_cases hap : a = p
    · rw [hap, upd_same]; simp
    · rw [upd_ne hap]
      by_cases hj : k = j
      · subst hj
        rw [hp] at h1
        cases h1
        exact absurd rfl hap
      · rw [List.getElem?_set_ne hj] at h2'
        exact S.dead j a h1 h2'
  · obtain ⟨v, h1, h2⟩ := S.slot i d e
    exact ⟨v, h1, RpV.mono sB (Pre.refl _) h2⟩
end
end PK

namespace PK
open PySem L2

theorem PE.weak {X : Cx} {e : Expr} {t t' : TE} (h : PE X e t) (w : ∀ σ H Q, t' σ H Q → t σ H Q) : PE X e t' := ⟨fun pins s σ H Q I q => h.run pins s σ H Q I (w σ H Q q)⟩
theorem PT.weak {X : Cx} {e : Expr} {t t' : TT} (h : PT X e t) (w : ∀ σ H Q, t' σ H Q → t σ H Q) : PT X e t' := ⟨fun pins s σ H Q I q => h.run pins s σ H Q I (w σ H Q q)⟩
theorem PA.weak {X : Cx} {e : List Expr} {t t' : TA} (h : PA X e t) (w : ∀ σ H Q, t' σ H Q → t σ H Q) : PA X e t' := ⟨fun pos pins s σ H Q I q => h.run pos pins s σ H Q I (w σ H Q q)⟩
theorem PS.weak {X : Cx} {e : Stmt} {t t' : TS} (h : PS X e t) (w : ∀ D σ H, t' D σ H → t D σ H) : PS X e t' := ⟨fun pins s σ H D I q => h.run pins s σ H D I (w D σ H q)⟩
theorem PSs.weak {X : Cx} {e : List Stmt} {t t' : TS} (h : PSs X e t) (w : ∀ D σ H, t' D σ H → t D σ H) : PSs X e t' := ⟨fun pins s σ H D I q => h.run pins s σ H D I (w D σ H q)⟩

abbrev EF := Dl → Option (Vl × Dl)
abbrev AF := Dl → Option (List Vl × Dl)
abbrev BF := Dl → Option (Bool × Dl)

section
variable (K : PySem.W.Frag) (mg : Str → Option Value)
def RpVs (B : Hp) (ad : List Addr) : List Vl → List V → Prop
  | [], vs => vs = []
  | d :: ds, vs => ∃ v r, vs = v :: r ∧ RpV K mg B ad d v ∧ RpVs B ad ds r
def tD (f : EF) : TE := fun σ H Q => ∃ B F ad δ r δ', SRep K mg B F ad σ δ H ∧ f δ = some (r, δ') ∧
  ∀ B' ad' v H', Same B B' → Pre ad ad' → SRep K mg B' F ad' σ δ' H' → RpV K mg B' ad' r v → Q v H'
def tDA (f : AF) : TA := fun σ H Q => ∃ B F ad δ r δ', SRep K mg B F ad σ δ H ∧ f δ = some (r, δ') ∧
  ∀ B' ad' v H', Same B B' → Pre ad ad' → SRep K mg B' F ad' σ δ' H' → RpVs K mg B' ad' r v → Q v H'
def tDT (f : BF) : TT := fun σ H Q => ∃ B F ad δ r δ', SRep K mg B F ad σ δ H ∧ f δ = some (r, δ') ∧
  ∀ B' ad' H', Same B B' → Pre ad ad' → SRep K mg B' F ad' σ δ' H' → Q r H'
end
abbrev PD (X : Cx) (e : Expr) (f : EF) := PE X e (tD X.K X.mg f)
abbrev PDA (X : Cx) (es : List Expr) (f : AF) := PA X es (tDA X.K X.mg f)
abbrev PDT (X : Cx) (e : Expr) (f : BF) := PT X e (tDT X.K X.mg f)

theorem RpVs.mono {K : PySem.W.Frag} {mg : Str → Option Value} {B B' : Hp} {ad ad' : List Addr} (e : Same B B') (p : Pre ad ad') : ∀ {ds : List Vl} {vs : List V}, RpVs K mg B ad ds vs → RpVs K mg B' ad' ds vs
  | [], vs, h => h
  | d :: ds, vs, h => by
    obtain ⟨v, r, h1, h2, h3⟩ := h
    exact ⟨v, r, h1, h2.mono e p, RpVs.mono e p h3⟩

/-- what a list or a number is, read at this moment -/
def der (δ : Dl) : Vl → Option D
  | .fz d => some d
  | .rf k => match δ.st[k]? with
    | some (some ds) => some (.lst ds)
    | _ => none
def Vw (K : PySem.W.Frag) (mg : Str → Option Value) (B H : Hp) : D → V → Prop
  | .lst ds, v => ∃ a xs, v = .ref a ∧ H a = some (.lst xs) ∧ Rps K mg B ds xs
  | d, v => Rp K mg B d v
section
variable {K : PySem.W.Frag} {mg : Str → Option Value} {B B' F : Hp} {ad ad' : List Addr} {σ : L2.St} {δ δ' : Dl} {H H' : Hp} {p : Addr} {o : HO}
theorem Rp.vw {d : D} {v : V} (e : Same B H) (h : Rp K mg B d v) : Vw K mg B H d v := by
  cases d with
  | lst ds =>
    obtain ⟨a, xs, h1, h2, h3⟩ := h
    exact ⟨a, xs, h1, e _ _ h2, h3⟩
  | tup ds => exact h
  | non => exact h
  | bl _ => exact h
  | int _ => exact h
  | str _ => exact h
  | ins _ _ _ => exact h
  | scr _ => exact h
theorem SRep.vw {r : Vl} {d : D} {v : V} (S : SRep K mg B F ad σ δ H) (h : RpV K mg B ad r v) (e : der δ r = some d) : Vw K mg B H d v := by
  cases r with
  | fz d' =>
    have e' : d' = d := Option.some.inj e
    subst e'
    exact Rp.vw S.exB h
  | rf k =>
    obtain ⟨a, h1, h2⟩ := h
    unfold der at e
    dsimp only at e
    split at e
    · rename_i ds hk
      cases e
      obtain ⟨q, xs, g1, g2, g3, _, _⟩ := S.cell k ds hk
      rw [h2] at g1
      cases g1
      exact ⟨a, xs, h1, g2, g3⟩
    · cases e

/-! ### names, constants -/
def dC (d : D) : EF := fun δ => some (.fz d, δ)
def dVar (i : Nat) : EF := fun δ => match δ.sl[i]? with
  | some (some r) => some (r, δ)
  | _ => none
end
section
variable {X : Cx} {e a b c : Expr} {f fa fb fc : EF} {pos : Pos}
theorem pd_int {i : Int} {j} : PD X (.Constant (.int i) j pos) (dC (.int i)) := PE.weak pe_int fun σ H Q h => by
  obtain ⟨B, F, ad, δ, r, δ', S, e, k⟩ := h
  cases e
  exact k B ad _ H (Same.refl _) (Pre.refl _) S rfl
theorem pd_bl {i : Bool} {j} : PD X (.Constant (.bool i) j pos) (dC (.bl i)) := PE.weak pe_bl fun σ H Q h => by
  obtain ⟨B, F, ad, δ, r, δ', S, e, k⟩ := h
  cases e
  exact k B ad _ H (Same.refl _) (Pre.refl _) S rfl
theorem pd_str {i : Str} {j} : PD X (.Constant (.str i) j pos) (dC (.str i)) := PE.weak pe_str fun σ H Q h => by
  obtain ⟨B, F, ad, δ, r, δ', S, e, k⟩ := h
  cases e
  exact k B ad _ H (Same.refl _) (Pre.refl _) S rfl
theorem pd_non {j} : PD X (.Constant .none j pos) (dC .non) := PE.weak pe_non fun σ H Q h => by
  obtain ⟨B, F, ad, δ, r, δ', S, e, k⟩ := h
  cases e
  exact k B ad _ H (Same.refl _) (Pre.refl _) S rfl
theorem pd_var (i : Nat) {x : Str} (hN : X.N[i]? = some x := by rfl) (hv : Vis X.env.scope x := by first | exact Or.inl rfl | exact Or.inr (Or.inl rfl) | exact Or.inr (Or.inr rfl)) (hd : (x == ("__debug__" : Str)) = false := by decide)
    (hcd : (x == ("__classdict__" : Str)) = false := by decide) : PD X (.Name x pos) (dVar i) := PE.weak (pe_var hN hv hd hcd) fun σ H Q h => by
  obtain ⟨B, F, ad, δ, r, δ', S, e, k⟩ := h
  unfold dVar at e
  split at e
  · rename_i r' hr
    cases e
    obtain ⟨v, h1, h2⟩ := S.slot i _ hr
    exact ⟨v, h1, k B ad v H (Same.refl _) (Pre.refl _) S h2⟩
  · cases e

/-! ### two-place operations -/
abbrev OF := Dl → D → D → Option (Vl × Dl)
def rD (K : PySem.W.Frag) (mg : Str → Option Value) (g : OF) : R2 := fun x y H Q => ∃ B F ad σ δ dx dy r δ', SRep K mg B F ad σ δ H ∧ Vw K mg B H dx x ∧ Vw K mg B H dy y ∧ g δ dx dy = some (r, δ') ∧
  ∀ B' ad' v H', Same B B' → Pre ad ad' → SRep K mg B' F ad' σ δ' H' → RpV K mg B' ad' r v → Q v H'
def dOp (g : OF) (fa fb : EF) : EF := fun δ => (fa δ).bind fun p => (fb p.2).bind fun q => (der q.2 p.1).bind fun a => (der q.2 q.1).bind fun b => g q.2 a b
theorem dOp_w {K : PySem.W.Frag} {mg : Str → Option Value} {g : OF} {σ : L2.St} {H : Hp} {Q : VK} (h : tD K mg (dOp g fa fb) σ H Q) : tOp (rD K mg g) (tD K mg fa) (tD K mg fb) σ H Q := by
  obtain ⟨B, F, ad, δ, r, δ', S, e, k⟩ := h
  unfold dOp at e
  obtain ⟨⟨x, δ1⟩, e1, e⟩ := Option.bind_eq_some_iff.mp e
  obtain ⟨⟨y, δ2⟩, e2, e⟩ := Option.bind_eq_some_iff.mp e
  obtain ⟨da, e3, e⟩ := Option.bind_eq_some_iff.mp e
  obtain ⟨db, e4, e⟩ := Option.bind_eq_some_iff.mp e
  refine ⟨B, F, ad, δ, x, δ1, S, e1, fun B1 ad1 vx H1 s1 p1 S1 r1 => ?_⟩
  refine ⟨B1, F, ad1, δ1, y, δ2, S1, e2, fun B2 ad2 vy H2 s2 p2 S2 r2 => ?_⟩
  exact ⟨B2, F, ad2, σ, δ2, da, db, r, δ', S2, S2.vw (r1.mono s2 p2) e3, S2.vw r2 e4, e, fun B' ad' v H' s3 p3 S' r' => k B' ad' v H' ((s1.trans s2).trans s3) ((p1.trans p2).trans p3) S' r'⟩
theorem pd_op {op : Operator} {g : OF} (ho : OpR X (binaryOp op) (rD X.K X.mg g)) (ha : PD X a fa) (hb : PD X b fb) : PD X (.BinOp a op b pos) (dOp g fa fb) :=
  PE.weak (pe_op ho ha hb) fun σ H Q h => dOp_w h
theorem pd_cmp {op : CmpOp} {g : OF} (ho : OpR X (compareOp op) (rD X.K X.mg g)) (ha : PD X a fa) (hb : PD X b fb) (hm : behindInMarks op b = false := by rfl) : PD X (.Compare a [op] [b] pos) (dOp g fa fb) :=
  PE.weak (pe_cmpR ho ha hb hm) fun σ H Q h => dOp_w h
end
end PK

namespace PK
open PySem L2

/-- a new list: one that may change, or one that stays -/
def mk (m : Bool) (ds : List D) (δ : Dl) : Vl × Dl := if m then (.rf δ.st.length, { δ with st := δ.st ++ [some ds] }) else (.fz (.lst ds), δ)
section
variable {K : PySem.W.Frag} {mg : Str → Option Value} {B B' F : Hp} {ad ad' : List Addr} {σ : L2.St} {δ δ' : Dl} {H H' : Hp} {p : Addr} {o : HO}
theorem mk_ok {m : Bool} {ds : List D} {xs : List V} {Q : VK} (S : SRep K mg B F ad σ δ H) (hp : H p = none) (r : Rps K mg B ds xs)
    (k : ∀ B' ad' v H', Same B B' → Pre ad ad' → SRep K mg B' F ad' σ (mk m ds δ).2 H' → RpV K mg B' ad' (mk m ds δ).1 v → Q v H') : Q (.ref p) (upd H p (.lst xs)) := by
  cases m with
  | true =>
    refine k B (ad ++ [p]) (.ref p) _ (Same.refl _) (Pre.app _ _) (S.cellNew hp r) ⟨p, rfl, ?_⟩
    rw [← S.len, List.getElem?_append_right (Nat.le_refl _)]
    simp
  | false =>
    have s1 : Same B (upd B p (.lst xs)) := same_new (S.exB.free hp)
    exact k _ ad (.ref p) _ s1 (Pre.refl _) (S.alloc hp) ⟨p, xs, rfl, upd_same, Rps.mono s1 ds xs r⟩
theorem tup_ok {ds : List D} {xs : List V} {Q : VK} (S : SRep K mg B F ad σ δ H) (hp : H p = none) (r : Rps K mg B ds xs)
    (k : ∀ B' ad' v H', Same B B' → Pre ad ad' → SRep K mg B' F ad' σ δ H' → RpV K mg B' ad' (.fz (.tup ds)) v → Q v H') : Q (.ref p) (upd H p (.tup xs)) := by
  have s1 : Same B (upd B p (.tup xs)) := same_new (S.exB.free hp)
  exact k _ ad (.ref p) _ s1 (Pre.refl _) (S.alloc hp) ⟨p, xs, rfl, upd_same, Rps.mono s1 ds xs r⟩
theorem here {d : D} {v : V} {Q : VK} (S : SRep K mg B F ad σ δ H) (r : Rp K mg B d v)
    (k : ∀ B' ad' v H', Same B B' → Pre ad ad' → SRep K mg B' F ad' σ δ H' → RpV K mg B' ad' (.fz d) v → Q v H') : Q v H := k B ad v H (Same.refl _) (Pre.refl _) S r
end

def small : Nat := 100000
theorem small_sz {n : Nat} (h : n ≤ small) : n ≤ sizeLine := Nat.le_trans h (by decide)
def okMul (i j : Int) : Bool := decide (i.natAbs.log2 + j.natAbs.log2 < 1000000)
def okDiv (j : Int) : Bool := decide (0 < j ∧ j.natAbs.log2 < 9000)
def okPow (i : Int) : Bool := decide (i.natAbs.log2 < 1000)

def addD (m : Bool) : OF := fun δ x y => match x, y with
  | .int i, .int j => some (.fz (.int (i + j)), δ)
  | .lst a, .lst b => if a.length + b.length ≤ small then some (mk m (a ++ b) δ) else none
  | .tup a, .tup b => if a.length + b.length ≤ small then some (.fz (.tup (a ++ b)), δ) else none
  | _, _ => none
def subD : OF := fun δ x y => match x, y with
  | .int i, .int j => some (.fz (.int (i - j)), δ)
  | _, _ => none
def mulD (m : Bool) : OF := fun δ x y => match x, y with
  | .int i, .int j => if okMul i j then some (.fz (.int (i * j)), δ) else none
  | .lst a, .int k => if decide (-1000 ≤ k ∧ k ≤ 1000 ∧ a.length ≤ 100) then some (mk m (List.replicate k.toNat a).flatten δ) else none
  | .tup a, .int k => if decide (2 ≤ k ∧ k ≤ 1000 ∧ a ≠ [] ∧ a.length ≤ 100) then some (.fz (.tup (List.replicate k.toNat a).flatten), δ) else none
  | _, _ => none
def divD : OF := fun δ x y => match x, y with
  | .int i, .int j => if okDiv j then some (.fz (.int (i / j)), δ) else none
  | _, _ => none
def modD : OF := fun δ x y => match x, y with
  | .int i, .int j => if 0 < j then some (.fz (.int (i % j)), δ) else none
  | _, _ => none
/-- to the power of 3 alone -/
def powD : OF := fun δ x y => match x, y with
  | .int i, .int j => if okPow i ∧ 0 ≤ j ∧ j ≤ 64 then some (.fz (.int (i ^ j.toNat)), δ) else none
  | _, _ => none

section
variable {X : Cx}
theorem flat_rep {K : PySem.W.Frag} {mg : Str → Option Value} {B : Hp} {ds : List D} {xs : List V} (r : Rps K mg B ds xs) : ∀ n : Nat, Rps K mg B (List.replicate n ds).flatten (List.replicate n xs).flatten
  | 0 => rfl
  | n + 1 => by
    rw [List.replicate_succ, List.replicate_succ, List.flatten_cons, List.flatten_cons]
    exact Rps.app r (flat_rep r n)
theorem ne_nil_of {K : PySem.W.Frag} {mg : Str → Option Value} {B : Hp} {ds : List D} {xs : List V} (r : Rps K mg B ds xs) (h : ds ≠ []) : xs ≠ [] := fun e => h (by
  have := Rps.length r
  rw [e] at this
  exact List.length_eq_zero_iff.mp this.symm)
theorem od_add (m : Bool) : OpR X (binaryOp .Add) (rD X.K X.mg (addD m)) := by
  intro pins s σ H x y v u Q I rx ry h
  obtain ⟨B, F, ad, σ', δ, dx, dy, r, δ', S, vx, vy, e, k⟩ := h
  unfold addD at e
  split at e
  · rename_i i j
    cases e
    have vx' : x = .int i := vx
    have vy' : y = .int j := vy
    exact op_add pins s σ H x y v u Q I rx ry ⟨i, j, vx', vy', here (d := .int (i + j)) S rfl k⟩
  · rename_i a b
    split at e
    · rename_i hl
      obtain ⟨p, xs, rfl, hp, r1⟩ := vx
      obtain ⟨q, ys, rfl, hq, r2⟩ := vy
      have e' := Option.some.inj e
      refine op_cat pins s σ H _ _ v u Q I rx ry ⟨p, q, xs, ys, rfl, rfl, hp, hq, small_sz (by rw [Rps.length r1, Rps.length r2]; exact hl), fun z hz => ?_⟩
      refine mk_ok (m := m) S hz (Rps.app r1 r2) fun B' ad' v' H' s1 p1 S1 r' => ?_
      rw [e'] at S1 r'
      exact k B' ad' v' H' s1 p1 S1 r'
    · cases e
  · rename_i a b
    split at e
    · rename_i hl
      obtain ⟨p, xs, rfl, hp, r1⟩ := vx
      obtain ⟨q, ys, rfl, hq, r2⟩ := vy
      cases e
      refine op_catA pins s σ H _ _ v u Q I rx ry ⟨p, q, xs, ys, rfl, rfl, SqT.of (S.exB _ _ hp), SqT.of (S.exB _ _ hq), small_sz (by rw [Rps.length r1, Rps.length r2]; exact hl), fun z => ?_, fun z1 z2 => ?_, fun _ _ z hz => ?_⟩
      · have ha : a = [] := List.length_eq_zero_iff.mp (by rw [← Rps.length r1, z]; rfl)
        subst ha
        exact here (d := .tup b) S ⟨q, ys, rfl, hq, r2⟩ k
      · have hb : b = [] := List.length_eq_zero_iff.mp (by rw [← Rps.length r2, z2]; rfl)
        subst hb
        rw [List.append_nil] at k
        exact here (d := .tup a) S ⟨p, xs, rfl, hp, r1⟩ k
      · exact tup_ok S hz (Rps.app r1 r2) k
    · cases e
  · cases e
theorem od_sub : OpR X (binaryOp .Sub) (rD X.K X.mg subD) := by
  intro pins s σ H x y v u Q I rx ry h
  obtain ⟨B, F, ad, σ', δ, dx, dy, r, δ', S, vx, vy, e, k⟩ := h
  unfold subD at e
  split at e
  · rename_i i j
    cases e
    exact op_sub pins s σ H x y v u Q I rx ry ⟨i, j, vx, vy, here (d := .int (i - j)) S rfl k⟩
  · cases e
theorem od_mul (m : Bool) : OpR X (binaryOp .Mult) (rD X.K X.mg (mulD m)) := by
  intro pins s σ H x y v u Q I rx ry h
  obtain ⟨B, F, ad, σ', δ, dx, dy, r, δ', S, vx, vy, e, k⟩ := h
  unfold mulD at e
  split at e
  · rename_i i j
    split at e
    · rename_i hm
      cases e
      exact op_mulW pins s σ H x y v u Q I rx ry ⟨i, j, vx, vy, (show CMulW i j from by unfold CMulW; unfold okMul at hm; exact of_decide_eq_true hm), here (d := .int (i * j)) S rfl k⟩
    · cases e
  · rename_i a n
    split at e
    · rename_i hl
      have hl' := of_decide_eq_true hl
      obtain ⟨p, xs, rfl, hp, r1⟩ := vx
      have e' := Option.some.inj e
      have hlen := Rps.length r1
      refine op_rep pins s σ H _ _ v u Q I rx ry ⟨p, n, xs, rfl, vy, hp, by omega, by omega, ?_, fun z hz => ?_⟩
      · have h1 : xs.length * n.toNat ≤ 100 * 1000 := Nat.mul_le_mul (by omega) (by omega)
        exact Nat.le_trans h1 (by decide)
      · refine mk_ok (m := m) S hz (flat_rep r1 _) fun B' ad' v' H' s1 p1 S1 r' => ?_
        rw [e'] at S1 r'
        exact k B' ad' v' H' s1 p1 S1 r'
    · cases e
  · rename_i a n
    split at e
    · rename_i hl
      have hl' := of_decide_eq_true hl
      obtain ⟨p, xs, rfl, hp, r1⟩ := vx
      cases e
      have hlen := Rps.length r1
      refine op_repT pins s σ H _ _ v u Q I rx ry ⟨p, n, xs, rfl, vy, SqT.of (S.exB _ _ hp), ne_nil_of r1 hl'.2.2.1, hl'.1, hl'.2.1, by omega, fun z hz => ?_⟩
      exact tup_ok S hz (flat_rep r1 _) k
    · cases e
  · cases e
theorem od_div : OpR X (binaryOp .FloorDiv) (rD X.K X.mg divD) := by
  intro pins s σ H x y v u Q I rx ry h
  obtain ⟨B, F, ad, σ', δ, dx, dy, r, δ', S, vx, vy, e, k⟩ := h
  unfold divD at e
  split at e
  · rename_i i j
    split at e
    · rename_i hm
      cases e
      have hm' := of_decide_eq_true hm
      exact op_fdivW pins s σ H x y v u Q I rx ry ⟨i, j, vx, vy, hm', here (d := .int (i / j)) S rfl k⟩
    · cases e
  · cases e
theorem od_mod : OpR X (binaryOp .Mod) (rD X.K X.mg modD) := by
  intro pins s σ H x y v u Q I rx ry h
  obtain ⟨B, F, ad, σ', δ, dx, dy, r, δ', S, vx, vy, e, k⟩ := h
  unfold modD at e
  split at e
  · rename_i i j
    split at e
    · rename_i hm
      cases e
      exact op_mod pins s σ H x y v u Q I rx ry ⟨i, j, vx, vy, hm, here (d := .int (i % j)) S rfl k⟩
    · cases e
  · cases e
theorem od_pow : OpR X (binaryOp .Pow) (rD X.K X.mg powD) := by
  intro pins s σ H x y v u Q I rx ry h
  obtain ⟨B, F, ad, σ', δ, dx, dy, r, δ', S, vx, vy, e, k⟩ := h
  unfold powD at e
  split at e
  · rename_i i j
    split at e
    · rename_i hm
      obtain ⟨h1, h2, h3⟩ := hm
      cases e
      have vx' : x = .int i := vx
      have vy' : y = .int j := vy
      subst vx' vy'
      obtain ⟨t1, rfl⟩ := rx
      obtain ⟨t2, rfl⟩ := ry
      refine PyProof.Rows.pow_int h2 ?_ ⟨.int (i ^ j.toNat), H, I.tok _, ⟨_, rfl⟩, here (d := .int (i ^ j.toNat)) S rfl k⟩
      have hb : Builtin.Int.intBits i ≤ 1000 := by
        unfold okPow at h1
        have := of_decide_eq_true h1
        unfold Builtin.Int.intBits
        split <;> omega
      have h4 : ((Builtin.Int.intBits i : Nat) : Int) * j ≤ 1000 * 64 := Int.mul_le_mul (by omega) h3 h2 (by omega)
      omega
    · cases e
  · cases e

/-! ### comparisons -/
def cmpD (c : Int → Int → Bool) : OF := fun δ x y => match x, y with
  | .int i, .int j => some (.fz (.bl (c i j)), δ)
  | _, _ => none
abbrev ltD : OF := cmpD fun i j => decide (i < j)
abbrev leD : OF := cmpD fun i j => decide (i ≤ j)
abbrev gtD : OF := cmpD fun i j => decide (j < i)
abbrev geD : OF := cmpD fun i j => decide (j ≤ i)
theorem od_cmp {op : CmpOp} {c : Int → Int → Bool} (ho : OpR X (compareOp op) (rI0 fun i j => .bl (c i j))) : OpR X (compareOp op) (rD X.K X.mg (cmpD c)) := by
  intro pins s σ H x y v u Q I rx ry h
  obtain ⟨B, F, ad, σ', δ, dx, dy, r, δ', S, vx, vy, e, k⟩ := h
  unfold cmpD at e
  split at e
  · rename_i i j
    cases e
    exact ho pins s σ H x y v u Q I rx ry ⟨i, j, vx, vy, here (d := .bl (c i j)) S rfl k⟩
  · cases e
def isNon : D → Bool
  | .non => true
  | _ => false
def isND : OF := fun δ x y => match y with
  | .non => some (.fz (.bl (isNon x)), δ)
  | _ => none
def notND : OF := fun δ x y => match y with
  | .non => some (.fz (.bl (!isNon x)), δ)
  | _ => none
theorem isNon_of {K : PySem.W.Frag} {mg : Str → Option Value} {B H : Hp} {d : D} {x : V} (h : Vw K mg B H d x) : decide (x = .non) = isNon d := by
  cases d with
  | non =>
    have h' : x = .non := h
    subst h'; rfl
  | bl b =>
    have h' : x = .bl b := h
    subst h'; rfl
  | int b =>
    have h' : x = .int b := h
    subst h'; rfl
  | str b =>
    have h' : x = .str b := h
    subst h'; rfl
  | lst b =>
    obtain ⟨a, xs, rfl, _⟩ := h
    rfl
  | tup b =>
    obtain ⟨a, xs, rfl, _⟩ := h
    rfl
  | ins c n b =>
    obtain ⟨a, C, dx, xs, rfl, _⟩ := h
    rfl
  | scr b =>
    obtain ⟨a, rfl, _⟩ := h
    rfl
theorem od_isN : OpR X (compareOp .Is) (rD X.K X.mg isND) := by
  intro pins s σ H x y v u Q I rx ry h
  obtain ⟨B, F, ad, σ', δ, dx, dy, r, δ', S, vx, vy, e, k⟩ := h
  unfold isND at e
  split at e
  · cases e
    exact op_isN pins s σ H x y v u Q I rx ry ⟨vy, by rw [isNon_of vx]; exact here (d := .bl (isNon dx)) S rfl k⟩
  · cases e
theorem od_notN : OpR X (compareOp .IsNot) (rD X.K X.mg notND) := by
  intro pins s σ H x y v u Q I rx ry h
  obtain ⟨B, F, ad, σ', δ, dx, dy, r, δ', S, vx, vy, e, k⟩ := h
  unfold notND at e
  split at e
  · cases e
    exact op_notN pins s σ H x y v u Q I rx ry ⟨vy, by rw [isNon_of vx]; exact here (d := .bl (!isNon dx)) S rfl k⟩
  · cases e

/-! ### == and != of data -/
mutual
def toPy : D → Option PyData
  | .non => some .none
  | .bl b => some (.bool b)
  | .int i => some (.int i)
  | .str s => some (.str s)
  | .lst ds => (toPys ds).map .list
  | .tup ds => (toPys ds).map .tuple
  | .ins _ _ _ => none
  | .scr _ => none
def toPys : List D → Option (List PyData)
  | [] => some []
  | d :: ds => match toPy d, toPys ds with
    | some p, some ps => some (p :: ps)
    | _, _ => none
end
mutual
theorem dp_of {K : PySem.W.Frag} {mg : Str → Option Value} {B H : Hp} (e : Same B H) : ∀ (d : D) (v : V) (p : PyData), Rp K mg B d v → toPy d = some p → Dp K H v p
  | .non, v, p, h, q => by
    have h' : v = .non := h
    subst h'
    rw [toPy] at q
    cases q
    exact .non
  | .bl b, v, p, h, q => by
    have h' : v = .bl b := h
    subst h'
    rw [toPy] at q
    cases q
    exact .bl b
  | .int b, v, p, h, q => by
    have h' : v = .int b := h
    subst h'
    rw [toPy] at q
    cases q
    exact .int b
  | .str b, v, p, h, q => by
    have h' : v = .str b := h
    subst h'
    rw [toPy] at q
    cases q
    exact .str b
  | .lst ds, v, p, h, q => by
    obtain ⟨a, xs, rfl, h2, h3⟩ := h
    rw [toPy] at q
    obtain ⟨ps, q1, q2⟩ := Option.map_eq_some_iff.mp q
    subst q2
    exact .lst (SqL.of (e _ _ h2)) (dps_of e ds xs ps h3 q1)
  | .tup ds, v, p, h, q => by
    obtain ⟨a, xs, rfl, h2, h3⟩ := h
    rw [toPy] at q
    obtain ⟨ps, q1, q2⟩ := Option.map_eq_some_iff.mp q
    subst q2
    exact .tup (SqT.of (e _ _ h2)) (dps_of e ds xs ps h3 q1)
  | .ins _ _ _, v, p, h, q => by rw [toPy] at q; cases q
  | .scr _, v, p, h, q => by rw [toPy] at q; cases q
theorem dps_of {K : PySem.W.Frag} {mg : Str → Option Value} {B H : Hp} (e : Same B H) : ∀ (ds : List D) (vs : List V) (ps : List PyData), Rps K mg B ds vs → toPys ds = some ps → DpAll K H vs ps
  | [], vs, ps, h, q => by
    have h' : vs = [] := h
    subst h'
    rw [toPys] at q
    cases q
    exact .nil
  | d :: ds, vs, ps, h, q => by
    obtain ⟨v, r, rfl, h2, h3⟩ := h
    rw [toPys] at q
    split at q
    · rename_i p' ps' q1 q2
      cases q
      exact .cons (dp_of e d v p' h2 q1) (dps_of e ds r ps' h3 q2)
    · cases q
end
theorem dpw_of {K : PySem.W.Frag} {mg : Str → Option Value} {B H : Hp} (e : Same B H) {d : D} {v : V} {p : PyData} (h : Vw K mg B H d v) (q : toPy d = some p) : Dp K H v p := by
  cases d with
  | lst ds =>
    obtain ⟨a, xs, rfl, h2, h3⟩ := h
    rw [toPy] at q
    obtain ⟨ps, q1, q2⟩ := Option.map_eq_some_iff.mp q
    subst q2
    exact .lst (SqL.of h2) (dps_of e ds xs ps h3 q1)
  | _ => exact dp_of e _ v p h q
/-- neg: != -/
def eqD (neg : Bool) : OF := fun δ x y => match toPy x, toPy y with
  | some a, some b => if SeqAt.shaped a && SeqAt.shaped b then some (.fz (.bl (if neg then !PyData.eqv a b else PyData.eqv a b)), δ) else none
  | _, _ => none
theorem od_eq (hu : X.A.units + 64 < cLine) : OpR X (compareOp .Eq) (rD X.K X.mg (eqD false)) := by
  intro pins s σ H x y v u Q I rx ry h
  obtain ⟨B, F, ad, σ', δ, dx, dy, r, δ', S, vx, vy, e, k⟩ := h
  unfold eqD at e
  split at e
  · rename_i a b h1 h2
    split at e
    · rename_i hs
      rw [Bool.and_eq_true] at hs
      cases e
      exact op_eqD hu pins s σ H x y v u Q I rx ry ⟨a, b, dpw_of S.exB vx h1, dpw_of S.exB vy h2, hs.1, hs.2, here (d := .bl (PyData.eqv a b)) S rfl k⟩
    · cases e
  · cases e
theorem od_ne (hu : X.A.units + 64 < cLine) : OpR X (compareOp .NotEq) (rD X.K X.mg (eqD true)) := by
  intro pins s σ H x y v u Q I rx ry h
  obtain ⟨B, F, ad, σ', δ, dx, dy, r, δ', S, vx, vy, e, k⟩ := h
  unfold eqD at e
  split at e
  · rename_i a b h1 h2
    split at e
    · rename_i hs
      rw [Bool.and_eq_true] at hs
      cases e
      exact op_neD hu pins s σ H x y v u Q I rx ry ⟨a, b, dpw_of S.exB vx h1, dpw_of S.exB vy h2, hs.1, hs.2, here (d := .bl (!PyData.eqv a b)) S rfl k⟩
    · cases e
  · cases e

/-! ### in, not in: flat items -/
def flatD : D → Option V
  | .non => some .non
  | .bl b => some (.bl b)
  | .int i => some (.int i)
  | .str s => some (.str s)
  | _ => none
def flatDs : List D → Option (List V)
  | [] => some []
  | d :: ds => match flatD d, flatDs ds with
    | some v, some vs => some (v :: vs)
    | _, _ => none
theorem flat_of {K : PySem.W.Frag} {mg : Str → Option Value} {B H : Hp} {d : D} {v w : V} (h : Rp K mg B d v) (q : flatD d = some w) : v = w ∧ flatV v = true := by
  cases d <;> simp only [flatD] at q <;> first
    | (cases q; have h' : v = _ := h; subst h'; exact ⟨rfl, rfl⟩)
    | cases q
theorem flats_of {K : PySem.W.Frag} {mg : Str → Option Value} {B : Hp} : ∀ {ds : List D} {vs ws : List V}, Rps K mg B ds vs → flatDs ds = some ws → vs = ws ∧ vs.all flatV = true
  | [], vs, ws, h, q => by
    have h' : vs = [] := h
    subst h'
    simp only [flatDs] at q
    cases q
    exact ⟨rfl, rfl⟩
  | d :: ds, vs, ws, h, q => by
    obtain ⟨v, r, rfl, h2, h3⟩ := h
    simp only [flatDs] at q
    split at q
    · rename_i v' vs' q1 q2
      cases q
      obtain ⟨e1, f1⟩ := flat_of (H := B) h2 q1
      obtain ⟨e2, f2⟩ := flats_of h3 q2
      subst e1 e2
      exact ⟨rfl, by rw [List.all_cons, f1, f2]; rfl⟩
    · cases q
def inD (neg : Bool) : OF := fun δ x y => match flatD x, y with
  | some v, .lst ds => (flatDs ds).map fun vs => (.fz (.bl (if neg then !inV v vs else inV v vs)), δ)
  | some v, .tup ds => (flatDs ds).map fun vs => (.fz (.bl (if neg then !inV v vs else inV v vs)), δ)
  | _, _ => none
theorem flatw_of {K : PySem.W.Frag} {mg : Str → Option Value} {B H : Hp} {d : D} {v w : V} (h : Vw K mg B H d v) (q : flatD d = some w) : v = w ∧ flatV v = true := by
  cases d <;> simp only [flatD] at q <;> first
    | (cases q; have h' : v = _ := h; subst h'; exact ⟨rfl, rfl⟩)
    | cases q
theorem rIn_of {neg : Bool} {σ : L2.St} {H : Hp} {x y : V} {Q : VK} (h : rD X.K X.mg (inD neg) x y H Q) : rIn X.K neg x y H Q := by
  obtain ⟨B, F, ad, σ', δ, dx, dy, r, δ', S, vx, vy, e, k⟩ := h
  unfold inD at e
  split at e
  · rename_i v ds h1
    obtain ⟨vs, q1, q2⟩ := Option.map_eq_some_iff.mp e
    cases q2
    obtain ⟨e1, f1⟩ := flatw_of vx h1
    obtain ⟨a, xs, rfl, h2, h3⟩ := vy
    obtain ⟨e2, f2⟩ := flats_of h3 q1
    subst e1 e2
    exact ⟨a, xs, rfl, .inl (SqL.of h2), f1, f2, here (d := .bl _) S rfl k⟩
  · rename_i v ds h1
    obtain ⟨vs, q1, q2⟩ := Option.map_eq_some_iff.mp e
    cases q2
    obtain ⟨e1, f1⟩ := flatw_of vx h1
    obtain ⟨a, xs, rfl, h2, h3⟩ := vy
    obtain ⟨e2, f2⟩ := flats_of h3 q1
    subst e1 e2
    exact ⟨a, xs, rfl, .inr (SqT.of (S.exB _ _ h2)), f1, f2, here (d := .bl _) S rfl k⟩
  · cases e
theorem od_in : OpR X (compareOp .In) (rD X.K X.mg (inD false)) := fun pins s σ H x y v u Q I rx ry h => op_in_seq pins s σ H x y v u Q I rx ry (rIn_of (σ := σ) h)
theorem od_notIn : OpR X (compareOp .NotIn) (rD X.K X.mg (inD true)) := fun pins s σ H x y v u Q I rx ry h => op_notIn_seq pins s σ H x y v u Q I rx ry (rIn_of (σ := σ) h)
end
end PK

namespace PK
open PySem L2

section
variable {K : PySem.W.Frag} {mg : Str → Option Value} {B B' F : Hp} {ad ad' : List Addr} {σ : L2.St} {δ δ' : Dl} {H H' : Hp} {p : Addr} {o : HO}
def Vws (K : PySem.W.Frag) (mg : Str → Option Value) (B H : Hp) : List D → List V → Prop
  | [], vs => vs = []
  | d :: ds, vs => ∃ v r, vs = v :: r ∧ Vw K mg B H d v ∧ Vws K mg B H ds r
def ders (δ : Dl) : List Vl → Option (List D)
  | [] => some []
  | r :: rs => match der δ r, ders δ rs with
    | some d, some ds => some (d :: ds)
    | _, _ => none
theorem SRep.vws (S : SRep K mg B F ad σ δ H) : ∀ {rs : List Vl} {ds : List D} {vs : List V}, RpVs K mg B ad rs vs → ders δ rs = some ds → Vws K mg B H ds vs
  | [], ds, vs, h, e => by
    have h' : vs = [] := h
    subst h'
    simp only [ders] at e
    cases e
    rfl
  | r :: rs, ds, vs, h, e => by
    obtain ⟨v, w, rfl, h2, h3⟩ := h
    simp only [ders] at e
    split at e
    · rename_i d' ds' q1 q2
      cases e
      exact ⟨v, w, rfl, S.vw h2 q1, S.vws h3 q2⟩
    · cases e
/-- a value that escapes is frozen -/
def frz (δ : Dl) : Vl → Option (D × Dl)
  | .fz d => some (d, δ)
  | .rf k => match δ.st[k]? with
    | some (some ds) => some (.lst ds, { δ with st := δ.st.set k none })
    | _ => none
def frzs (δ : Dl) : List Vl → Option (List D × Dl)
  | [] => some ([], δ)
  | r :: rs => (frz δ r).bind fun p => (frzs p.2 rs).map fun q => (p.1 :: q.1, q.2)
theorem SRep.frz (S : SRep K mg B F ad σ δ H) {r : Vl} {d : D} {v : V} (h : RpV K mg B ad r v) (e : PK.frz δ r = some (d, δ')) : ∃ B', Same B B' ∧ SRep K mg B' F ad σ δ' H ∧ Rp K mg B' d v := by
  cases r with
  | fz d' =>
    simp only [PK.frz] at e
    cases e
    exact ⟨B, Same.refl _, S, h⟩
  | rf k =>
    obtain ⟨a, rfl, h2⟩ := h
    simp only [PK.frz] at e
    split at e
    · rename_i ds hk
      cases e
      obtain ⟨q, xs, g1, g2, g3, _, _⟩ := S.cell k ds hk
      rw [h2] at g1
      cases g1
      obtain ⟨S1, s1⟩ := S.freeze hk h2 g2
      exact ⟨_, s1, S1, a, xs, rfl, upd_same, Rps.mono s1 ds xs g3⟩
    · cases e
theorem SRep.frzs : ∀ {rs : List Vl} {ds : List D} {vs : List V} {B : Hp} {δ δ' : Dl}, SRep K mg B F ad σ δ H → RpVs K mg B ad rs vs → PK.frzs δ rs = some (ds, δ') → ∃ B', Same B B' ∧ SRep K mg B' F ad σ δ' H ∧ Rps K mg B' ds vs
  | [], ds, vs, B, δ, δ', S, h, e => by
    have h' : vs = [] := h
    subst h'
    simp only [PK.frzs] at e
    cases e
    exact ⟨B, Same.refl _, S, rfl⟩
  | r :: rs, ds, vs, B, δ, δ', S, h, e => by
    obtain ⟨v, w, rfl, h2, h3⟩ := h
    simp only [PK.frzs] at e
    obtain ⟨⟨d1, δ1⟩, e1, e2⟩ := Option.bind_eq_some_iff.mp e
    obtain ⟨⟨ds2, δ2⟩, e3, e4⟩ := Option.map_eq_some_iff.mp e2
    cases e4
    obtain ⟨B1, s1, S1, r1⟩ := S.frz h2 e1
    obtain ⟨B2, s2, S2, r2⟩ := S1.frzs (RpVs.mono s1 (Pre.refl _) h3) e3
    exact ⟨B2, s1.trans s2, S2, v, w, rfl, Rp.mono s2 _ _ r1, r2⟩
end

theorem blCase {α : Type} {x : Vl} {a b : Option α} {r : α} (e : (match x with
  | .fz (.bl true) => a
  | .fz (.bl false) => b
  | _ => none) = some r) : (x = .fz (.bl true) ∧ a = some r) ∨ (x = .fz (.bl false) ∧ b = some r) := by
  split at e
  · exact .inl ⟨rfl, e⟩
  · exact .inr ⟨rfl, e⟩
  · cases e
theorem blCase' {α : Type} {x : Vl} {a b : Option α} {r : α} (e : (match x with
  | .fz (.bl false) => a
  | .fz (.bl true) => b
  | _ => none) = some r) : (x = .fz (.bl false) ∧ a = some r) ∨ (x = .fz (.bl true) ∧ b = some r) := by
  split at e
  · exact .inl ⟨rfl, e⟩
  · exact .inr ⟨rfl, e⟩
  · cases e
/-! ### tests -/
def truD : D → Option Bool
  | .bl b => some b
  | .int i => some (i != 0)
  | .non => some false
  | .lst ds => some (!ds.isEmpty)
  | .tup ds => some (!ds.isEmpty)
  | _ => none
def dB (f : EF) : BF := fun δ => (f δ).bind fun p => (der p.2 p.1).bind fun d => (truD d).map fun b => (b, p.2)
theorem isEmpty_rps {K : PySem.W.Frag} {mg : Str → Option Value} {B : Hp} : ∀ {ds : List D} {xs : List V}, Rps K mg B ds xs → xs.isEmpty = ds.isEmpty
  | [], xs, h => by
    have h' : xs = [] := h
    subst h'; rfl
  | d :: ds, xs, h => by
    obtain ⟨v, r, rfl, _⟩ := h
    rfl
theorem tru_of {K : PySem.W.Frag} {mg : Str → Option Value} {B H : Hp} {d : D} {v : V} {b : Bool} (s : Same B H) (h : Vw K mg B H d v) (e : truD d = some b) : TruV K v H b := by
  cases d <;> simp only [truD] at e <;> cases e
  · have h' : v = .non := h
    subst h'; rfl
  · have h' : v = .bl _ := h
    subst h'; rfl
  · have h' : v = .int _ := h
    subst h'; rfl
  · obtain ⟨a, xs, rfl, h2, h3⟩ := h
    exact .inl ⟨xs, SqL.of h2, by rw [isEmpty_rps h3]⟩
  · obtain ⟨a, xs, rfl, h2, h3⟩ := h
    exact .inr (.inl ⟨xs, SqT.of (s _ _ h2), by rw [isEmpty_rps h3]⟩)
section
variable {X : Cx} {e a b c : Expr} {f fa fb fc : EF} {ft fu : BF} {pos : Pos} {es rest : List Expr}
theorem pdt_val (h : PD X e f) (he : ∀ whole, isTrue e X.env whole = (do let v ← whole; standAt e.pos; holding [v] (truthy v)) := by intro _; rfl) : PDT X e (dB f) :=
  PT.weak (pt_truth h he) fun σ H Q h => by
    obtain ⟨B, F, ad, δ, r, δ', S, e, k⟩ := h
    unfold dB at e
    obtain ⟨⟨x, δ1⟩, e1, e⟩ := Option.bind_eq_some_iff.mp e
    obtain ⟨d, e2, e⟩ := Option.bind_eq_some_iff.mp e
    obtain ⟨b, e3, e⟩ := Option.map_eq_some_iff.mp e
    cases e
    exact ⟨B, F, ad, δ, x, _, S, e1, fun B1 ad1 v H1 s1 p1 S1 r1 => ⟨_, tru_of S1.exB (S1.vw r1 e2) e3, k B1 ad1 H1 s1 p1 S1⟩⟩
theorem tTest_w {K : PySem.W.Frag} {mg : Str → Option Value} {σ : L2.St} {H : Hp} {Q : Bool → Hp → Prop} {t : TE} (w : ∀ σ H Q, tD K mg f σ H Q → t σ H Q) (h : tDT K mg (dB f) σ H Q) (hb : ∀ δ r δ', f δ = some (r, δ') → ∃ b, r = .fz (.bl b)) : tTest t σ H Q := by
  obtain ⟨B, F, ad, δ, r, δ', S, e, k⟩ := h
  unfold dB at e
  obtain ⟨⟨x, δ1⟩, e1, e⟩ := Option.bind_eq_some_iff.mp e
  obtain ⟨d, e2, e⟩ := Option.bind_eq_some_iff.mp e
  obtain ⟨b, e3, e⟩ := Option.map_eq_some_iff.mp e
  cases e
  obtain ⟨b', hb'⟩ := hb _ _ _ e1
  have hb'' : x = .fz (.bl b') := hb'
  subst hb''
  simp only [der] at e2
  cases e2
  simp only [truD] at e3
  cases e3
  exact w σ H _ ⟨B, F, ad, δ, _, _, S, e1, fun B1 ad1 v H1 s1 p1 S1 r1 => ⟨_, r1, k B1 ad1 H1 s1 p1 S1⟩⟩
/-- an operation that answers with a bool -/
def BoolOf (g : OF) : Prop := ∀ δ x y r δ', g δ x y = some (r, δ') → ∃ b, r = .fz (.bl b)
theorem boolOp {g : OF} (hg : BoolOf g) : ∀ δ r δ', dOp g fa fb δ = some (r, δ') → ∃ b, r = .fz (.bl b) := by
  intro δ r δ' e
  unfold dOp at e
  obtain ⟨⟨x, δ1⟩, e1, e⟩ := Option.bind_eq_some_iff.mp e
  obtain ⟨⟨y, δ2⟩, e2, e⟩ := Option.bind_eq_some_iff.mp e
  obtain ⟨da, e3, e⟩ := Option.bind_eq_some_iff.mp e
  obtain ⟨db, e4, e⟩ := Option.bind_eq_some_iff.mp e
  exact hg _ _ _ _ _ e
theorem bo_cmp {c : Int → Int → Bool} : BoolOf (cmpD c) := by
  intro δ x y r δ' e
  unfold cmpD at e
  split at e
  · cases e; exact ⟨_, rfl⟩
  · cases e
theorem bo_isN : BoolOf isND := by
  intro δ x y r δ' e
  unfold isND at e
  split at e
  · cases e; exact ⟨_, rfl⟩
  · cases e
theorem bo_notN : BoolOf notND := by
  intro δ x y r δ' e
  unfold notND at e
  split at e
  · cases e; exact ⟨_, rfl⟩
  · cases e
theorem bo_eq {n : Bool} : BoolOf (eqD n) := by
  intro δ x y r δ' e
  unfold eqD at e
  split at e
  · split at e
    · cases e; exact ⟨_, rfl⟩
    · cases e
  · cases e
theorem bo_in {n : Bool} : BoolOf (inD n) := by
  intro δ x y r δ' e
  unfold inD at e
  split at e
  · obtain ⟨vs, q1, q2⟩ := Option.map_eq_some_iff.mp e
    cases q2; exact ⟨_, rfl⟩
  · obtain ⟨vs, q1, q2⟩ := Option.map_eq_some_iff.mp e
    cases q2; exact ⟨_, rfl⟩
  · cases e
theorem pdt_cmp {op : CmpOp} {g : OF} (hg : BoolOf g) (ho : OpR X (compareOp op) (rD X.K X.mg g)) (ha : PD X a fa) (hb : PD X b fb) (hm : behindInMarks op b = false := by rfl) : PDT X (.Compare a [op] [b] pos) (dB (dOp g fa fb)) :=
  PT.weak (pt_cmpR ho ha hb hm) fun σ H Q h => tTest_w (fun σ H Q h => dOp_w h) h (boolOp hg)
/-- a chain of two -/
def dChain (g g' : OF) (fa fb fc : EF) : EF := fun δ => (fa δ).bind fun p => (fb p.2).bind fun q => (der q.2 p.1).bind fun a => (der q.2 q.1).bind fun b => (g q.2 a b).bind fun z => match z.1 with
  | .fz (.bl true) => (fc z.2).bind fun w => (der w.2 q.1).bind fun b' => (der w.2 w.1).bind fun c => g' w.2 b' c
  | .fz (.bl false) => some (.fz (.bl false), z.2)
  | _ => none
theorem dChain_w {K : PySem.W.Frag} {mg : Str → Option Value} {g g' : OF} {σ : L2.St} {H : Hp} {Q : VK} (h : tD K mg (dChain g g' fa fb fc) σ H Q) : tChain (rD K mg g) (rD K mg g') (tD K mg fa) (tD K mg fb) (tD K mg fc) σ H Q := by
  obtain ⟨B, F, ad, δ, r, δ', S, e, k⟩ := h
  unfold dChain at e
  obtain ⟨⟨x, δ1⟩, e1, e⟩ := Option.bind_eq_some_iff.mp e
  obtain ⟨⟨y, δ2⟩, e2, e⟩ := Option.bind_eq_some_iff.mp e
  obtain ⟨da, e3, e⟩ := Option.bind_eq_some_iff.mp e
  obtain ⟨db, e4, e⟩ := Option.bind_eq_some_iff.mp e
  obtain ⟨⟨z, δ3⟩, e5, e⟩ := Option.bind_eq_some_iff.mp e
  refine ⟨B, F, ad, δ, x, δ1, S, e1, fun B1 ad1 vx H1 s1 p1 S1 r1 => ?_⟩
  refine ⟨B1, F, ad1, δ1, y, δ2, S1, e2, fun B2 ad2 vy H2 s2 p2 S2 r2 => ?_⟩
  refine ⟨B2, F, ad2, σ, δ2, da, db, z, δ3, S2, S2.vw (r1.mono s2 p2) e3, S2.vw r2 e4, e5, fun B3 ad3 v H3 s3 p3 S3 r3 => ?_⟩
  rcases blCase e with ⟨hz, e⟩ | ⟨hz, e⟩
  · have hz' : z = _ := hz
    subst hz'
    refine ⟨true, r3, ?_⟩
    rw [if_pos rfl]
    obtain ⟨⟨w, δ4⟩, e6, e⟩ := Option.bind_eq_some_iff.mp e
    obtain ⟨db', e7, e⟩ := Option.bind_eq_some_iff.mp e
    obtain ⟨dc, e8, e⟩ := Option.bind_eq_some_iff.mp e
    refine ⟨B3, F, ad3, δ3, w, δ4, S3, e6, fun B4 ad4 vw H4 s4 p4 S4 r4 => ?_⟩
    exact ⟨B4, F, ad4, σ, δ4, db', dc, r, δ', S4, S4.vw (r2.mono (s3.trans s4) (p3.trans p4)) e7, S4.vw r4 e8, e, fun B' ad' v H' s5 p5 S' r' =>
      k B' ad' v H' ((((s1.trans s2).trans s3).trans s4).trans s5) ((((p1.trans p2).trans p3).trans p4).trans p5) S' r'⟩
  · have hz' : z = _ := hz
    subst hz'
    cases e
    refine ⟨false, r3, ?_⟩
    rw [if_neg Bool.false_ne_true]
    exact k B3 ad3 _ H3 ((s1.trans s2).trans s3) ((p1.trans p2).trans p3) S3 rfl
theorem pd_chain {op op' : CmpOp} {g g' : OF} (ho : OpR X (compareOp op) (rD X.K X.mg g)) (ho' : OpR X (compareOp op') (rD X.K X.mg g')) (ha : PD X a fa) (hb : PD X b fb) (hc : PD X c fc)
    (hm : lastMarks [op, op'] [b, c] = false := by with_unfolding_all rfl) : PD X (.Compare a [op, op'] [b, c] pos) (dChain g g' fa fb fc) := PE.weak (pe_chain ho ho' ha hb hc hm) fun σ H Q h => dChain_w h
theorem boolChain {g g' : OF} (hg' : BoolOf g') : ∀ δ r δ', dChain g g' fa fb fc δ = some (r, δ') → ∃ b, r = .fz (.bl b) := by
  intro δ r δ' e
  unfold dChain at e
  obtain ⟨⟨x, δ1⟩, e1, e⟩ := Option.bind_eq_some_iff.mp e
  obtain ⟨⟨y, δ2⟩, e2, e⟩ := Option.bind_eq_some_iff.mp e
  obtain ⟨da, e3, e⟩ := Option.bind_eq_some_iff.mp e
  obtain ⟨db, e4, e⟩ := Option.bind_eq_some_iff.mp e
  obtain ⟨⟨z, δ3⟩, e5, e⟩ := Option.bind_eq_some_iff.mp e
  rcases blCase e with ⟨hz, e⟩ | ⟨hz, e⟩
  · obtain ⟨⟨w, δ4⟩, e6, e⟩ := Option.bind_eq_some_iff.mp e
    obtain ⟨db', e7, e⟩ := Option.bind_eq_some_iff.mp e
    obtain ⟨dc, e8, e⟩ := Option.bind_eq_some_iff.mp e
    exact hg' _ _ _ _ _ e
  · cases e; exact ⟨_, rfl⟩
theorem pdt_chain {op op' : CmpOp} {g g' : OF} (hg' : BoolOf g') (ho : OpR X (compareOp op) (rD X.K X.mg g)) (ho' : OpR X (compareOp op') (rD X.K X.mg g')) (ha : PD X a fa) (hb : PD X b fb) (hc : PD X c fc)
    (hm : lastMarks [op, op'] [b, c] = false := by with_unfolding_all rfl) : PDT X (.Compare a [op, op'] [b, c] pos) (dB (dChain g g' fa fb fc)) :=
  PT.weak (pt_chain ho ho' ha hb hc hm) fun σ H Q h => tTest_w (fun σ H Q h => dChain_w h) h (boolChain hg')
/-! and, or, not -/
def bAnd (f g : BF) : BF := fun δ => (f δ).bind fun p => if p.1 then g p.2 else some (false, p.2)
def bOr (f g : BF) : BF := fun δ => (f δ).bind fun p => if p.1 then some (true, p.2) else g p.2
def bNot (f : BF) : BF := fun δ => (f δ).map fun p => (!p.1, p.2)
abbrev PDW (X : Cx) (e : Expr) (f : BF) := PW X e (tDT X.K X.mg f)
theorem PW.weak {t t' : TT} (h : PW X e t) (w : ∀ σ H Q, t' σ H Q → t σ H Q) : PW X e t' := ⟨fun wh pins s σ H Q I q => h.run wh pins s σ H Q I (w σ H Q q)⟩
theorem pdw_and1 (h : PDT X a ft) : PDW X (.BoolOp .And [a] pos) ft := pw_and1 h
theorem pdw_or1 (h : PDT X a ft) : PDW X (.BoolOp .Or [a] pos) ft := pw_or1 h
theorem pdw_and (h : PDT X a ft) (g : PDW X (.BoolOp .And (b :: rest) pos) fu) : PDW X (.BoolOp .And (a :: b :: rest) pos) (bAnd ft fu) := PW.weak (pw_and h g) fun σ H Q h => by
  obtain ⟨B, F, ad, δ, r, δ', S, e, k⟩ := h
  unfold bAnd at e
  obtain ⟨⟨x, δ1⟩, e1, e⟩ := Option.bind_eq_some_iff.mp e
  refine ⟨B, F, ad, δ, x, δ1, S, e1, fun B1 ad1 H1 s1 p1 S1 => ?_⟩
  cases x with
  | true =>
    rw [if_pos rfl]
    exact ⟨B1, F, ad1, δ1, r, δ', S1, e, fun B' ad' H' s2 p2 S' => k B' ad' H' (s1.trans s2) (p1.trans p2) S'⟩
  | false =>
    rw [if_neg Bool.false_ne_true]
    simp only [Bool.false_eq_true, if_false] at e
    cases e
    exact k B1 ad1 H1 s1 p1 S1
theorem pdw_or (h : PDT X a ft) (g : PDW X (.BoolOp .Or (b :: rest) pos) fu) : PDW X (.BoolOp .Or (a :: b :: rest) pos) (bOr ft fu) := PW.weak (pw_or h g) fun σ H Q h => by
  obtain ⟨B, F, ad, δ, r, δ', S, e, k⟩ := h
  unfold bOr at e
  obtain ⟨⟨x, δ1⟩, e1, e⟩ := Option.bind_eq_some_iff.mp e
  refine ⟨B, F, ad, δ, x, δ1, S, e1, fun B1 ad1 H1 s1 p1 S1 => ?_⟩
  cases x with
  | false =>
    rw [if_neg Bool.false_ne_true]
    exact ⟨B1, F, ad1, δ1, r, δ', S1, e, fun B' ad' H' s2 p2 S' => k B' ad' H' (s1.trans s2) (p1.trans p2) S'⟩
  | true =>
    rw [if_pos rfl]
    simp only [if_true] at e
    cases e
    exact k B1 ad1 H1 s1 p1 S1
theorem pdt_w (h : PDW X e ft) : PDT X e ft := h.pt
theorem pdt_not (h : PDT X a ft) : PDT X (.UnaryOp .Not a pos) (bNot ft) := PT.weak (pt_not h) fun σ H Q h => by
  obtain ⟨B, F, ad, δ, r, δ', S, e, k⟩ := h
  unfold bNot at e
  obtain ⟨⟨x, δ1⟩, e1, e⟩ := Option.map_eq_some_iff.mp e
  cases e
  exact ⟨B, F, ad, δ, x, _, S, e1, fun B1 ad1 H1 s1 p1 S1 => k B1 ad1 H1 s1 p1 S1⟩
/-! as values: bools -/
def dAndV (fa fb : EF) : EF := fun δ => (fa δ).bind fun p => match p.1 with
  | .fz (.bl true) => fb p.2
  | .fz (.bl false) => some (.fz (.bl false), p.2)
  | _ => none
def dOrV (fa fb : EF) : EF := fun δ => (fa δ).bind fun p => match p.1 with
  | .fz (.bl false) => fb p.2
  | .fz (.bl true) => some (.fz (.bl true), p.2)
  | _ => none
def dNotV (fa : EF) : EF := fun δ => (fa δ).bind fun p => match p.1 with
  | .fz (.bl b) => some (.fz (.bl (!b)), p.2)
  | _ => none
theorem pd_one {op} (h : PD X a fa) : PD X (.BoolOp op [a] pos) fa := pe_one h
theorem pd_and (ha : PD X a fa) (hb : PD X (.BoolOp .And (b :: rest) pos) fb) : PD X (.BoolOp .And (a :: b :: rest) pos) (dAndV fa fb) := PE.weak (pe_and ha hb) fun σ H Q h => by
  obtain ⟨B, F, ad, δ, r, δ', S, e, k⟩ := h
  unfold dAndV at e
  obtain ⟨⟨x, δ1⟩, e1, e⟩ := Option.bind_eq_some_iff.mp e
  refine ⟨B, F, ad, δ, x, δ1, S, e1, fun B1 ad1 v H1 s1 p1 S1 r1 => ?_⟩
  rcases blCase e with ⟨hz, e⟩ | ⟨hz, e⟩
  · have hz' : x = _ := hz
    subst hz'
    refine ⟨true, r1, ?_⟩
    rw [if_pos rfl]
    exact ⟨B1, F, ad1, δ1, r, δ', S1, e, fun B' ad' v H' s2 p2 S' r' => k B' ad' v H' (s1.trans s2) (p1.trans p2) S' r'⟩
  · have hz' : x = _ := hz
    subst hz'
    cases e
    refine ⟨false, r1, ?_⟩
    rw [if_neg Bool.false_ne_true]
    exact k B1 ad1 _ H1 s1 p1 S1 rfl
theorem pd_or (ha : PD X a fa) (hb : PD X (.BoolOp .Or (b :: rest) pos) fb) : PD X (.BoolOp .Or (a :: b :: rest) pos) (dOrV fa fb) := PE.weak (pe_or ha hb) fun σ H Q h => by
  obtain ⟨B, F, ad, δ, r, δ', S, e, k⟩ := h
  unfold dOrV at e
  obtain ⟨⟨x, δ1⟩, e1, e⟩ := Option.bind_eq_some_iff.mp e
  refine ⟨B, F, ad, δ, x, δ1, S, e1, fun B1 ad1 v H1 s1 p1 S1 r1 => ?_⟩
  rcases blCase' e with ⟨hz, e⟩ | ⟨hz, e⟩
  · have hz' : x = _ := hz
    subst hz'
    refine ⟨false, r1, ?_⟩
    rw [if_neg Bool.false_ne_true]
    exact ⟨B1, F, ad1, δ1, r, δ', S1, e, fun B' ad' v H' s2 p2 S' r' => k B' ad' v H' (s1.trans s2) (p1.trans p2) S' r'⟩
  · have hz' : x = _ := hz
    subst hz'
    cases e
    refine ⟨true, r1, ?_⟩
    rw [if_pos rfl]
    exact k B1 ad1 _ H1 s1 p1 S1 rfl
theorem pd_not (ha : PD X a fa) : PD X (.UnaryOp .Not a pos) (dNotV fa) := PE.weak (pe_not ha) fun σ H Q h => by
  obtain ⟨B, F, ad, δ, r, δ', S, e, k⟩ := h
  unfold dNotV at e
  obtain ⟨⟨x, δ1⟩, e1, e⟩ := Option.bind_eq_some_iff.mp e
  refine ⟨B, F, ad, δ, x, δ1, S, e1, fun B1 ad1 v H1 s1 p1 S1 r1 => ?_⟩
  cases x with
  | rf k => cases e
  | fz d =>
    cases d with
    | bl b =>
      cases e
      exact ⟨b, r1, k B1 ad1 _ H1 s1 p1 S1 rfl⟩
    | _ => cases e
def dIfE (t : BF) (fa fb : EF) : EF := fun δ => (t δ).bind fun p => if p.1 then fa p.2 else fb p.2
theorem pd_if (ht : PDT X c ft) (ha : PD X a fa) (hb : PD X b fb) : PD X (.IfExp c a b pos) (dIfE ft fa fb) := PE.weak (pe_ifExp ht ha hb) fun σ H Q h => by
  obtain ⟨B, F, ad, δ, r, δ', S, e, k⟩ := h
  unfold dIfE at e
  obtain ⟨⟨x, δ1⟩, e1, e⟩ := Option.bind_eq_some_iff.mp e
  refine ⟨B, F, ad, δ, x, δ1, S, e1, fun B1 ad1 H1 s1 p1 S1 => ?_⟩
  cases x with
  | true =>
    rw [if_pos rfl]
    exact ⟨B1, F, ad1, δ1, r, δ', S1, e, fun B' ad' v H' s2 p2 S' r' => k B' ad' v H' (s1.trans s2) (p1.trans p2) S' r'⟩
  | false =>
    rw [if_neg Bool.false_ne_true]
    exact ⟨B1, F, ad1, δ1, r, δ', S1, e, fun B' ad' v H' s2 p2 S' r' => k B' ad' v H' (s1.trans s2) (p1.trans p2) S' r'⟩
def dUn (g : D → Option D) (fa : EF) : EF := fun δ => (fa δ).bind fun p => match p.1 with
  | .fz d => (g d).map fun r => (.fz r, p.2)
  | _ => none
def negD : D → Option D
  | .int i => some (.int (-i))
  | _ => none
theorem pd_neg (ha : PD X a fa) : PD X (.UnaryOp .USub a pos) (dUn negD fa) := PE.weak (pe_un un_neg ha) fun σ H Q h => by
  obtain ⟨B, F, ad, δ, r, δ', S, e, k⟩ := h
  unfold dUn at e
  obtain ⟨⟨x, δ1⟩, e1, e⟩ := Option.bind_eq_some_iff.mp e
  refine ⟨B, F, ad, δ, x, δ1, S, e1, fun B1 ad1 v H1 s1 p1 S1 r1 => ?_⟩
  cases x with
  | rf k => cases e
  | fz d =>
    cases d with
    | int b =>
      cases e
      exact ⟨b, r1, k B1 ad1 _ H1 s1 p1 S1 rfl⟩
    | _ => cases e

/-! ### arguments, displays -/
def aNil : AF := fun δ => some ([], δ)
def aCons (f : EF) (g : AF) : AF := fun δ => (f δ).bind fun p => (g p.2).map fun q => (p.1 :: q.1, q.2)
theorem pda_nil : PDA X [] aNil := PA.weak pa_nil fun σ H Q h => by
  obtain ⟨B, F, ad, δ, r, δ', S, e, k⟩ := h
  cases e
  exact k B ad [] H (Same.refl _) (Pre.refl _) S rfl
theorem pda_cons {g : AF} (h : PD X e f) (hr : PDA X es g) (hs : starEach (e :: es) X.env = (false, eval e X.env) :: starEach es X.env := by rfl) : PDA X (e :: es) (aCons f g) := PA.weak (pa_cons h hr hs) fun σ H Q h => by
  obtain ⟨B, F, ad, δ, r, δ', S, e, k⟩ := h
  unfold aCons at e
  obtain ⟨⟨x, δ1⟩, e1, e⟩ := Option.bind_eq_some_iff.mp e
  obtain ⟨⟨rs, δ2⟩, e2, e⟩ := Option.map_eq_some_iff.mp e
  cases e
  refine ⟨B, F, ad, δ, x, δ1, S, e1, fun B1 ad1 v H1 s1 p1 S1 r1 => ?_⟩
  refine ⟨B1, F, ad1, δ1, rs, _, S1, e2, fun B2 ad2 vs H2 s2 p2 S2 r2 => ?_⟩
  exact k B2 ad2 (v :: vs) H2 (s1.trans s2) (p1.trans p2) S2 ⟨v, vs, rfl, r1.mono s2 p2, r2⟩
def itemsD : D → Option (List D)
  | .lst ds => some ds
  | .tup ds => some ds
  | _ => none
def aStar (f : EF) (g : AF) : AF := fun δ => (f δ).bind fun p => (der p.2 p.1).bind fun d => (itemsD d).bind fun ds => (g p.2).map fun q => (ds.map Vl.fz ++ q.1, q.2)
theorem RpVs.app {K : PySem.W.Frag} {mg : Str → Option Value} {B : Hp} {ad : List Addr} : ∀ {ds : List D} {xs : List V} {rs : List Vl} {vs : List V}, Rps K mg B ds xs → RpVs K mg B ad rs vs → RpVs K mg B ad (ds.map Vl.fz ++ rs) (xs ++ vs)
  | [], xs, rs, vs, h, g => by
    have h' : xs = [] := h
    subst h'
    exact g
  | d :: ds, xs, rs, vs, h, g => by
    obtain ⟨v, w, rfl, h2, h3⟩ := h
    exact ⟨v, w ++ vs, rfl, h2, RpVs.app h3 g⟩
theorem pda_star {g : AF} {p : Pos} (h : PD X e f) (hr : PDA X es g) (hs : starEach (.Starred e p :: es) X.env = (true, eval e X.env) :: starEach es X.env := by rfl) : PDA X (.Starred e p :: es) (aStar f g) := PA.weak (StX.pa_star h hr hs) fun σ H Q h => by
  obtain ⟨B, F, ad, δ, r, δ', S, e, k⟩ := h
  unfold aStar at e
  obtain ⟨⟨x, δ1⟩, e1, e⟩ := Option.bind_eq_some_iff.mp e
  obtain ⟨d, e2, e⟩ := Option.bind_eq_some_iff.mp e
  obtain ⟨ds, e3, e⟩ := Option.bind_eq_some_iff.mp e
  obtain ⟨⟨rs, δ2⟩, e4, e⟩ := Option.map_eq_some_iff.mp e
  cases e
  refine ⟨B, F, ad, δ, x, δ1, S, e1, fun B1 ad1 v H1 s1 p1 S1 r1 => ?_⟩
  have vw := S1.vw r1 e2
  have fin : ∀ xs, Rps X.K X.mg B1 ds xs → tDA X.K X.mg g σ H1 fun ys H2 => Q (xs ++ ys) H2 := fun xs hx =>
    ⟨B1, F, ad1, δ1, rs, _, S1, e4, fun B2 ad2 vs H2 s2 p2 S2 r2 => k B2 ad2 (xs ++ vs) H2 (s1.trans s2) (p1.trans p2) S2 (RpVs.app (Rps.mono s2 ds xs hx) r2)⟩
  cases d <;> simp only [itemsD] at e3 <;> cases e3
  · obtain ⟨a, xs, rfl, h2, h3⟩ := vw
    exact ⟨a, xs, rfl, .inr (SqL.of h2), fin xs h3⟩
  · obtain ⟨a, xs, rfl, h2, h3⟩ := vw
    exact ⟨a, xs, rfl, .inl (SqT.of (S1.exB _ _ h2)), fin xs h3⟩
def dTup (f : AF) : EF := fun δ => (f δ).bind fun p => (frzs p.2 p.1).bind fun q => if q.1.length ≤ small then some (.fz (.tup q.1), q.2) else none
def dLst (m : Bool) (f : AF) : EF := fun δ => (f δ).bind fun p => (frzs p.2 p.1).bind fun q => if q.1.length ≤ small then some (mk m q.1 q.2) else none
theorem pd_tup {fs : AF} {k : Nat} (h : PDA X es fs) : PD X (.Tuple es k pos) (dTup fs) := PE.weak (pe_tup h) fun σ H Q h => by
  obtain ⟨B, F, ad, δ, r, δ', S, e, k⟩ := h
  unfold dTup at e
  obtain ⟨⟨x, δ1⟩, e1, e⟩ := Option.bind_eq_some_iff.mp e
  obtain ⟨⟨ds, δ2⟩, e2, e⟩ := Option.bind_eq_some_iff.mp e
  split at e
  · rename_i hl
    cases e
    refine ⟨B, F, ad, δ, x, δ1, S, e1, fun B1 ad1 vs H1 s1 p1 S1 r1 => ?_⟩
    obtain ⟨B2, s2, S2, r2⟩ := S1.frzs r1 e2
    exact ⟨small_sz (by rw [Rps.length r2]; exact hl), fun p hp => tup_ok S2 hp r2 fun B' ad' v H' s3 p3 S' r' => k B' ad' v H' ((s1.trans s2).trans s3) (p1.trans p3) S' r'⟩
  · cases e
theorem pd_lst {fs : AF} (m : Bool) (h : PDA X es fs) : PD X (.List es pos) (dLst m fs) := PE.weak (pe_lst h) fun σ H Q h => by
  obtain ⟨B, F, ad, δ, r, δ', S, e, k⟩ := h
  unfold dLst at e
  obtain ⟨⟨x, δ1⟩, e1, e⟩ := Option.bind_eq_some_iff.mp e
  obtain ⟨⟨ds, δ2⟩, e2, e⟩ := Option.bind_eq_some_iff.mp e
  split at e
  · rename_i hl
    have e' := Option.some.inj e
    refine ⟨B, F, ad, δ, x, δ1, S, e1, fun B1 ad1 vs H1 s1 p1 S1 r1 => ?_⟩
    obtain ⟨B2, s2, S2, r2⟩ := S1.frzs r1 e2
    refine ⟨small_sz (by rw [Rps.length r2]; exact hl), fun p hp => mk_ok (m := m) S2 hp r2 fun B' ad' v H' s3 p3 S' r' => ?_⟩
    dsimp only at e'
    rw [e'] at S' r'
    exact k B' ad' v H' ((s1.trans s2).trans s3) (p1.trans p3) S' r'
  · cases e

/-! ### subscripts -/
def ixD : OF := fun δ x y => match x, y with
  | .lst ds, .int i => (atI ds i).map fun d => (.fz d, δ)
  | .tup ds, .int i => (atI ds i).map fun d => (.fz d, δ)
  | .scr ns, .int i => (atI ns i).map fun n => (.fz (.int n), δ)
  | _, _ => none
theorem atI_rps {K : PySem.W.Frag} {mg : Str → Option Value} {B : Hp} {ds : List D} {xs : List V} {i : Int} {d : D} (h : Rps K mg B ds xs) (e : atI ds i = some d) : ∃ v, atI xs i = some v ∧ Rp K mg B d v := by
  unfold atI at e ⊢
  rw [Rps.length h]
  obtain ⟨j, e1, e2⟩ := Option.bind_eq_some_iff.mp e
  obtain ⟨v, h1, h2⟩ := Rps.get h e2
  exact ⟨v, by rw [e1]; exact h1, h2⟩
theorem atI_map {ns : List Int} {i n : Int} (e : atI ns i = some n) : atI (ns.map V.int) i = some (.int n) := by
  unfold atI at e ⊢
  rw [List.length_map]
  obtain ⟨j, e1, e2⟩ := Option.bind_eq_some_iff.mp e
  rw [e1]
  show (ns.map V.int)[j]? = _
  rw [List.getElem?_map, e2]
  rfl
theorem pd_ix (ha : PD X a fa) (hb : PD X b fb) (hs : PlainIx b := by exact fun _ _ => rfl) : PD X (.Subscript a b pos) (dOp ixD fa fb) := PE.weak (pe_ix (ix_list.or ix_tup) ha hb hs) fun σ H Q h => by
  have h' := dOp_w h
  obtain ⟨B, F, ad, δ, r, δ', S, e, k1⟩ := h'
  refine ⟨B, F, ad, δ, r, δ', S, e, fun B1 ad1 v1 H1 s1 p1 S1 r1 => ?_⟩
  obtain ⟨B, F, ad, δ, r, δ', S, e, k2⟩ := k1 B1 ad1 v1 H1 s1 p1 S1 r1
  refine ⟨B, F, ad, δ, r, δ', S, e, fun B2 ad2 v2 H2 s2 p2 S2 r2 => ?_⟩
  obtain ⟨B, F, ad, σ', δ, dx, dy, r, δ', S, vx, vy, e, k3⟩ := k2 B2 ad2 v2 H2 s2 p2 S2 r2
  clear k1 k2
  unfold ixD at e
  split at e
  · obtain ⟨d, e1, e2⟩ := Option.map_eq_some_iff.mp e
    cases e2
    obtain ⟨p, xs, h1, h2, h3⟩ := vx
    obtain ⟨v, g1, g2⟩ := atI_rps h3 e1
    exact .inl ⟨p, xs, _, v, h1, vy, SqL.of h2, g1, here S g2 k3⟩
  · obtain ⟨d, e1, e2⟩ := Option.map_eq_some_iff.mp e
    cases e2
    obtain ⟨p, xs, h1, h2, h3⟩ := vx
    obtain ⟨v, g1, g2⟩ := atI_rps h3 e1
    exact .inr ⟨p, xs, _, v, h1, vy, SqT.of (S.exB _ _ h2), g1, here S g2 k3⟩
  · obtain ⟨d, e1, e2⟩ := Option.map_eq_some_iff.mp e
    cases e2
    obtain ⟨p, h1, h2⟩ := vx
    exact .inl ⟨p, _, _, _, h1, vy, sqL_mono S.exB h2, atI_map e1, here (d := .int d) S rfl k3⟩
  · cases e
end
end PK

namespace PK
open PySem L2

/-! ### slices -/
abbrev OF1 := Dl → Option (Option Int × Dl)
def tDO (K : PySem.W.Frag) (mg : Str → Option Value) (f : OF1) : TO := fun σ H Q => ∃ B F ad δ r δ', SRep K mg B F ad σ δ H ∧ f δ = some (r, δ') ∧
  ∀ B' ad' H', Same B B' → Pre ad ad' → SRep K mg B' F ad' σ δ' H' → Q r H'
abbrev PDO (X : Cx) (e : Option Expr) (f : OF1) := PO X e (tDO X.K X.mg f)
def oNone : OF1 := fun δ => some (none, δ)
def oSome (f : EF) : OF1 := fun δ => (f δ).bind fun p => match p.1 with
  | .fz (.int i) => some (some i, p.2)
  | _ => none
theorem PO.weak {X : Cx} {e : Option Expr} {t t' : TO} (h : PO X e t) (w : ∀ σ H Q, t' σ H Q → t σ H Q) : PO X e t' := ⟨fun pins s σ H Q I q => h.run pins s σ H Q I (w σ H Q q)⟩
def cutD (xs : List D) (lo hi : Option Int) : List D := (xs.drop (HT.sIx xs.length 0 lo)).take (HT.sIx xs.length xs.length hi - HT.sIx xs.length 0 lo)
def slD (m : Bool) (δ : Dl) (d : D) (lo hi : Option Int) : Option (Vl × Dl) := match d with
  | .lst ds => some (mk m (cutD ds lo hi) δ)
  | .tup ds => some (.fz (.tup (cutD ds lo hi)), δ)
  | _ => none
def dSl (m : Bool) (fe : EF) (fl fh : OF1) : EF := fun δ => (fe δ).bind fun p => (fl p.2).bind fun l => (fh l.2).bind fun h => (der h.2 p.1).bind fun d => slD m h.2 d l.1 h.1
theorem cut_rps {K : PySem.W.Frag} {mg : Str → Option Value} {B : Hp} {ds : List D} {xs : List V} (r : Rps K mg B ds xs) (lo hi : Option Int) : Rps K mg B (cutD ds lo hi) (cutV xs lo hi) := by
  unfold cutD cutV
  rw [Rps.length r]
  exact Rps.take _ (Rps.drop _ r)
section
variable {X : Cx} {e a b c : Expr} {f fa fb fc : EF} {pos p2 p : Pos} {es rest : List Expr} {lo hi : Option Expr} {fl fh : OF1}
theorem pdo_none : PDO X none oNone := PO.weak po_none fun σ H Q h => by
  obtain ⟨B, F, ad, δ, r, δ', S, e, k⟩ := h
  cases e
  exact k B ad H (Same.refl _) (Pre.refl _) S
theorem pdo_some (h : PD X e f) : PDO X (some e) (oSome f) := PO.weak (po_some h) fun σ H Q h => by
  obtain ⟨B, F, ad, δ, r, δ', S, e, k⟩ := h
  unfold oSome at e
  obtain ⟨⟨x, δ1⟩, e1, e⟩ := Option.bind_eq_some_iff.mp e
  refine ⟨B, F, ad, δ, x, δ1, S, e1, fun B1 ad1 v H1 s1 p1 S1 r1 => ?_⟩
  cases x with
  | rf k => cases e
  | fz d =>
    cases d with
    | int i =>
      cases e
      exact ⟨i, r1, k B1 ad1 H1 s1 p1 S1⟩
    | _ => cases e
theorem cutD_all {ds : List D} {lo hi : Option Int} (h : HT.sIx ds.length 0 lo = 0 ∧ HT.sIx ds.length ds.length hi = ds.length) : cutD ds lo hi = ds := by
  unfold cutD
  rw [h.1, h.2]
  simp
theorem pd_sl (m : Bool) (h : PD X e f) (hl : PDO X lo fl) (hh : PDO X hi fh) : PD X (.Subscript e (.Slice lo hi none p2) pos) (dSl m f fl fh) := PE.weak (pe_slice (sl_list.or sl_tupA) h hl hh) fun σ H Q h => by
  obtain ⟨B, F, ad, δ, r, δ', S, e, k⟩ := h
  unfold dSl at e
  obtain ⟨⟨x, δ1⟩, e1, e⟩ := Option.bind_eq_some_iff.mp e
  obtain ⟨⟨l, δ2⟩, e2, e⟩ := Option.bind_eq_some_iff.mp e
  obtain ⟨⟨u, δ3⟩, e3, e⟩ := Option.bind_eq_some_iff.mp e
  obtain ⟨d, e4, e⟩ := Option.bind_eq_some_iff.mp e
  refine ⟨B, F, ad, δ, x, δ1, S, e1, fun B1 ad1 v H1 s1 p1 S1 r1 => ?_⟩
  refine ⟨B1, F, ad1, δ1, l, δ2, S1, e2, fun B2 ad2 H2 s2 p2 S2 => ?_⟩
  refine ⟨B2, F, ad2, δ2, u, δ3, S2, e3, fun B3 ad3 H3 s3 p3 S3 => ?_⟩
  have vw := S3.vw (r1.mono (s2.trans s3) (p2.trans p3)) e4
  cases d with
  | lst ds =>
    have e' := Option.some.inj e
    obtain ⟨q, xs, h1, h2, h3⟩ := vw
    refine .inl ⟨q, xs, h1, SqL.of h2, fun z hz => mk_ok (m := m) S3 hz (cut_rps h3 l u) fun B' ad' v' H' s4 p4 S' r' => ?_⟩
    dsimp only at e'
    rw [e'] at S' r'
    exact k B' ad' v' H' (((s1.trans s2).trans s3).trans s4) (((p1.trans p2).trans p3).trans p4) S' r'
  | tup ds =>
    cases e
    obtain ⟨q, xs, h1, h2, h3⟩ := vw
    have hlen := Rps.length h3
    have k' : ∀ B' ad' v' H', Same B3 B' → Pre ad3 ad' → SRep X.K X.mg B' F ad' σ δ3 H' → RpV X.K X.mg B' ad' (.fz (.tup (cutD ds l u))) v' → Q v' H' := fun B' ad' v' H' s4 p4 S' r' =>
      k B' ad' v' H' (((s1.trans s2).trans s3).trans s4) (((p1.trans p2).trans p3).trans p4) S' r'
    refine .inr ⟨q, xs, h1, SqT.of (S3.exB _ _ h2), fun hw => ?_, fun hw z hz => tup_ok S3 hz (cut_rps h3 l u) k'⟩
    rw [hlen] at hw
    rw [cutD_all hw] at k'
    exact here (d := .tup ds) S3 ⟨q, xs, rfl, h2, h3⟩ k'
  | _ => cases e
def dRev (m : Bool) (fe : EF) : EF := fun δ => (fe δ).bind fun p => match der p.2 p.1 with
  | some (.lst ds) => some (mk m ds.reverse p.2)
  | _ => none
theorem pd_rev (m : Bool) {k : Nat} {q1 q2 q3 : Pos} (h : PD X e f) : PD X (.Subscript e (.Slice none none (some (.UnaryOp .USub (.Constant (.int 1) k q1) q2)) q3) pos) (dRev m f) := PE.weak (pe_revL h) fun σ H Q h => by
  obtain ⟨B, F, ad, δ, r, δ', S, e, k⟩ := h
  unfold dRev at e
  obtain ⟨⟨x, δ1⟩, e1, e⟩ := Option.bind_eq_some_iff.mp e
  refine ⟨B, F, ad, δ, x, δ1, S, e1, fun B1 ad1 v H1 s1 p1 S1 r1 => ?_⟩
  split at e
  · rename_i ds e2
    have e' := Option.some.inj e
    obtain ⟨q, xs, h1, h2, h3⟩ := S1.vw r1 e2
    refine ⟨q, xs, h1, SqL.of h2, fun z hz => mk_ok (m := m) S1 hz (Rps.rev h3) fun B' ad' v' H' s4 p4 S' r' => ?_⟩
    dsimp only at e'
    rw [e'] at S' r'
    exact k B' ad' v' H' (s1.trans s4) (p1.trans p4) S' r'
  · cases e

/-! ### builtins -/
abbrev CF := Dl → List D → Option (Vl × Dl)
def rDC (K : PySem.W.Frag) (mg : Str → Option Value) (g : CF) : List V → Hp → VK → Prop := fun vs H Q => ∃ B F ad σ δ ds r δ', SRep K mg B F ad σ δ H ∧ Vws K mg B H ds vs ∧ g δ ds = some (r, δ') ∧
  ∀ B' ad' v H', Same B B' → Pre ad ad' → SRep K mg B' F ad' σ δ' H' → RpV K mg B' ad' r v → Q v H'
def dCB (g : CF) (fa : AF) : EF := fun δ => (fa δ).bind fun p => (ders p.2 p.1).bind fun ds => g p.2 ds
theorem dCB_w {K : PySem.W.Frag} {mg : Str → Option Value} {g : CF} {fs : AF} {σ : L2.St} {H : Hp} {Q : VK} (h : tD K mg (dCB g fs) σ H Q) : tCB (rDC K mg g) (tDA K mg fs) σ H Q := by
  obtain ⟨B, F, ad, δ, r, δ', S, e, k⟩ := h
  unfold dCB at e
  obtain ⟨⟨x, δ1⟩, e1, e⟩ := Option.bind_eq_some_iff.mp e
  obtain ⟨ds, e2, e⟩ := Option.bind_eq_some_iff.mp e
  refine ⟨B, F, ad, δ, x, δ1, S, e1, fun B1 ad1 vs H1 s1 p1 S1 r1 => ?_⟩
  exact ⟨B1, F, ad1, σ, δ1, ds, r, δ', S1, S1.vws r1 e2, e, fun B' ad' v H' s2 p2 S' r' => k B' ad' v H' (s1.trans s2) (p1.trans p2) S' r'⟩
theorem pd_cb {g : CF} {fs : AF} {id : String} {x : Str} (hc : CallR X (.builtin id) (rDC X.K X.mg g)) (hg : Gl X x) (hm : X.mg x = none) (hv : bootBuiltins x = some (.builtin id)) (ha : PDA X (e :: es) fs) (hn : x ≠ "__name__" := by decide) (hdb : (x == ("__debug__" : Str)) = false := by decide)
    (he : starEach (e :: es) X.env = (false, eval e X.env) :: starEach es X.env := by rfl) (hpl : (backTo pos (starEach es X.env)).any (·.1) = false := by rfl) : PD X (.Call (.Name x p) (e :: es) [] pos) (dCB g fs) :=
  PE.weak (pe_callB hc hg hm hv ha hn hdb he hpl) fun σ H Q h => dCB_w h
theorem pd_ct {g : CF} {fs : AF} {T : String} {x : Str} (hc : CallR X (.type T) (rDC X.K X.mg g)) (hg : Gl X x) (hm : X.mg x = none) (hv : bootBuiltins x = some (.type T)) (ha : PDA X (e :: es) fs) (hn : x ≠ "__name__" := by decide) (hdb : (x == ("__debug__" : Str)) = false := by decide)
    (he : starEach (e :: es) X.env = (false, eval e X.env) :: starEach es X.env := by rfl) (hpl : (backTo pos (starEach es X.env)).any (·.1) = false := by rfl) : PD X (.Call (.Name x p) (e :: es) [] pos) (dCB g fs) :=
  PE.weak (pe_callTy hc hg hm hv ha hn hdb he hpl) fun σ H Q h => dCB_w h
/-- g on one, on two data -/
def g1 (g : Dl → D → Option (Vl × Dl)) : CF := fun δ ds => match ds with
  | [d] => g δ d
  | _ => none
def g2 (g : Dl → D → D → Option (Vl × Dl)) : CF := fun δ ds => match ds with
  | [d, e] => g δ d e
  | _ => none
theorem rDC1 {K : PySem.W.Frag} {mg : Str → Option Value} {g : Dl → D → Option (Vl × Dl)} {vs : List V} {H : Hp} {Q : VK} (h : rDC K mg (g1 g) vs H Q) : ∃ v, vs = [v] ∧ ∃ B F ad σ δ d r δ', SRep K mg B F ad σ δ H ∧ Vw K mg B H d v ∧ g δ d = some (r, δ') ∧
    ∀ B' ad' v H', Same B B' → Pre ad ad' → SRep K mg B' F ad' σ δ' H' → RpV K mg B' ad' r v → Q v H' := by
  obtain ⟨B, F, ad, σ, δ, ds, r, δ', S, vw, e, k⟩ := h
  unfold g1 at e
  split at e
  · obtain ⟨v, w, h1, h2, h3⟩ := vw
    have h3' : w = [] := h3
    subst h3'
    exact ⟨v, h1, B, F, ad, σ, δ, _, r, δ', S, h2, e, k⟩
  · cases e
theorem rDC2 {K : PySem.W.Frag} {mg : Str → Option Value} {g : Dl → D → D → Option (Vl × Dl)} {vs : List V} {H : Hp} {Q : VK} (h : rDC K mg (g2 g) vs H Q) : ∃ v w, vs = [v, w] ∧ ∃ B F ad σ δ d d2 r δ', SRep K mg B F ad σ δ H ∧ Vw K mg B H d v ∧ Vw K mg B H d2 w ∧ g δ d d2 = some (r, δ') ∧
    ∀ B' ad' v H', Same B B' → Pre ad ad' → SRep K mg B' F ad' σ δ' H' → RpV K mg B' ad' r v → Q v H' := by
  obtain ⟨B, F, ad, σ, δ, ds, r, δ', S, vw, e, k⟩ := h
  unfold g2 at e
  split at e
  · obtain ⟨v, w, h1, h2, h3⟩ := vw
    obtain ⟨v2, w2, h4, h5, h6⟩ := h3
    have h6' : w2 = [] := h6
    subst h6'
    subst h4
    exact ⟨v, v2, h1, B, F, ad, σ, δ, _, _, r, δ', S, h2, h5, e, k⟩
  · cases e
def lenD : CF := g1 fun δ d => match d with
  | .lst ds => some (.fz (.int ds.length), δ)
  | .tup ds => some (.fz (.int ds.length), δ)
  | .scr ns => some (.fz (.int ns.length), δ)
  | _ => none
theorem oc_len : CallR X (.builtin "len") (rDC X.K X.mg lenD) := by
  intro pins s σ H xs us Q I r h
  obtain ⟨v, rfl, B, F, ad, σ', δ, d, r', δ', S, vw, e, k⟩ := rDC1 h
  refine call_len_seq pins s σ H _ us Q I r ?_
  cases d with
  | lst ds =>
    cases e
    obtain ⟨q, xs, h1, h2, h3⟩ := vw
    refine ⟨q, xs, by rw [h1], .inl (SqL.of h2), ?_⟩
    rw [Rps.length h3]
    exact here (d := .int ds.length) S rfl k
  | tup ds =>
    cases e
    obtain ⟨q, xs, h1, h2, h3⟩ := vw
    refine ⟨q, xs, by rw [h1], .inr (SqT.of (S.exB _ _ h2)), ?_⟩
    rw [Rps.length h3]
    exact here (d := .int ds.length) S rfl k
  | scr ns =>
    cases e
    obtain ⟨q, h1, h2⟩ := vw
    refine ⟨q, _, by rw [h1], .inl (sqL_mono S.exB h2), ?_⟩
    rw [List.length_map]
    exact here (d := .int ns.length) S rfl k
  | _ => cases e
def absD : CF := g1 fun δ d => match d with
  | .int i => some (.fz (.int (if i < 0 then -i else i)), δ)
  | _ => none
theorem oc_abs : CallR X (.builtin "abs") (rDC X.K X.mg absD) := by
  intro pins s σ H xs us Q I r h
  obtain ⟨v, rfl, B, F, ad, σ', δ, d, r', δ', S, vw, e, k⟩ := rDC1 h
  refine call_abs pins s σ H _ us Q I r ?_
  cases d with
  | int i =>
    cases e
    exact ⟨i, by rw [show v = .int i from vw], here (d := .int _) S rfl k⟩
  | _ => cases e
def maxD : CF := g2 fun δ d e => match d, e with
  | .int i, .int j => some (.fz (.int (if j > i then j else i)), δ)
  | _, _ => none
def minD : CF := g2 fun δ d e => match d, e with
  | .int i, .int j => some (.fz (.int (if j < i then j else i)), δ)
  | _, _ => none
theorem oc_max (hc : X.calm = true) : CallR X (.builtin "max") (rDC X.K X.mg maxD) := by
  intro pins s σ H xs us Q I r h
  obtain ⟨v, w, rfl, B, F, ad, σ', δ, d, d2, r', δ', S, vw, vw2, e, k⟩ := rDC2 h
  refine call_max2 hc pins s σ H _ us Q I r ?_
  split at e
  · cases e
    exact ⟨_, _, by rw [show v = _ from vw, show w = _ from vw2], here (d := .int _) S rfl k⟩
  · cases e
theorem oc_min (hc : X.calm = true) : CallR X (.builtin "min") (rDC X.K X.mg minD) := by
  intro pins s σ H xs us Q I r h
  obtain ⟨v, w, rfl, B, F, ad, σ', δ, d, d2, r', δ', S, vw, vw2, e, k⟩ := rDC2 h
  refine call_min2 hc pins s σ H _ us Q I r ?_
  split at e
  · cases e
    exact ⟨_, _, by rw [show v = _ from vw, show w = _ from vw2], here (d := .int _) S rfl k⟩
  · cases e
def intD : CF := g1 fun δ d => match d with
  | .int i => some (.fz (.int i), δ)
  | .bl b => some (.fz (.int (if b then 1 else 0)), δ)
  | _ => none
theorem oc_int : CallR X (.type "int") (rDC X.K X.mg intD) := by
  intro pins s σ H xs us Q I r h
  obtain ⟨v, rfl, B, F, ad, σ', δ, d, r', δ', S, vw, e, k⟩ := rDC1 h
  refine call_int1 pins s σ H _ us Q I r ?_
  cases d with
  | int i =>
    cases e
    exact .inl ⟨i, by rw [show v = .int i from vw], here (d := .int _) S rfl k⟩
  | bl i =>
    cases e
    exact .inr ⟨i, by rw [show v = .bl i from vw], here (d := .int _) S rfl k⟩
  | _ => cases e
def listD (m : Bool) : CF := g1 fun δ d => match d with
  | .lst ds => some (mk m ds δ)
  | .tup ds => some (mk m ds δ)
  | _ => none
theorem oc_list (m : Bool) : CallR X (.type "list") (rDC X.K X.mg (listD m)) := by
  intro pins s σ H xs us Q I r h
  obtain ⟨v, rfl, B, F, ad, σ', δ, d, r', δ', S, vw, e, k⟩ := rDC1 h
  refine call_list_of pins s σ H _ us Q I r ?_
  cases d with
  | lst ds =>
    have e' := Option.some.inj e
    obtain ⟨q, xs, h1, h2, h3⟩ := vw
    refine ⟨q, xs, by rw [h1], .inl (SqL.of h2), fun z hz => mk_ok (m := m) S hz h3 fun B' ad' v' H' s4 p4 S' r' => ?_⟩
    rw [e'] at S' r'
    exact k B' ad' v' H' s4 p4 S' r'
  | tup ds =>
    have e' := Option.some.inj e
    obtain ⟨q, xs, h1, h2, h3⟩ := vw
    refine ⟨q, xs, by rw [h1], .inr (SqT.of (S.exB _ _ h2)), fun z hz => mk_ok (m := m) S hz h3 fun B' ad' v' H' s4 p4 S' r' => ?_⟩
    rw [e'] at S' r'
    exact k B' ad' v' H' s4 p4 S' r'
  | _ => cases e
def tupD : CF := g1 fun δ d => match d with
  | .lst ds => some (.fz (.tup ds), δ)
  | .tup ds => some (.fz (.tup ds), δ)
  | _ => none
theorem oc_tup : CallR X (.type "tuple") (rDC X.K X.mg tupD) := by
  intro pins s σ H xs us Q I r h
  obtain ⟨v, rfl, B, F, ad, σ', δ, d, r', δ', S, vw, e, k⟩ := rDC1 h
  refine call_tuple_of pins s σ H _ us Q I r ?_
  cases d with
  | lst ds =>
    cases e
    obtain ⟨q, xs, h1, h2, h3⟩ := vw
    exact ⟨q, xs, by rw [h1], .inl ⟨SqL.of h2, fun z hz => tup_ok S hz h3 k⟩⟩
  | tup ds =>
    cases e
    obtain ⟨q, xs, h1, h2, h3⟩ := vw
    exact ⟨q, xs, by rw [h1], .inr ⟨SqT.of (S.exB _ _ h2), here (d := .tup ds) S ⟨q, xs, rfl, h2, h3⟩ k⟩⟩
  | _ => cases e
def intsD : List D → Option (List Int)
  | [] => some []
  | .int i :: ds => (intsD ds).map fun r => i :: r
  | _ :: _ => none
def bls : List D → Option (List Bool)
  | [] => some []
  | .bl i :: ds => (bls ds).map fun r => i :: r
  | _ :: _ => none
theorem ints_rps {K : PySem.W.Frag} {mg : Str → Option Value} {B : Hp} : ∀ {ds : List D} {xs : List V} {ns : List Int}, Rps K mg B ds xs → intsD ds = some ns → xs = ns.map V.int
  | [], xs, ns, h, e => by
    have h' : xs = [] := h
    subst h'
    cases e
    rfl
  | d :: ds, xs, ns, h, e => by
    obtain ⟨v, r, rfl, h2, h3⟩ := h
    cases d with
    | int i =>
      simp only [intsD] at e
      obtain ⟨ms, e1, e2⟩ := Option.map_eq_some_iff.mp e
      subst e2
      rw [ints_rps h3 e1, show v = .int i from h2]
      rfl
    | _ => simp only [intsD] at e; cases e
theorem bls_rps {K : PySem.W.Frag} {mg : Str → Option Value} {B : Hp} : ∀ {ds : List D} {xs : List V} {ns : List Bool}, Rps K mg B ds xs → bls ds = some ns → xs = ns.map V.bl
  | [], xs, ns, h, e => by
    have h' : xs = [] := h
    subst h'
    cases e
    rfl
  | d :: ds, xs, ns, h, e => by
    obtain ⟨v, r, rfl, h2, h3⟩ := h
    cases d with
    | bl i =>
      simp only [bls] at e
      obtain ⟨ms, e1, e2⟩ := Option.map_eq_some_iff.mp e
      subst e2
      rw [bls_rps h3 e1, show v = .bl i from h2]
      rfl
    | _ => simp only [bls] at e; cases e
def sumD : CF := g1 fun δ d => match d with
  | .lst ds => (intsD ds).map fun ns => (.fz (.int ns.sum), δ)
  | _ => none
theorem oc_sum (hc : X.calm = true) : CallR X (.builtin "sum") (rDC X.K X.mg sumD) := by
  intro pins s σ H xs us Q I r h
  obtain ⟨v, rfl, B, F, ad, σ', δ, d, r', δ', S, vw, e, k⟩ := rDC1 h
  refine cr_sum hc pins s σ H _ us Q I r ?_
  cases d with
  | lst ds =>
    obtain ⟨ns, e1, e2⟩ := Option.map_eq_some_iff.mp e
    cases e2
    obtain ⟨q, xs, h1, h2, h3⟩ := vw
    have := ints_rps h3 e1
    subst this
    exact ⟨q, ns, by rw [h1], SqL.of h2, here (d := .int _) S rfl k⟩
  | _ => cases e
def allD : CF := g1 fun δ d => match d with
  | .lst ds => (bls ds).map fun ns => (.fz (.bl (ns.all id)), δ)
  | _ => none
def anyD : CF := g1 fun δ d => match d with
  | .lst ds => (bls ds).map fun ns => (.fz (.bl (ns.any id)), δ)
  | _ => none
theorem oc_all (hc : X.calm = true) : CallR X (.builtin "all") (rDC X.K X.mg allD) := by
  intro pins s σ H xs us Q I r h
  obtain ⟨v, rfl, B, F, ad, σ', δ, d, r', δ', S, vw, e, k⟩ := rDC1 h
  refine cr_all hc pins s σ H _ us Q I r ?_
  cases d with
  | lst ds =>
    obtain ⟨ns, e1, e2⟩ := Option.map_eq_some_iff.mp e
    cases e2
    obtain ⟨q, xs, h1, h2, h3⟩ := vw
    have := bls_rps h3 e1
    subst this
    exact ⟨q, ns, by rw [h1], SqL.of h2, here (d := .bl _) S rfl k⟩
  | _ => cases e
theorem oc_any (hc : X.calm = true) : CallR X (.builtin "any") (rDC X.K X.mg anyD) := by
  intro pins s σ H xs us Q I r h
  obtain ⟨v, rfl, B, F, ad, σ', δ, d, r', δ', S, vw, e, k⟩ := rDC1 h
  refine cr_any hc pins s σ H _ us Q I r ?_
  cases d with
  | lst ds =>
    obtain ⟨ns, e1, e2⟩ := Option.map_eq_some_iff.mp e
    cases e2
    obtain ⟨q, xs, h1, h2, h3⟩ := vw
    have := bls_rps h3 e1
    subst this
    exact ⟨q, ns, by rw [h1], SqL.of h2, here (d := .bl _) S rfl k⟩
  | _ => cases e
/-! isinstance(e, T), T a built-in type -/
def tyD : D → Option String
  | .non => some "NoneType"
  | .bl _ => some "bool"
  | .int _ => some "int"
  | .str _ => some "str"
  | .lst _ => some "list"
  | .tup _ => some "tuple"
  | _ => none
def dIsi (T : String) (f : EF) : EF := fun δ => (f δ).bind fun p => (der p.2 p.1).bind fun d => (tyD d).bind fun t => (kitB t T).map fun b => (.fz (.bl b), p.2)
theorem ty_of {K : PySem.W.Frag} {mg : Str → Option Value} {B H : Hp} {d : D} {v : V} {t : String} (s : Same B H) (h : Vw K mg B H d v) (e : tyD d = some t) : TyX K H v (.type t) := by
  cases d <;> simp only [tyD] at e <;> cases e
  · rw [show v = .non from h]; exact .base .non
  · rw [show v = .bl _ from h]; exact .base (.bl _)
  · rw [show v = .int _ from h]; exact .base (.int _)
  · rw [show v = .str _ from h]; exact .base (.str _)
  · obtain ⟨a, xs, rfl, h2, h3⟩ := h
    exact .base (.lst h2)
  · obtain ⟨a, xs, rfl, h2, h3⟩ := h
    exact .base (.tup (s _ _ h2))
theorem pd_isi {T : String} {x : Str} {p1 p2 : Pos} (hg : Gl X "isinstance") (hm : X.mg "isinstance" = none) (hgT : Gl X x) (hmT : X.mg x = none) (hvT : bootBuiltins x = some (.type T)) (ha : PD X e f)
    (hn : x ≠ "__name__" := by decide) (hdb : (x == ("__debug__" : Str)) = false := by decide)
    (hs : starEach [e, .Name x p1] X.env = (false, eval e X.env) :: starEach [.Name x p1] X.env := by rfl) (hs2 : starEach [.Name x p1] X.env = (false, eval (.Name x p1) X.env) :: starEach [] X.env := by rfl)
    (hpl : (backTo pos (starEach [.Name x p1] X.env)).any (·.1) = false := by rfl) : PD X (.Call (.Name "isinstance" p2) [e, .Name x p1] [] pos) (dIsi T f) :=
  PE.weak (pe_callB call_isi hg hm (by decide +kernel) (pa_cons ha (pa_cons (pe_bltn (v := .ty T) hgT hmT hvT rfl hn hdb) pa_nil hs2) hs) (by decide) (by decide) hs hpl) fun σ H Q h => by
    obtain ⟨B, F, ad, δ, r, δ', S, e, k⟩ := h
    unfold dIsi at e
    obtain ⟨⟨x, δ1⟩, e1, e⟩ := Option.bind_eq_some_iff.mp e
    obtain ⟨d, e2, e⟩ := Option.bind_eq_some_iff.mp e
    obtain ⟨t, e3, e⟩ := Option.bind_eq_some_iff.mp e
    obtain ⟨b, e4, e⟩ := Option.map_eq_some_iff.mp e
    cases e
    refine ⟨B, F, ad, δ, x, _, S, e1, fun B1 ad1 v H1 s1 p1 S1 r1 => ?_⟩
    exact ⟨v, .ty T, .type t, .type T, b, rfl, .ty T, ty_of S1.exB (S1.vw r1 e2) e3, kit_ty e4, k B1 ad1 _ H1 s1 p1 S1 rfl⟩
end
end PK

namespace PK
open PySem L2

/-! ### defs: what they promise -/
inductive Res where
  | val (d : D) | fresh (ds : List D)
inductive Fl where
  | nx | bk | ct | rt (r : Vl)
abbrev GF := List Vl → List (List D) → Option (Res × List (List D))
abbrev SF := Dl → Option (Fl × Dl)
def ResOk (K : PySem.W.Frag) (mg : Str → Option Value) (B F : Hp) (ad : List Addr) (cs : List (List D)) (H : Hp) (v : V) : Res → Prop
  | .val d => SRep K mg B F ad [] ⟨[], cs.map some⟩ H ∧ Rp K mg B d v
  | .fresh es => ∃ p, v = .ref p ∧ SRep K mg B F (ad ++ [p]) [] ⟨[], (cs ++ [es]).map some⟩ H
def spD (K : PySem.W.Frag) (mg : Str → Option Value) (n : Nat) (G : GF) : Sp := fun vs H Q _ => vs.length = n ∧ ∃ B F ad rs cs r cs', SRep K mg B F ad [] ⟨[], cs.map some⟩ H ∧ RpVs K mg B ad rs vs ∧ G rs cs = some (r, cs') ∧ cs'.length = cs.length ∧
  ∀ B' v H', Same B B' → ResOk K mg B' F ad cs' H' v r → Q v H'

/-! ### a call -/
def refs : List Vl → List Nat
  | [] => []
  | .rf k :: rs => k :: refs rs
  | .fz _ :: rs => refs rs
def renum (n : Nat) : List Vl → List Vl
  | [] => []
  | .rf _ :: rs => .rf n :: renum (n + 1) rs
  | .fz d :: rs => .fz d :: renum n rs
def lives (δ : Dl) : List Nat → Option (List (List D))
  | [] => some []
  | k :: ks => match δ.st[k]?, lives δ ks with
    | some (some ds), some r => some (ds :: r)
    | _, _ => none
def putAll (st : List (Option (List D))) : List Nat → List (List D) → List (Option (List D))
  | k :: ks, c :: cs => putAll (st.set k (some c)) ks cs
  | _, _ => st
def callG (m : Bool) (G : GF) (rs : List Vl) (δ : Dl) : Option (Vl × Dl) := if (refs rs).Nodup then (lives δ (refs rs)).bind fun cs => (G (renum 0 rs) cs).bind fun q => if q.2.length = cs.length then
    (match q.1 with
    | .val d => some (.fz d, { δ with st := putAll δ.st (refs rs) q.2 })
    | .fresh es => some (mk m es { δ with st := putAll δ.st (refs rs) q.2 }))
    else none
  else none
def dCall (m : Bool) (G : GF) (fa : AF) : EF := fun δ => (fa δ).bind fun p => callG m G p.1 p.2

theorem putAll_length : ∀ (ks : List Nat) (cs : List (List D)) (st : List (Option (List D))), (putAll st ks cs).length = st.length
  | [], _, _ => rfl
  | _ :: _, [], _ => rfl
  | k :: ks, c :: cs, st => by
    show (putAll (st.set k (some c)) ks cs).length = _
    rw [putAll_length]
    simp
theorem putAll_out : ∀ (ks : List Nat) (cs : List (List D)) (st : List (Option (List D))) (j : Nat), j ∉ ks → (putAll st ks cs)[j]? = st[j]?
  | [], _, _, _, _ => rfl
  | _ :: _, [], _, _, _ => rfl
  | k :: ks, c :: cs, st, j, h => by
    show (putAll (st.set k (some c)) ks cs)[j]? = _
    rw [putAll_out ks cs _ j (fun z => h (List.mem_cons_of_mem _ z)), List.getElem?_set_ne (fun z => h (by rw [z]; exact List.mem_cons_self))]
theorem putAll_in : ∀ (ks : List Nat) (cs : List (List D)) (st : List (Option (List D))) (i k : Nat), ks.Nodup → ks[i]? = some k → cs.length = ks.length → k < st.length → (putAll st ks cs)[k]? = (cs[i]?).map some
  | [], _, _, i, k, _, h, _, _ => by simp at h
  | k0 :: ks, [], st, i, k, _, h, hl, _ => by simp at hl
  | k0 :: ks, c :: cs, st, 0, k, hn, h, hl, hk => by
    simp at h
    subst h
    show (putAll (st.set k0 (some c)) ks cs)[k0]? = _
    rw [putAll_out ks cs _ k0 (List.nodup_cons.mp hn).1, List.getElem?_set_self hk]
    rfl
  | k0 :: ks, c :: cs, st, i + 1, k, hn, h, hl, hk => by
    show (putAll (st.set k0 (some c)) ks cs)[k]? = _
    have h' : ks[i]? = some k := by simpa using h
    rw [putAll_in ks cs _ i k (List.nodup_cons.mp hn).2 h' (by simpa using hl) (by simpa using hk)]
    simp
theorem lives_get {δ : Dl} : ∀ {ks : List Nat} {cs : List (List D)}, lives δ ks = some cs → cs.length = ks.length ∧ ∀ (i k : Nat), ks[i]? = some k → ∃ c, cs[i]? = some c ∧ δ.st[k]? = some (some c)
  | [], cs, h => by
    simp only [lives] at h
    cases h
    exact ⟨rfl, fun i k e => by simp at e⟩
  | k0 :: ks, cs, h => by
    simp only [lives] at h
    split at h
    · rename_i ds r h1 h2
      cases h
      obtain ⟨l, g⟩ := lives_get h2
      refine ⟨by simp [l], fun i k e => ?_⟩
      cases i with
      | zero =>
        simp at e
        subst e
        exact ⟨ds, rfl, h1⟩
      | succ i =>
        obtain ⟨c, g1, g2⟩ := g i k (by simpa using e)
        exact ⟨c, by simpa using g1, g2⟩
    · cases h

section
variable {K : PySem.W.Frag} {mg : Str → Option Value} {B B' F : Hp} {ad ad' : List Addr} {σ : L2.St} {δ δ' : Dl} {H H' : Hp} {p : Addr}
/-- the addresses of some of the lists -/
def addrs (ad : List Addr) (ks : List Nat) : List Addr := ks.filterMap fun k => ad[k]?
open Classical in
/-- the frame of a callee: ours, and our other lists -/
noncomputable def frameOf (F : Hp) (ad : List Addr) (δ : Dl) (ks : List Nat) (H : Hp) : Hp := fun a => if (∃ (k : Nat) (ds : List D), k ∉ ks ∧ ad[k]? = some a ∧ δ.st[k]? = some (some ds)) then H a else F a
theorem addrs_get {ks : List Nat} (hk : ∀ k ∈ ks, k < ad.length) : (addrs ad ks).length = ks.length ∧ ∀ (i k : Nat), ks[i]? = some k → (addrs ad ks)[i]? = ad[k]? := by
  unfold addrs
  induction ks with
  | nil => exact ⟨rfl, fun i k e => by simp at e⟩
  | cons k0 ks ih =>
    have h0 : k0 < ad.length := hk k0 List.mem_cons_self
    obtain ⟨l, g⟩ := ih fun k hk' => hk k (List.mem_cons_of_mem _ hk')
    have e0 : ad[k0]? = some ad[k0] := List.getElem?_eq_getElem h0
    rw [List.filterMap_cons, e0]
    refine ⟨by simp [l], fun i k e => ?_⟩
    cases i with
    | zero =>
      simp at e
      subst e
      rw [e0]; rfl
    | succ i => exact g i k (by simpa using e)
theorem addrs_nodup (hn : ad.Nodup) : ∀ {ks : List Nat}, ks.Nodup → (addrs ad ks).Nodup := by
  intro ks
  unfold addrs
  induction ks with
  | nil => intro _; exact List.nodup_nil
  | cons k0 ks ih =>
    intro h
    obtain ⟨h1, h2⟩ := List.nodup_cons.mp h
    rw [List.filterMap_cons]
    cases e : ad[k0]? with
    | none => exact ih h2
    | some a =>
      refine List.nodup_cons.mpr ⟨fun z => ?_, ih h2⟩
      obtain ⟨k, hk, ek⟩ := List.mem_filterMap.mp z
      obtain ⟨l1, e1⟩ := List.getElem?_eq_some_iff.mp e
      obtain ⟨l2, e2⟩ := List.getElem?_eq_some_iff.mp ek
      have : k0 = k := (List.getElem_inj hn).mp (e1.trans e2.symm)
      exact h1 (by rw [this]; exact hk)
theorem SRep.live_lt (S : SRep K mg B F ad σ δ H) {ks : List Nat} {cs : List (List D)} (h : lives δ ks = some cs) : ∀ k ∈ ks, k < ad.length := fun k hk => by
  obtain ⟨i, hi⟩ := List.getElem?_of_mem hk
  obtain ⟨c, _, e⟩ := (lives_get h).2 i k hi
  rw [S.len]
  exact (List.getElem?_eq_some_iff.mp e).1
theorem SRep.addr_inj (S : SRep K mg B F ad σ δ H) {i j : Nat} {a : Addr} (h1 : ad[i]? = some a) (h2 : ad[j]? = some a) : i = j := by
  obtain ⟨l1, e1⟩ := List.getElem?_eq_some_iff.mp h1
  obtain ⟨l2, e2⟩ := List.getElem?_eq_some_iff.mp h2
  exact (List.getElem_inj S.nd).mp (e1.trans e2.symm)
/-- what a callee gets -/
theorem SRep.down (S : SRep K mg B F ad σ δ H) {ks : List Nat} {cs : List (List D)} (h : lives δ ks = some cs) (hn : ks.Nodup) : SRep K mg B (frameOf F ad δ ks H) (addrs ad ks) [] ⟨[], cs.map some⟩ H where
  exB := S.exB
  exF := fun a o e => by
    unfold frameOf at e
    split at e
    · exact e
    · exact S.exF a o e
  dis := fun a o e => by
    unfold frameOf at e
    split at e
    · rename_i hx
      obtain ⟨k, ds, _, h1, h2⟩ := hx
      obtain ⟨q, xs, g1, g2, _, g4, _⟩ := S.cell k ds h2
      rw [h1] at g1
      cases g1
      exact g4
    · exact S.dis a o e
  nd := addrs_nodup S.nd hn
  len := by
    rw [(addrs_get (S.live_lt h)).1, List.length_map, (lives_get h).1]
  slen := rfl
  cell := fun i ds e => by
    have e' : (cs.map some)[i]? = some (some ds) := e
    rw [List.getElem?_map] at e'
    obtain ⟨c, e1, e2⟩ := Option.map_eq_some_iff.mp e'
    cases e2
    have hi : i < ks.length := by
      rw [← (lives_get h).1]
      exact (List.getElem?_eq_some_iff.mp e1).1
    obtain ⟨c', g1, g2⟩ := (lives_get h).2 i ks[i] (List.getElem?_eq_getElem hi)
    rw [e1] at g1
    cases g1
    obtain ⟨q, xs, h1, h2, h3, h4, h5⟩ := S.cell _ _ g2
    refine ⟨q, xs, by rw [(addrs_get (S.live_lt h)).2 i _ (List.getElem?_eq_getElem hi)]; exact h1, h2, h3, h4, ?_⟩
    unfold frameOf
    rw [if_neg]
    · exact h5
    · rintro ⟨k, ds, hk, k1, k2⟩
      have := S.addr_inj k1 h1
      subst this
      exact hk (List.getElem_mem hi)
  dead := fun i q h1 h2 => by
    have h2' : (cs.map some)[i]? = some none := h2
    rw [List.getElem?_map] at h2'
    obtain ⟨c, _, e2⟩ := Option.map_eq_some_iff.mp h2'
    cases e2
  slot := fun i d e => by simp at e
/-- what comes back -/
theorem SRep.up (S : SRep K mg B F ad σ δ H) {ks : List Nat} {cs cs' : List (List D)} (h : lives δ ks = some cs) (hn : ks.Nodup) (hl : cs'.length = cs.length) (sB : Same B B') {m : List Addr} {ms : List (List D)}
    (S' : SRep K mg B' (frameOf F ad δ ks H) (addrs ad ks ++ m) [] ⟨[], (cs' ++ ms).map some⟩ H') : SRep K mg B' F (ad ++ m) σ { δ with st := putAll δ.st ks cs' ++ ms.map some } H' := by
  have hg := lives_get h
  have ha := addrs_get (S.live_lt h)
  have hal : (addrs ad ks).length = cs'.length := by rw [ha.1, hl, hg.1]
  have hml : m.length = ms.length := by
    have := S'.len
    simp only [List.length_append, List.length_map] at this
    omega
  have fF : ∀ a o, F a = some o → frameOf F ad δ ks H a = some o := fun a o e => by
    unfold frameOf
    split
    · rename_i hx
      obtain ⟨k, ds, _, h1, h2⟩ := hx
      obtain ⟨q, xs, g1, g2, _, g4, g5⟩ := S.cell k ds h2
      rw [h1] at g1
      cases g1
      rw [g5] at e
      cases e
    · exact e
  have fC : ∀ (k : Nat) (ds : List D) (q : Addr), k ∉ ks → ad[k]? = some q → δ.st[k]? = some (some ds) → frameOf F ad δ ks H q = H q := fun k ds q h1 h2 h3 => by
    unfold frameOf
    rw [if_pos ⟨k, ds, h1, h2, h3⟩]
  -- our lists are not the new ones
  have hnew : ∀ a ∈ ad, ∀ b ∈ m, a ≠ b := fun a haa b hb z => by
    subst z
    obtain ⟨k, hk⟩ := List.getElem?_of_mem haa
    have hkl : k < δ.st.length := by rw [← S.len]; exact (List.getElem?_eq_some_iff.mp hk).1
    obtain ⟨j, hj⟩ := List.getElem?_of_mem hb
    have hjl : j < ms.length := by rw [← hml]; exact (List.getElem?_eq_some_iff.mp hj).1
    have e1 : (addrs ad ks ++ m)[(addrs ad ks).length + j]? = some a := by
      rw [List.getElem?_append_right (by omega)]
      simpa using hj
    have e2 : ((cs' ++ ms).map some)[(addrs ad ks).length + j]? = some (some ms[j]) := by
      rw [List.getElem?_map, List.getElem?_append_right (by omega), hal]
      simp [hjl]
    obtain ⟨q, xs, g1, g2, _, g4, g5⟩ := S'.cell _ _ e2
    rw [e1] at g1
    cases g1
    by_cases hks : k ∈ ks
    · obtain ⟨i, hi⟩ := List.getElem?_of_mem hks
      have hil : i < (addrs ad ks).length := by rw [ha.1]; exact (List.getElem?_eq_some_iff.mp hi).1
      have e3 : (addrs ad ks ++ m)[i]? = some a := by
        rw [List.getElem?_append_left hil, ha.2 i k hi]
        exact hk
      have := S'.addr_inj e1 e3
      omega
    · cases e : δ.st[k]? with
      | none => exact absurd (List.getElem?_eq_none_iff.mp e) (by omega)
      | some u =>
        cases u with
        | none =>
          have := S.dead k a hk e
          cases q : B a with
          | none => exact this q
          | some o =>
            rw [sB a o q] at g4
            cases g4
        | some ds =>
          obtain ⟨b, ys, k1, k2, _⟩ := S.cell k ds e
          rw [hk] at k1
          cases k1
          rw [fC k ds a hks hk e, k2] at g5
          cases g5
  refine ⟨S'.exB, fun a o e => S'.exF a o (fF a o e), fun a o e => S'.dis a o (fF a o e), ?_, ?_, S.slen, fun k ds e => ?_, fun k q h1 h2 => ?_, fun i d e => ?_⟩
  · rw [List.nodup_append]
    refine ⟨S.nd, ?_, hnew⟩
    have := S'.nd
    rw [List.nodup_append] at this
    exact this.2.1
  · simp only [List.length_append, List.length_map, putAll_length]
    rw [S.len, hml]
  · have e' : (putAll δ.st ks cs' ++ ms.map some)[k]? = some (some ds) := e
    by_cases hk : k < δ.st.length
    · rw [List.getElem?_append_left (by rw [putAll_length]; exact hk)] at e'
      by_cases hks : k ∈ ks
      · obtain ⟨i, hi⟩ := List.getElem?_of_mem hks
        rw [putAll_in ks cs' δ.st i k hn hi (by rw [hl, hg.1]) hk] at e'
        obtain ⟨c, e1, e2⟩ := Option.map_eq_some_iff.mp e'
        cases e2
        have hi' : i < (addrs ad ks).length := by rw [ha.1]; exact (List.getElem?_eq_some_iff.mp hi).1
        have e3 : ((cs' ++ ms).map some)[i]? = some (some ds) := by
          rw [List.getElem?_map, List.getElem?_append_left (by omega), e1]
          rfl
        obtain ⟨q, xs, g1, g2, g3, g4, g5⟩ := S'.cell i ds e3
        rw [List.getElem?_append_left hi', ha.2 i k hi] at g1
        refine ⟨q, xs, (Pre.app ad m).get g1, g2, g3, g4, ?_⟩
        cases z : F q with
        | none => rfl
        | some o =>
          rw [fF q o z] at g5
          cases g5
      · rw [putAll_out ks cs' δ.st k hks] at e'
        obtain ⟨q, xs, g1, g2, g3, g4, g5⟩ := S.cell k ds e'
        have f1 := fC k ds q hks g1 e'
        refine ⟨q, xs, (Pre.app ad m).get g1, ?_, Rps.mono sB ds xs g3, ?_, g5⟩
        · exact S'.exF q _ (by rw [f1]; exact g2)
        · exact S'.dis q (.lst xs) (by rw [f1]; exact g2)
    · rw [List.getElem?_append_right (by rw [putAll_length]; omega), putAll_length] at e'
      rw [List.getElem?_map] at e'
      obtain ⟨c, e1, e2⟩ := Option.map_eq_some_iff.mp e'
      cases e2
      have e3 : ((cs' ++ ms).map some)[cs'.length + (k - δ.st.length)]? = some (some ds) := by
        rw [List.getElem?_map, List.getElem?_append_right (by omega)]
        simp only [Nat.add_sub_cancel_left]
        rw [e1]
        rfl
      obtain ⟨q, xs, g1, g2, g3, g4, g5⟩ := S'.cell _ _ e3
      rw [List.getElem?_append_right (by omega)] at g1
      refine ⟨q, xs, ?_, g2, g3, g4, ?_⟩
      · rw [List.getElem?_append_right (by rw [S.len]; omega), S.len]
        rw [hal] at g1
        simpa using g1
      · cases z : F q with
        | none => rfl
        | some o =>
          rw [fF q o z] at g5
          cases g5
  · have h2' : (putAll δ.st ks cs' ++ ms.map some)[k]? = some none := h2
    by_cases hk : k < δ.st.length
    · rw [List.getElem?_append_left (by rw [putAll_length]; exact hk)] at h2'
      rw [List.getElem?_append_left (by rw [S.len]; exact hk)] at h1
      by_cases hks : k ∈ ks
      · obtain ⟨i, hi⟩ := List.getElem?_of_mem hks
        rw [putAll_in ks cs' δ.st i k hn hi (by rw [hl, hg.1]) hk] at h2'
        obtain ⟨c, e1, e2⟩ := Option.map_eq_some_iff.mp h2'
        cases e2
      · rw [putAll_out ks cs' δ.st k hks] at h2'
        have := S.dead k q h1 h2'
        intro z
        cases w : B q with
        | none => exact this w
        | some o =>
          rw [sB q o w] at z
          cases z
    · rw [List.getElem?_append_right (by rw [putAll_length]; omega), putAll_length, List.getElem?_map] at h2'
      obtain ⟨c, e1, e2⟩ := Option.map_eq_some_iff.mp h2'
      cases e2
  · obtain ⟨v, g1, g2⟩ := S.slot i d e
    exact ⟨v, g1, g2.mono sB (Pre.app _ _)⟩
/-- the last of our lists frozen and let go -/
theorem SRep.lastFrozen {es : List D} {st : List (Option (List D))} (S : SRep K mg B F (ad ++ [p]) σ { δ with st := st ++ [some es] } H) (hl : ad.length = st.length) (hs : ∀ (i k : Nat), δ.sl[i]? = some (some (Vl.rf k)) → k < ad.length) :
    ∃ B', Same B B' ∧ SRep K mg B' F ad σ { δ with st := st } H ∧ Rp K mg B' (.lst es) (.ref p) := by
  have e1 : ({ δ with st := st ++ [some es] } : Dl).st[st.length]? = some (some es) := by simp
  have e2 : (ad ++ [p])[st.length]? = some p := by rw [← hl]; simp
  obtain ⟨q, xs, g1, g2, g3, g4, g5⟩ := S.cell _ _ e1
  rw [e2] at g1
  cases g1
  obtain ⟨S1, s1⟩ := S.freeze e1 e2 g2
  have hst : ({ δ with st := st ++ [some es] } : Dl).st.set st.length none = st ++ [none] := by
    show (st ++ [some es]).set st.length none = _
    rw [List.set_append_right _ _ (Nat.le_refl _)]
    simp
  refine ⟨_, s1, ⟨S1.exB, S1.exF, S1.dis, ?_, hl, S1.slen, fun k ds e => ?_, fun k q h1 h2 => ?_, fun i d e => ?_⟩, p, xs, rfl, upd_same, Rps.mono s1 es xs g3⟩
  · have := S1.nd
    rw [List.nodup_append] at this
    exact this.1
  · have e' : st[k]? = some (some ds) := e
    have hk : k < st.length := (List.getElem?_eq_some_iff.mp e').1
    obtain ⟨q, xs', k1, k2⟩ := S1.cell k ds (by
      show (({ δ with st := st ++ [some es] } : Dl).st.set st.length none)[k]? = _
      rw [hst, List.getElem?_append_left hk]
      exact e')
    rw [List.getElem?_append_left (by omega)] at k1
    exact ⟨q, xs', k1, k2⟩
  · have h2' : st[k]? = some none := h2
    have hk : k < st.length := (List.getElem?_eq_some_iff.mp h2').1
    refine S1.dead k q ?_ ?_
    · rw [List.getElem?_append_left (by omega)]; exact h1
    · show (({ δ with st := st ++ [some es] } : Dl).st.set st.length none)[k]? = _
      rw [hst, List.getElem?_append_left hk]
      exact h2'
  · obtain ⟨v, k1, k2⟩ := S1.slot i d e
    refine ⟨v, k1, ?_⟩
    cases d with
    | fz d => exact k2
    | rf k =>
      obtain ⟨a, z1, z2⟩ := k2
      rw [List.getElem?_append_left (hs i k e)] at z2
      exact ⟨a, z1, z2⟩
theorem SRep.slot_lt (S : SRep K mg B F ad σ δ H) : ∀ (i k : Nat), δ.sl[i]? = some (some (Vl.rf k)) → k < ad.length := fun i k e => by
  obtain ⟨v, _, a, _, h⟩ := S.slot i _ e
  exact (List.getElem?_eq_some_iff.mp h).1
theorem renum_ok : ∀ {rs : List Vl} {vs : List V} {ks : List Nat}, (∀ k ∈ ks ++ refs rs, k < ad.length) → RpVs K mg B ad rs vs → RpVs K mg B (addrs ad (ks ++ refs rs)) (renum ks.length rs) vs
  | [], vs, ks, hk, h => h
  | .fz d :: rs, vs, ks, hk, h => by
    obtain ⟨v, r, rfl, h2, h3⟩ := h
    exact ⟨v, r, rfl, h2, renum_ok (rs := rs) hk h3⟩
  | .rf k :: rs, vs, ks, hk, h => by
    obtain ⟨v, r, rfl, ⟨a, rfl, h2⟩, h3⟩ := h
    refine ⟨.ref a, r, rfl, ⟨a, rfl, ?_⟩, ?_⟩
    · show (addrs ad (ks ++ k :: refs rs))[ks.length]? = some a
      have hk' : ∀ j ∈ ks ++ k :: refs rs, j < ad.length := hk
      rw [(addrs_get hk').2 ks.length k (by simp)]
      exact h2
    · have e : ks ++ refs (.rf k :: rs) = (ks ++ [k]) ++ refs rs := by simp [refs]
      have := renum_ok (rs := rs) (ks := ks ++ [k]) (by rw [← e]; exact hk) h3
      rw [List.length_append, List.length_singleton] at this
      rw [e]
      exact this
/-- THE CALL -/
theorem call_w {m : Bool} {G : GF} {rs : List Vl} {vs : List V} {r : Vl} {n : Nat} {Q : VK} {E : XK} (S : SRep K mg B F ad σ δ H) (hv : RpVs K mg B ad rs vs) (hn : vs.length = n) (e : callG m G rs δ = some (r, δ'))
    (k : ∀ B' ad' v H', Same B B' → Pre ad ad' → SRep K mg B' F ad' σ δ' H' → RpV K mg B' ad' r v → Q v H') : spD K mg n G vs H Q E := by
  unfold callG at e
  split at e
  · rename_i hnd
    obtain ⟨cs, e1, e⟩ := Option.bind_eq_some_iff.mp e
    obtain ⟨⟨q, cs'⟩, e2, e⟩ := Option.bind_eq_some_iff.mp e
    split at e
    · rename_i hl
      have hl' : cs'.length = cs.length := hl
      have hlt := S.live_lt e1
      refine ⟨hn, B, frameOf F ad δ (refs rs) H, addrs ad (refs rs), renum 0 rs, cs, q, cs', S.down e1 hnd, ?_, e2, hl', fun B' v H' sB hr => ?_⟩
      · exact renum_ok (ks := []) (by simpa using hlt) hv
      · cases q with
        | val d =>
          cases e
          obtain ⟨S', r'⟩ := hr
          have S2 := S.up (m := []) (ms := []) e1 hnd hl' sB (by simpa using S')
          simp only [List.append_nil, List.map_nil] at S2
          exact k B' ad v H' sB (Pre.refl _) S2 r'
        | fresh es =>
          obtain ⟨p, rfl, S'⟩ := hr
          have S2 := S.up (m := [p]) (ms := [es]) e1 hnd hl' sB S'
          have hpl : ad.length = (putAll δ.st (refs rs) cs').length := by rw [putAll_length, S.len]
          cases m with
          | true =>
            cases e
            refine k B' (ad ++ [p]) _ H' sB (Pre.app _ _) S2 ⟨p, rfl, ?_⟩
            rw [← hpl]
            simp
          | false =>
            cases e
            obtain ⟨B2, s2, S3, r3⟩ := SRep.lastFrozen (δ := δ) S2 hpl S.slot_lt
            exact k B2 ad _ H' (sB.trans s2) (Pre.refl _) S3 r3
    · cases e
  · cases e
end
section
variable {X : Cx} {e o : Expr} {f fo : EF} {pos p apos : Pos} {es : List Expr} {fs : AF}
theorem RpVs.length {K : PySem.W.Frag} {mg : Str → Option Value} {B : Hp} {ad : List Addr} : ∀ {rs : List Vl} {vs : List V}, RpVs K mg B ad rs vs → vs.length = rs.length
  | [], vs, h => by
    have h' : vs = [] := h
    subst h'; rfl
  | r :: rs, vs, h => by
    obtain ⟨v, w, rfl, _, h3⟩ := h
    rw [List.length_cons, List.length_cons, h3.length]
def dCallN (m : Bool) (n : Nat) (G : GF) (fa : AF) : EF := fun δ => (fa δ).bind fun p => if p.1.length = n then callG m G p.1 p.2 else none
theorem pd_call {k n : Nat} {f : Addr} {fd : FuncData} {ps : List Str} {G : GF} {x : Str} (m : Bool) (Fk : FnOk X.prog X.w X.K X.mg X.base CX0 k f fd ps (spD X.K X.mg n G)) (hr : Room k X.A) (hg : Gl X x) (hm : X.mg x = some (.ref f)) (hk : PySem.W.keepIn X.K (.ref f) = true)
    (hb : Binds X.K fd ps []) (ha : PDA X (e :: es) fs) (hdb : (x == ("__debug__" : Str)) = false := by decide) (he : starEach (e :: es) X.env = (false, eval e X.env) :: starEach es X.env := by rfl)
    (hpl : (backTo pos (starEach es X.env)).any (·.1) = false := by rfl) : PD X (.Call (.Name x p) (e :: es) [] pos) (dCallN m n G fs) :=
  PE.weak (pe_call Fk hr hg hm hk hb .nil pass0 ha hdb he hpl) fun σ H Q h => by
    obtain ⟨B, F, ad, δ, r, δ', S, e, k⟩ := h
    unfold dCallN at e
    obtain ⟨⟨rs, δ1⟩, e1, e⟩ := Option.bind_eq_some_iff.mp e
    split at e
    · rename_i hl
      refine ⟨B, F, ad, δ, rs, δ1, S, e1, fun B1 ad1 vs H1 s1 p1 S1 r1 => ?_⟩
      show spD X.K X.mg n G (vs ++ []) H1 Q E0
      rw [List.append_nil]
      exact call_w S1 r1 (by rw [r1.length]; exact hl) e fun B' ad' v H' s2 p2 S' r' => k B' ad' v H' (s1.trans s2) (p1.trans p2) S' r'
    · cases e
end
end PK

namespace PK
open PySem L2

/-! ### statements -/
def FlOk (K : PySem.W.Frag) (mg : Str → Option Value) (B : Hp) (ad : List Addr) (D : Ends) (σ : L2.St) (H : Hp) : Fl → Prop
  | .nx => D.nx σ H
  | .bk => D.bk σ H
  | .ct => D.ct σ H
  | .rt r => ∀ v, RpV K mg B ad r v → D.rt v H
def sD (K : PySem.W.Frag) (mg : Str → Option Value) (f : SF) : TS := fun D σ H => ∃ B F ad δ fl δ', SRep K mg B F ad σ δ H ∧ f δ = some (fl, δ') ∧
  ∀ B' ad' σ' H', Same B B' → Pre ad ad' → SRep K mg B' F ad' σ' δ' H' → FlOk K mg B' ad' D σ' H' fl
abbrev PDS (X : Cx) (st : Stmt) (f : SF) := PS X st (sD X.K X.mg f)
abbrev PDSs (X : Cx) (st : List Stmt) (f : SF) := PSs X st (sD X.K X.mg f)
def sNext : SF := fun δ => some (.nx, δ)
def sSeq (f g : SF) : SF := fun δ => (f δ).bind fun p => match p.1 with
  | .nx => g p.2
  | fl => some (fl, p.2)
def sSet (i : Nat) (f : EF) : SF := fun δ => (f δ).map fun p => (.nx, { p.2 with sl := p.2.sl.set i (some p.1) })
def sDrop (f : EF) : SF := fun δ => (f δ).map fun p => (.nx, p.2)
def sRet (f : EF) : SF := fun δ => (f δ).map fun p => (.rt p.1, p.2)
def sRetN : SF := fun δ => some (.rt (.fz .non), δ)
def sIf (t : BF) (f g : SF) : SF := fun δ => (t δ).bind fun p => if p.1 then f p.2 else g p.2
def sBrk : SF := fun δ => some (.bk, δ)
def sCnt : SF := fun δ => some (.ct, δ)
def sNever : SF := fun _ => none
section
variable {X : Cx} {e a b c : Expr} {f fa fb fc : EF} {ft : BF} {st : Stmt} {rest s1 s2 : List Stmt} {g h u : SF} {pos : Pos}
theorem pds_nil : PDSs X [] sNext := PSs.weak pss_nil fun D σ H h => by
  obtain ⟨B, F, ad, δ, r, δ', S, e, k⟩ := h
  cases e
  exact k B ad σ H (Same.refl _) (Pre.refl _) S
theorem pds_cons (h1 : PDS X st g) (h2 : PDSs X rest h) : PDSs X (st :: rest) (sSeq g h) := PSs.weak (pss_cons h1 h2) fun D σ H h => by
  obtain ⟨B, F, ad, δ, r, δ', S, e, k⟩ := h
  unfold sSeq at e
  obtain ⟨⟨fl, δ1⟩, e1, e⟩ := Option.bind_eq_some_iff.mp e
  refine ⟨B, F, ad, δ, fl, δ1, S, e1, fun B1 ad1 σ1 H1 q1 p1 S1 => ?_⟩
  cases fl with
  | nx => exact ⟨B1, F, ad1, δ1, r, δ', S1, e, fun B2 ad2 σ2 H2 q2 p2 S2 => k B2 ad2 σ2 H2 (q1.trans q2) (p1.trans p2) S2⟩
  | bk =>
    cases e
    exact k B1 ad1 σ1 H1 q1 p1 S1
  | ct =>
    cases e
    exact k B1 ad1 σ1 H1 q1 p1 S1
  | rt v =>
    cases e
    exact k B1 ad1 σ1 H1 q1 p1 S1
theorem pds_one (h1 : PDS X st g) : PDSs X [st] g := pss_one h1
theorem tSet_w {K : PySem.W.Frag} {mg : Str → Option Value} {i : Nat} {D : Ends} {σ : L2.St} {H : Hp} (h : sD K mg (sSet i f) D σ H) : tAsg (tD K mg f) (gName i) D σ H := by
  obtain ⟨B, F, ad, δ, r, δ', S, e, k⟩ := h
  unfold sSet at e
  obtain ⟨⟨x, δ1⟩, e1, e⟩ := Option.map_eq_some_iff.mp e
  cases e
  exact ⟨B, F, ad, δ, x, δ1, S, e1, fun B1 ad1 v H1 q1 p1 S1 r1 => k B1 ad1 _ H1 q1 p1 (S1.setS r1)⟩
theorem pds_set (i : Nat) {x : Str} {pos' : Pos} (he : PD X e f) (hN : X.N.Nodup) (hi : X.N[i]? = some x := by rfl) (hx : Loc X.env.scope x := by first | exact Or.inl rfl | exact Or.inr rfl) (hs : swapsWith e (some (.Name x pos')) pos.line X.env = pure false := by rfl)
    (hf : X.fn x = true ∨ X.env.scope.names.lookup x = some .local := by first | exact .inl rfl | exact .inr rfl) : PDS X (.Assign [.Name x pos'] e pos) (sSet i f) :=
  PS.weak (ps_set hN hi hx he hs hf) fun D σ H h => tSet_w h
theorem pds_drop (he : PD X e f) (hs : swapsWith e none pos.line X.env = pure false := by rfl) : PDS X (.Expr e pos) (sDrop f) := PS.weak (ps_expr he hs) fun D σ H h => by
  obtain ⟨B, F, ad, δ, r, δ', S, e, k⟩ := h
  unfold sDrop at e
  obtain ⟨⟨x, δ1⟩, e1, e⟩ := Option.map_eq_some_iff.mp e
  cases e
  exact ⟨B, F, ad, δ, x, δ1, S, e1, fun B1 ad1 v H1 q1 p1 S1 r1 => k B1 ad1 _ H1 q1 p1 S1⟩
theorem pds_doc {x j pos'} : PDS X (.Expr (.Constant (.str x) j pos) pos') sNext := PS.weak ps_doc fun D σ H h => by
  obtain ⟨B, F, ad, δ, r, δ', S, e, k⟩ := h
  cases e
  exact k B ad σ H (Same.refl _) (Pre.refl _) S
theorem pds_ret (he : PD X e f) : PDS X (.Return (some e) pos) (sRet f) := PS.weak (ps_ret he) fun D σ H h => by
  obtain ⟨B, F, ad, δ, r, δ', S, e, k⟩ := h
  unfold sRet at e
  obtain ⟨⟨x, δ1⟩, e1, e⟩ := Option.map_eq_some_iff.mp e
  cases e
  exact ⟨B, F, ad, δ, x, δ1, S, e1, fun B1 ad1 v H1 q1 p1 S1 r1 => k B1 ad1 _ H1 q1 p1 S1 v r1⟩
theorem pds_retN : PDS X (.Return none pos) sRetN := PS.weak ps_retN fun D σ H h => by
  obtain ⟨B, F, ad, δ, r, δ', S, e, k⟩ := h
  cases e
  exact k B ad σ H (Same.refl _) (Pre.refl _) S .non rfl
theorem pds_if (ht : PDT X c ft) (h1 : PDSs X s1 g) (h2 : PDSs X s2 h) : PDS X (.If c s1 s2 pos) (sIf ft g h) := PS.weak (ps_if ht h1 h2) fun D σ H h => by
  obtain ⟨B, F, ad, δ, r, δ', S, e, k⟩ := h
  unfold sIf at e
  obtain ⟨⟨x, δ1⟩, e1, e⟩ := Option.bind_eq_some_iff.mp e
  refine ⟨B, F, ad, δ, x, δ1, S, e1, fun B1 ad1 H1 q1 p1 S1 => ?_⟩
  cases x with
  | true =>
    rw [if_pos rfl]
    exact ⟨B1, F, ad1, δ1, r, δ', S1, e, fun B2 ad2 σ2 H2 q2 p2 S2 => k B2 ad2 σ2 H2 (q1.trans q2) (p1.trans p2) S2⟩
  | false =>
    rw [if_neg Bool.false_ne_true]
    exact ⟨B1, F, ad1, δ1, r, δ', S1, e, fun B2 ad2 σ2 H2 q2 p2 S2 => k B2 ad2 σ2 H2 (q1.trans q2) (p1.trans p2) S2⟩
theorem pds_pass : PDS X (.Pass pos) sNext := PS.weak ps_pass fun D σ H h => by
  obtain ⟨B, F, ad, δ, r, δ', S, e, k⟩ := h
  cases e
  exact k B ad σ H (Same.refl _) (Pre.refl _) S
theorem pds_brk : PDS X (.Break pos) sBrk := PS.weak ps_break fun D σ H h => by
  obtain ⟨B, F, ad, δ, r, δ', S, e, k⟩ := h
  cases e
  exact k B ad σ H (Same.refl _) (Pre.refl _) S
theorem pds_cnt : PDS X (.Continue pos) sCnt := PS.weak ps_continue fun D σ H h => by
  obtain ⟨B, F, ad, δ, r, δ', S, e, k⟩ := h
  cases e
  exact k B ad σ H (Same.refl _) (Pre.refl _) S
theorem pds_never : PDS X st sNever := PS.weak ps_never fun D σ H h => by
  obtain ⟨B, F, ad, δ, r, δ', S, e, k⟩ := h
  cases e
theorem pdss_never : PDSs X rest sNever := PSs.weak pss_never fun D σ H h => by
  obtain ⟨B, F, ad, δ, r, δ', S, e, k⟩ := h
  cases e
end

/-! ### targets -/
inductive Tg where
  | nm (i : Nat) | tp (is : List Nat)
def setAll (δ : Dl) : List Nat → List D → Option Dl
  | [], [] => some δ
  | i :: is, d :: ds => setAll { δ with sl := δ.sl.set i (some (.fz d)) } is ds
  | _, _ => none
def asgT (δ : Dl) : Tg → D → Option Dl
  | .nm i, d => some { δ with sl := δ.sl.set i (some (.fz d)) }
  | .tp is, .tup ds => setAll δ is ds
  | .tp _, _ => none
def gNames : List Nat → TGs
  | [] => gNil
  | i :: is => gCons (gName i) (gNames is)
def gTg (K : PySem.W.Frag) : Tg → TG
  | .nm i => gName i
  | .tp is => gTup K is.length (gNames is)
def setV (σ : L2.St) : List Nat → List V → L2.St
  | i :: is, v :: vs => setV (σ.set i (some v)) is vs
  | _, _ => σ
section
variable {K : PySem.W.Frag} {mg : Str → Option Value} {B B' F : Hp} {ad ad' : List Addr} {σ : L2.St} {δ δ' : Dl} {H H' : Hp} {p : Addr}
theorem names_w : ∀ {is : List Nat} {ds : List D} {vs : List V} {σ : L2.St} {δ δ' : Dl} {Q : L2.St → Hp → Prop}, SRep K mg B F ad σ δ H → Rps K mg B ds vs → setAll δ is ds = some δ' → (SRep K mg B F ad (setV σ is vs) δ' H → Q (setV σ is vs) H) → gNames is vs σ H Q
  | [], ds, vs, σ, δ, δ', Q, S, r, e, k => by
    cases ds with
    | nil =>
      have h' : vs = [] := r
      subst h'
      simp only [setAll] at e
      cases e
      exact ⟨rfl, k S⟩
    | cons d ds => simp only [setAll] at e; cases e
  | i :: is, ds, vs, σ, δ, δ', Q, S, r, e, k => by
    cases ds with
    | nil => simp only [setAll] at e; cases e
    | cons d ds =>
      obtain ⟨v, w, rfl, h2, h3⟩ := r
      simp only [setAll] at e
      exact ⟨v, w, rfl, names_w (S.setS (d := .fz d) h2) h3 e k⟩
theorem tup_len {is : List Nat} : ∀ {δ δ' : Dl} {ds : List D}, setAll δ is ds = some δ' → ds.length = is.length := by
  induction is with
  | nil =>
    intro δ δ' ds e
    cases ds with
    | nil => rfl
    | cons d ds => simp only [setAll] at e; cases e
  | cons i is ih =>
    intro δ δ' ds e
    cases ds with
    | nil => simp only [setAll] at e; cases e
    | cons d ds =>
      simp only [setAll] at e
      rw [List.length_cons, List.length_cons, ih e]
/-- where a target stores -/
def tgs : Tg → List Nat
  | .nm i => [i]
  | .tp is => is
theorem tg_w {tg : Tg} {d : D} {v : V} {Q : L2.St → Hp → Prop} (S : SRep K mg B F ad σ δ H) (r : Rp K mg B d v) (e : asgT δ tg d = some δ') (k : ∀ vs, SRep K mg B F ad (setV σ (tgs tg) vs) δ' H → Q (setV σ (tgs tg) vs) H) : gTg K tg v σ H Q := by
  cases tg with
  | nm i =>
    simp only [asgT] at e
    cases e
    exact k [v] (S.setS (d := .fz d) r)
  | tp is =>
    cases d with
    | tup ds =>
      simp only [asgT] at e
      obtain ⟨a, xs, rfl, h2, h3⟩ := r
      exact ⟨a, xs, rfl, SqT.of (S.exB _ _ h2), by rw [Rps.length h3, tup_len e], names_w S h3 e (k xs)⟩
    | _ => simp only [asgT] at e; cases e
theorem setV_nil (σ : L2.St) : ∀ is : List Nat, setV σ is [] = σ
  | [] => rfl
  | _ :: _ => rfl
theorem wipe_set {σ : L2.St} {vs : List Nat} {i : Nat} {x : V} (h : i ∈ vs) : wipe (σ.set i (some x)) vs = wipe σ vs := by
  induction vs with
  | nil => cases h
  | cons v vs ih =>
    unfold wipe
    by_cases hv : i ∈ vs
    · rw [ih hv]
    · have hi : i = v := by
        rcases List.mem_cons.mp h with z | z
        · exact z
        · exact absurd z hv
      subst hi
      clear ih h
      have key : ∀ (vs : List Nat) (σ : L2.St), i ∉ vs → wipe (σ.set i (some x)) vs = (wipe σ vs).set i (some x) := by
        intro vs
        induction vs with
        | nil => intro σ _; rfl
        | cons w vs ih =>
          intro σ hw
          unfold wipe
          rw [ih σ fun z => hw (List.mem_cons_of_mem _ z), List.set_comm _ _ (fun z => hw (by rw [z]; exact List.mem_cons_self))]
      rw [key vs σ hv, List.set_set]
theorem wipe_setV {vs : List Nat} : ∀ {is : List Nat} {xs : List V} {σ : L2.St}, (∀ i ∈ is, i ∈ vs) → wipe (setV σ is xs) vs = wipe σ vs
  | [], _, _, _ => rfl
  | i :: is, [], _, _ => rfl
  | i :: is, x :: xs, σ, h => by
    show wipe (setV (σ.set i (some x)) is xs) vs = _
    rw [wipe_setV (σ := σ.set i (some x)) fun j hj => h j (List.mem_cons_of_mem _ hj), wipe_set (h i List.mem_cons_self)]
theorem wipe_wipe {σ : L2.St} (vs : List Nat) : wipe (wipe σ vs) vs = wipe σ vs := by
  have key : ∀ (ws : List Nat) (τ : L2.St), (∀ i ∈ ws, ∀ x, τ[i]? = some x → x = none) → wipe τ ws = τ := by
    intro ws
    induction ws with
    | nil => intro τ _; rfl
    | cons w ws ih =>
      intro τ h
      unfold wipe
      rw [ih τ fun i hi => h i (List.mem_cons_of_mem _ hi)]
      cases e : τ[w]? with
      | none => exact List.set_eq_of_length_le (List.getElem?_eq_none_iff.mp e)
      | some x =>
        have hx := h w List.mem_cons_self x e
        subst hx
        obtain ⟨hl, hw⟩ := List.getElem?_eq_some_iff.mp e
        rw [← hw, List.set_getElem_self]
  apply key
  intro i hi x hx
  have : ∀ (ws : List Nat), i ∈ ws → ∀ x, (wipe σ ws)[i]? = some x → x = none := by
    intro ws
    induction ws with
    | nil => intro h; cases h
    | cons w ws ih =>
      intro h x hx
      unfold wipe at hx
      by_cases hw : w = i
      · subst hw
        obtain ⟨hl, _⟩ := List.getElem?_eq_some_iff.mp hx
        rw [List.getElem?_set_self (by simpa using hl)] at hx
        exact (Option.some.inj hx).symm
      · rw [List.getElem?_set_ne hw] at hx
        rcases List.mem_cons.mp h with z | z
        · exact absurd z.symm hw
        · exact ih z x hx
  exact this vs hi x hx
def wipeD (sl : List (Option Vl)) : List Nat → List (Option Vl)
  | [] => sl
  | v :: vs => (wipeD sl vs).set v none
theorem SRep.wiped (S : SRep K mg B F ad σ δ H) : ∀ vs : List Nat, SRep K mg B F ad (wipe σ vs) { δ with sl := wipeD δ.sl vs } H
  | [] => S
  | v :: vs => (S.wiped vs).dropS (i := v) (x := none)
/-- the slots of before over the objects of now -/
theorem SRep.reslot {B0 F0 : Hp} {ad0 : List Addr} {δ0 : Dl} {H0 : Hp} {σ' : L2.St} (S0 : SRep K mg B0 F0 ad0 σ δ0 H0) (s : Same B0 B) (p : Pre ad0 ad) (S : SRep K mg B F ad σ' δ H) : SRep K mg B F ad σ { δ with sl := δ0.sl } H :=
  ⟨S.exB, S.exF, S.dis, S.nd, S.len, S0.slen, S.cell, S.dead, fun i d e => by
    obtain ⟨v, h1, h2⟩ := S0.slot i d e
    exact ⟨v, h1, h2.mono s p⟩⟩
end

/-! ### what a loop walks -/
def CkOk (ck : List (Nat × List D)) (δ : Dl) : Prop := ∀ p ∈ ck, δ.st[p.1]? = some (some p.2)
abbrev IF := Dl → Option (List D × List (Nat × List D) × Dl)
def iD (K : PySem.W.Frag) (mg : Str → Option Value) (f : IF) : TI := fun σ H R => ∃ B F ad δ it ck δ', SRep K mg B F ad σ δ H ∧ f δ = some (it, ck, δ') ∧ CkOk ck δ' ∧
  ∀ B' ad' H' J G Y, Same B B' → Pre ad ad' → SRep K mg B' F ad' σ δ' H' → Walk J it.length G Y →
    (∀ B2 F2 ad2 σ2 δ2 H2, Same B' B2 → Pre ad' ad2 → SRep K mg B2 F2 ad2 σ2 δ2 H2 → CkOk ck δ2 → G H2) →
    (∀ i x B1 F1 ad1 σ1 δ1 H1 H2, Same B' B1 → Pre ad' ad1 → SRep K mg B1 F1 ad1 σ1 δ1 H1 → CkOk ck δ1 → i < it.length → Y i H1 x H2 → ∃ B2, Same B1 B2 ∧ SRep K mg B2 F1 ad1 σ1 δ1 H2 ∧ ∃ d, it[i]? = some d ∧ Rp K mg B2 d x) → R J H'
abbrev PDI (X : Cx) (tg iter : Expr) (f : IF) := PI X tg iter (iD X.K X.mg f)
theorem PI.weak {X : Cx} {tg iter : Expr} {t t' : TI} (h : PI X tg iter t) (w : ∀ σ H R, t' σ H R → t σ H R) : PI X tg iter t' := ⟨fun pins s σ H R I q => h.run pins s σ H R I (w σ H R q)⟩

open Classical in
noncomputable def forD (ck : List (Nat × List D)) (tg : Tg) (body : SF) : List D → Dl → Option (Fl × Dl)
  | [], δ => if CkOk ck δ then some (.nx, δ) else none
  | d :: ds, δ => if CkOk ck δ then (asgT δ tg d).bind fun δ1 => (body δ1).bind fun p => match p.1 with
      | .nx => forD ck tg body ds p.2
      | .ct => forD ck tg body ds p.2
      | .bk => some (.nx, p.2)
      | .rt r => some (.rt r, p.2)
    else none
noncomputable def sFor (fi : IF) (tg : Tg) (body : SF) : SF := fun δ => (fi δ).bind fun p => forD p.2.1 tg body p.1 p.2.2
section
variable {X : Cx} {tgE iter : Expr} {body : List Stmt} {fi : IF} {g : SF} {pos : Pos}
theorem forD_ck {ck : List (Nat × List D)} {tg : Tg} {body : SF} {ds : List D} {δ : Dl} {r : Fl × Dl} (h : forD ck tg body ds δ = some r) : CkOk ck δ := by
  cases ds with
  | nil =>
    rw [forD] at h
    split at h
    · assumption
    · cases h
  | cons d ds =>
    rw [forD] at h
    split at h
    · assumption
    · cases h
theorem pds_for (tg : Tg) (hi : PDI X tgE iter fi) (hg : PG X tgE (gTg X.K tg)) (hb : PDSs X body g) (hp : PassesOwn (model X.prog X.w) X.A X.env X.xe) (hc : X.calm = true)
    (hs : ∀ x, foldedSetIterable iter X.env x = pure x := by intro _; rfl) : PDS X (.For tgE iter body [] pos) (sFor fi tg g) := PS.weak (ps_for hp hc hi hg hb hs) fun D σ H h => by
  obtain ⟨B, F, ad, δ, r, δ', S, e, k⟩ := h
  unfold sFor at e
  obtain ⟨⟨it, ck, δ1⟩, e1, e⟩ := Option.bind_eq_some_iff.mp e
  refine ⟨B, F, ad, δ, it, ck, δ1, S, e1, forD_ck e, fun B1 ad1 H1 J G Y s1 p1 S1 W hG hY => ?_⟩
  refine for_it W (fun i σ' H' => ∃ B2 ad2 δ2, Same B1 B2 ∧ Pre ad1 ad2 ∧ SRep X.K X.mg B2 F ad2 σ' δ2 H' ∧ forD ck tg g (it.drop i) δ2 = some (r, δ')) ⟨B1, ad1, δ1, Same.refl _, Pre.refl _, S1, e⟩ ?_ ?_ ?_
  · rintro i σ' H' hi ⟨B2, ad2, δ2, s2, p2, S2, e2⟩
    exact hG B2 F ad2 σ' δ2 H' s2 p2 S2 (forD_ck e2)
  · rintro i x σ' H2 H3 hi ⟨B2, ad2, δ2, s2, p2, S2, e2⟩ hy
    obtain ⟨B3, s3, S3, d, hd, rd⟩ := hY i x B2 F ad2 σ' δ2 H2 H3 s2 p2 S2 (forD_ck e2) hi hy
    have hdr : it.drop i = d :: it.drop (i + 1) := by
      obtain ⟨hl, he⟩ := List.getElem?_eq_some_iff.mp hd
      rw [List.drop_eq_getElem_cons hl, he]
    have hck := forD_ck e2
    rw [hdr, forD, if_pos hck] at e2
    obtain ⟨δ3, e3, e2⟩ := Option.bind_eq_some_iff.mp e2
    obtain ⟨⟨fl, δ4⟩, e4, e2⟩ := Option.bind_eq_some_iff.mp e2
    refine tg_w S3 rd e3 fun vs S4 => ?_
    refine ⟨B3, F, ad2, δ3, fl, δ4, S4, e4, fun B5 ad5 σ5 H5 s5 p5 S5 => ?_⟩
    cases fl with
    | nx => exact ⟨B5, ad5, δ4, (s2.trans s3).trans s5, p2.trans p5, S5, e2⟩
    | ct => exact ⟨B5, ad5, δ4, (s2.trans s3).trans s5, p2.trans p5, S5, e2⟩
    | bk =>
      cases e2
      exact k B5 ad5 σ5 H5 (((s1.trans s2).trans s3).trans s5) ((p1.trans p2).trans p5) S5
    | rt v =>
      cases e2
      exact k B5 ad5 σ5 H5 (((s1.trans s2).trans s3).trans s5) ((p1.trans p2).trans p5) S5
  · rintro σ' H' ⟨B2, ad2, δ2, s2, p2, S2, e2⟩
    have hck := forD_ck e2
    rw [List.drop_length, forD, if_pos hck] at e2
    cases e2
    exact k B2 ad2 σ' H' (s1.trans s2) (p1.trans p2) S2

/-! the things that are walked -/
def srcOf (δ : Dl) : Vl → Option (List D × List (Nat × List D))
  | .fz (.lst ds) => some (ds, [])
  | .rf k => match δ.st[k]? with
    | some (some ds) => some (ds, [(k, ds)])
    | _ => none
  | _ => none
def iLst (f : EF) : IF := fun δ => (f δ).bind fun p => (srcOf p.2 p.1).map fun q => (q.1, q.2, p.2)
def iTupD (f : EF) : IF := fun δ => (f δ).bind fun p => match p.1 with
  | .fz (.tup ds) => some (ds, [], p.2)
  | _ => none
theorem src_ck {δ : Dl} {r : Vl} {it : List D} {ck : List (Nat × List D)} (h : srcOf δ r = some (it, ck)) : CkOk ck δ := by
  cases r with
  | fz d =>
    cases d <;> simp only [srcOf] at h <;> cases h
    intro p hp
    cases hp
  | rf k =>
    simp only [srcOf] at h
    split at h
    · rename_i ds hk
      cases h
      intro p hp
      have : p = (k, it) := by simpa using hp
      subst this
      exact hk
    · cases h
/-- a list that is walked stays as long as the check holds -/
theorem src_at {K : PySem.W.Frag} {mg : Str → Option Value} {B F : Hp} {ad : List Addr} {σ : L2.St} {δ : Dl} {H : Hp} {r : Vl} {v : V} {it : List D} {ck : List (Nat × List D)} (S : SRep K mg B F ad σ δ H) (hv : RpV K mg B ad r v) (h : srcOf δ r = some (it, ck)) :
    ∃ a xs, v = .ref a ∧ H a = some (.lst xs) ∧ Rps K mg B it xs ∧ xs.length = it.length ∧
      ∀ B2 F2 ad2 σ2 δ2 H2, Same B B2 → Pre ad ad2 → SRep K mg B2 F2 ad2 σ2 δ2 H2 → CkOk ck δ2 → ∃ ys, H2 a = some (.lst ys) ∧ Rps K mg B2 it ys := by
  cases r with
  | fz d =>
    cases d <;> simp only [srcOf] at h <;> cases h
    obtain ⟨a, xs, h1, h2, h3⟩ := hv
    exact ⟨a, xs, h1, S.exB _ _ h2, h3, Rps.length h3, fun B2 F2 ad2 σ2 δ2 H2 s2 p2 S2 _ => ⟨xs, S2.exB _ _ (s2 _ _ h2), Rps.mono s2 _ _ h3⟩⟩
  | rf k =>
    simp only [srcOf] at h
    split at h
    · rename_i ds hk
      cases h
      obtain ⟨a, h1, h2⟩ := hv
      obtain ⟨q, xs, g1, g2, g3, _, _⟩ := S.cell k _ hk
      rw [h2] at g1
      cases g1
      refine ⟨a, xs, h1, g2, g3, Rps.length g3, fun B2 F2 ad2 σ2 δ2 H2 s2 p2 S2 c => ?_⟩
      obtain ⟨q, ys, k1, k2, k3, _, _⟩ := S2.cell k _ (c (k, it) (by simp))
      rw [p2.get h2] at k1
      cases k1
      exact ⟨ys, k2, k3⟩
    · cases h
theorem at_rps {K : PySem.W.Frag} {mg : Str → Option Value} {B : Hp} {ds : List D} {xs : List V} {i : Nat} {x : V} (h : Rps K mg B ds xs) (e : xs[i]? = some x) : ∃ d, ds[i]? = some d ∧ Rp K mg B d x := Rps.back h e
/-- a walk whose list may have other values of the same data -/
theorem Walk.any {J : It} {n : Nat} {A : Hp → List V → Prop} {P : List V → Nat → Hp → V → Hp → Prop} (h : ∀ xs, xs.length = n → Walk J n (fun H => A H xs) (P xs)) : Walk J n (fun H => ∃ xs, xs.length = n ∧ A H xs) (fun i H x H' => ∃ xs, xs.length = n ∧ A H xs ∧ P xs i H x H') :=
  ⟨fun i H hi ⟨xs, hl, q⟩ => (h xs hl).goes i H hi q, fun H ⟨xs, hl, q⟩ => (h xs hl).stops H q, fun i H x H' hi ⟨xs, hl, q⟩ y => ⟨xs, hl, q, (h xs hl).yields i H x H' hi q y⟩⟩
theorem pdi_lst {f : EF} (h : PD X iter f) : PDI X tgE iter (iLst f) := PI.weak (pi_list h) fun σ H R h => by
  obtain ⟨B, F, ad, δ, it, ck, δ', S, e, hck, k⟩ := h
  unfold iLst at e
  obtain ⟨⟨r, δ1⟩, e1, e⟩ := Option.bind_eq_some_iff.mp e
  obtain ⟨⟨it', ck'⟩, e2, e⟩ := Option.map_eq_some_iff.mp e
  cases e
  refine ⟨B, F, ad, δ, r, _, S, e1, fun B1 ad1 v H1 s1 p1 S1 r1 => ?_⟩
  obtain ⟨a, xs, h1, h2, h3, hl, h4⟩ := src_at S1 r1 e2
  refine ⟨a, h1, ⟨xs, SqL.of h2⟩, ?_⟩
  refine k B1 ad1 H1 (Itl X.K a) (fun H => ∃ ys, ys.length = it'.length ∧ H a = some (.lst ys)) (fun i H x H' => ∃ ys, ys.length = it'.length ∧ H a = some (.lst ys) ∧ YAt ys i H x H') s1 p1 S1 (Walk.any fun ys hy => ?_) ?_ ?_
  · rw [← hy]
    exact (walk_list (K := X.K)).mono (fun H q => SqL.of q) fun _ _ _ _ _ _ y => y
  · intro B2 F2 ad2 σ2 δ2 H2 s2 p2 S2 c
    obtain ⟨ys, q1, q2⟩ := h4 B2 F2 ad2 σ2 δ2 H2 s2 p2 S2 c
    exact ⟨ys, Rps.length q2, q1⟩
  · rintro i x B2 F2 ad2 σ2 δ2 H2 H3 s2 p2 S2 c hi ⟨ys, hy1, hy2, rfl, hx⟩
    obtain ⟨zs, q1, q2⟩ := h4 B2 F2 ad2 σ2 δ2 H3 s2 p2 S2 c
    rw [q1] at hy2
    cases hy2
    obtain ⟨d, d1, d2⟩ := Rps.back q2 hx
    exact ⟨B2, Same.refl _, S2, d, d1, d2⟩
theorem pdi_tup {f : EF} (h : PD X iter f) : PDI X tgE iter (iTupD f) := PI.weak (pi_tup h) fun σ H R h => by
  obtain ⟨B, F, ad, δ, it, ck, δ', S, e, hck, k⟩ := h
  unfold iTupD at e
  obtain ⟨⟨r, δ1⟩, e1, e⟩ := Option.bind_eq_some_iff.mp e
  refine ⟨B, F, ad, δ, r, δ1, S, e1, fun B1 ad1 v H1 s1 p1 S1 r1 => ?_⟩
  cases r with
  | rf k => cases e
  | fz d =>
    cases d with
    | tup ds =>
      cases e
      obtain ⟨a, xs, h1, h2, h3⟩ := r1
      have hl := Rps.length h3
      refine ⟨a, h1, ⟨xs, SqT.of (S1.exB _ _ h2)⟩, ?_⟩
      refine k B1 ad1 H1 (Itt X.K a) (fun H => SqT X.K H a xs) (YAt xs) s1 p1 S1 (by rw [← hl]; exact walk_tup) ?_ ?_
      · intro B2 F2 ad2 σ2 δ2 H2 s2 p2 S2 c
        exact SqT.of (S2.exB _ _ (s2 _ _ h2))
      · rintro i x B2 F2 ad2 σ2 δ2 H2 H3 s2 p2 S2 c hi ⟨rfl, hx⟩
        obtain ⟨d, d1, d2⟩ := Rps.back h3 hx
        exact ⟨B2, Same.refl _, S2, d, d1, Rp.mono s2 d x d2⟩
    | _ => cases e
def rangeD (lo : Int) (n : Nat) : List D := (List.range n).map fun (i : Nat) => D.int (lo + (i : Int))
def okR (i : Int) : Prop := -(2 ^ 62) ≤ i ∧ i < 2 ^ 62
instance (i : Int) : Decidable (okR i) := by unfold okR; infer_instance
def iRg1 (f : EF) : IF := fun δ => (f δ).bind fun p => match p.1 with
  | .fz (.int n) => if okR n then some (rangeD 0 n.toNat, [], p.2) else none
  | _ => none
def iRg2 (f g : EF) : IF := fun δ => (f δ).bind fun p => (g p.2).bind fun q => match p.1, q.1 with
  | .fz (.int i), .fz (.int j) => if okR i ∧ okR j then some (rangeD i (j - i).toNat, [], q.2) else none
  | _, _ => none
theorem rangeD_len (lo : Int) (n : Nat) : (rangeD lo n).length = n := by simp [rangeD]
theorem rangeD_get {lo : Int} {n i : Nat} (h : i < n) : (rangeD lo n)[i]? = some (.int (lo + (i : Int))) := by
  unfold rangeD
  rw [List.getElem?_map, List.getElem?_range h]
  rfl
theorem range_k {K : PySem.W.Frag} {mg : Str → Option Value} {B F : Hp} {ad : List Addr} {σ : L2.St} {δ : Dl} {H : Hp} {lo : Int} {n : Nat} {R : It → Hp → Prop} (S : SRep K mg B F ad σ δ H)
    (k : ∀ B' ad' H' J G Y, Same B B' → Pre ad ad' → SRep K mg B' F ad' σ δ H' → Walk J (rangeD lo n).length G Y →
    (∀ B2 F2 ad2 σ2 δ2 H2, Same B' B2 → Pre ad' ad2 → SRep K mg B2 F2 ad2 σ2 δ2 H2 → CkOk [] δ2 → G H2) →
    (∀ i x B1 F1 ad1 σ1 δ1 H1 H2, Same B' B1 → Pre ad' ad1 → SRep K mg B1 F1 ad1 σ1 δ1 H1 → CkOk [] δ1 → i < (rangeD lo n).length → Y i H1 x H2 → ∃ B2, Same B1 B2 ∧ SRep K mg B2 F1 ad1 σ1 δ1 H2 ∧ ∃ d, (rangeD lo n)[i]? = some d ∧ Rp K mg B2 d x) → R J H') : R (Itr lo n) H := by
  refine k B ad H (Itr lo n) (fun _ => True) (YFn fun i => .int (lo + i)) (Same.refl _) (Pre.refl _) S (by rw [rangeD_len]; exact walk_range) (fun _ _ _ _ _ _ _ _ _ _ => trivial) ?_
  rintro i x B2 F2 ad2 σ2 δ2 H2 H3 s2 p2 S2 c hi ⟨rfl, rfl⟩
  rw [rangeD_len] at hi
  exact ⟨B2, Same.refl _, S2, _, rangeD_get hi, rfl⟩
theorem pdi_rg1 {a : Expr} {f : EF} {p : Pos} (hg : Gl X "range") (hm : X.mg "range" = none) (ha : PD X a f) (hs : starEach [a] X.env = [(false, eval a X.env)] := by rfl) : PDI X tgE (.Call (.Name "range" p) [a] [] pos) (iRg1 f) :=
  PI.weak (pi_range1 hg hm (pa_cons ha pa_nil hs) hs) fun σ H R h => by
  obtain ⟨B, F, ad, δ, it, ck, δ', S, e, hck, k⟩ := h
  unfold iRg1 at e
  obtain ⟨⟨r, δ1⟩, e1, e⟩ := Option.bind_eq_some_iff.mp e
  refine ⟨B, F, ad, δ, r, δ1, S, e1, fun B1 ad1 v H1 s1 p1 S1 r1 => ?_⟩
  cases r with
  | rf k => cases e
  | fz d =>
    cases d with
    | int n =>
      simp only at e
      split at e
      · rename_i ok
        cases e
        have r1' : v = .int n := r1
        subst r1'
        exact ⟨n, rfl, ok.1, ok.2, range_k S1 fun B' ad' H' J G Y s2 p2 => k B' ad' H' J G Y (s1.trans s2) (p1.trans p2)⟩
      · cases e
    | _ => cases e
theorem pdi_rg2 {a b : Expr} {f g : EF} {p : Pos} (hg : Gl X "range") (hm : X.mg "range" = none) (ha : PD X a f) (hb : PD X b g) (hs : starEach [a, b] X.env = [(false, eval a X.env), (false, eval b X.env)] := by rfl) (hs2 : starEach [b] X.env = [(false, eval b X.env)] := by rfl)
    (hs3 : starEach [a, b] X.env = (false, eval a X.env) :: starEach [b] X.env := by rfl) : PDI X tgE (.Call (.Name "range" p) [a, b] [] pos) (iRg2 f g) :=
  PI.weak (pi_range2 hg hm (pa_cons ha (pa_cons hb pa_nil hs2) hs3) hs hs2) fun σ H R h => by
  obtain ⟨B, F, ad, δ, it, ck, δ', S, e, hck, k⟩ := h
  unfold iRg2 at e
  obtain ⟨⟨r, δ1⟩, e1, e⟩ := Option.bind_eq_some_iff.mp e
  obtain ⟨⟨q, δ2⟩, e2, e⟩ := Option.bind_eq_some_iff.mp e
  refine ⟨B, F, ad, δ, r, δ1, S, e1, fun B1 ad1 v H1 s1 p1 S1 r1 => ?_⟩
  refine ⟨B1, F, ad1, δ1, q, δ2, S1, e2, fun B2 ad2 w H2 s2 p2 S2 r2 => ?_⟩
  simp only at e
  split at e
  · rename_i i j _e
    split at e
    · rename_i ok
      cases e
      have r1' : v = .int i := r1
      have r2' : w = .int j := r2
      subst r1' r2'
      exact ⟨i, j, rfl, ⟨ok.1.1, ok.1.2, ok.2.1, ok.2.2⟩, range_k S2 fun B' ad' H' J G Y s3 p3 => k B' ad' H' J G Y ((s1.trans s2).trans s3) ((p1.trans p2).trans p3)⟩
    · cases e
  · cases e
end
end PK

namespace PK
open PySem L2

/-! ### zip, enumerate, reversed -/
def zipD : List D → List D → List D
  | x :: xs, y :: ys => .tup [x, y] :: zipD xs ys
  | _, _ => []
theorem zipD_len : ∀ (xs ys : List D), (zipD xs ys).length = min xs.length ys.length
  | [], ys => by simp [zipD]
  | _ :: _, [] => by simp [zipD]
  | x :: xs, y :: ys => by
    simp only [zipD, List.length_cons, zipD_len xs ys]
    omega
theorem zipD_get : ∀ {xs ys : List D} {i : Nat} {x y : D}, xs[i]? = some x → ys[i]? = some y → (zipD xs ys)[i]? = some (.tup [x, y])
  | [], ys, i, x, y, h, g => by simp at h
  | _ :: _, [], i, x, y, h, g => by simp at g
  | a :: xs, b :: ys, 0, x, y, h, g => by
    simp at h g
    subst h g
    rfl
  | a :: xs, b :: ys, i + 1, x, y, h, g => by
    have := zipD_get (xs := xs) (ys := ys) (i := i) (x := x) (y := y) (by simpa using h) (by simpa using g)
    simpa [zipD] using this
def iZipD (f g : EF) : IF := fun δ => (f δ).bind fun p => (g p.2).bind fun q => match p.1, q.1 with
  | .fz (.tup xs), .fz (.tup ys) => some (zipD xs ys, [], q.2)
  | a, b => match srcOf q.2 a, srcOf q.2 b with
    | some (xs, c), some (ys, d) => some (zipD xs ys, c ++ d, q.2)
    | _, _ => none
theorem ck_app {c d : List (Nat × List D)} {δ : Dl} (h : CkOk (c ++ d) δ) : CkOk c δ ∧ CkOk d δ := ⟨fun p hp => h p (List.mem_append_left _ hp), fun p hp => h p (List.mem_append_right _ hp)⟩
/-- a new pair of two data -/
theorem pair_new {K : PySem.W.Frag} {mg : Str → Option Value} {B F : Hp} {ad : List Addr} {σ : L2.St} {δ : Dl} {H : Hp} {T : Addr} {x y : V} {a b : D} (S : SRep K mg B F ad σ δ H) (hT : H T = none) (h1 : Rp K mg B a x) (h2 : Rp K mg B b y) :
    ∃ B2, Same B B2 ∧ SRep K mg B2 F ad σ δ (upd H T (.tup [x, y])) ∧ Rp K mg B2 (.tup [a, b]) (.ref T) := by
  have s1 : Same B (upd B T (.tup [x, y])) := same_new (S.exB.free hT)
  exact ⟨_, s1, S.alloc hT, T, [x, y], rfl, upd_same, x, [y], rfl, Rp.mono s1 _ _ h1, y, [], rfl, Rp.mono s1 _ _ h2, rfl⟩
section
variable {X : Cx} {tgE iter : Expr} {fi : IF} {pos : Pos}
theorem walk_zipT {K : PySem.W.Frag} {a b : Addr} {xs ys : List V} {n : Nat} (hn : n = min xs.length ys.length) : Walk (RZ.ItzT K a b) n (fun H => SqT K H a xs ∧ SqT K H b ys) (YPair (fun i => xs[i]?) (fun i => ys[i]?)) := by
  subst hn
  refine ⟨fun i _ hi q => ?_, fun _ q => ⟨xs, ys, q.1, q.2, by omega⟩, fun i H v H' _ q y => ?_⟩
  · have h1 : i < xs.length := by omega
    have h2 : i < ys.length := by omega
    exact ⟨xs, ys, xs[i], ys[i], q.1, q.2, by simp [h1], by simp [h2]⟩
  · obtain ⟨T, x, z, h1, h2, h3, h4, h5⟩ := y
    exact ⟨T, x, z, h1, h2, h3, h4 xs q.1, h5 ys q.2⟩
theorem pdi_zip {e e2 : Expr} {f g : EF} {p tpos : Pos} {elts : List Expr} {kk : Nat} (hg : Gl X "zip") (hm : X.mg "zip" = none) (ha : PD X e f) (hb : PD X e2 g)
    (hs : starEach [e, e2] X.env = (false, eval e X.env) :: starEach [e2] X.env := by rfl) (hs2 : starEach [e2] X.env = (false, eval e2 X.env) :: starEach [] X.env := by rfl) (hpl : (backTo pos (starEach [e2] X.env)).any (·.1) = false := by rfl) :
    PDI X (.Tuple elts kk tpos) (.Call (.Name "zip" p) [e, e2] [] pos) (iZipD f g) := PI.weak (RZ.pi_zipA hg hm (pa_cons ha (pa_cons hb pa_nil hs2) hs) hs hpl) fun σ H R h => by
  obtain ⟨B, F, ad, δ, it, ck, δ', S, e, hck, k⟩ := h
  unfold iZipD at e
  obtain ⟨⟨r, δ1⟩, e1, e⟩ := Option.bind_eq_some_iff.mp e
  obtain ⟨⟨q, δ2⟩, e2, e⟩ := Option.bind_eq_some_iff.mp e
  refine ⟨B, F, ad, δ, r, δ1, S, e1, fun B1 ad1 v H1 s1 p1 S1 r1 => ?_⟩
  refine ⟨B1, F, ad1, δ1, q, δ2, S1, e2, fun B2 ad2 w H2 s2 p2 S2 r2 => ?_⟩
  have r1' := r1.mono s2 p2
  simp only at e
  split at e
  · rename_i xs ys
    cases e
    obtain ⟨a, as, h1, h2, h3⟩ := r1'
    obtain ⟨b, bs, g1, g2, g3⟩ := r2
    subst h1 g1
    refine ⟨a, b, as, bs, rfl, .inr ⟨SqT.of (S2.exB _ _ h2), SqT.of (S2.exB _ _ g2), ?_⟩⟩
    refine k B2 ad2 H2 (RZ.ItzT X.K a b) (fun H => SqT X.K H a as ∧ SqT X.K H b bs) _ (s1.trans s2) (p1.trans p2) S2 (walk_zipT (by rw [zipD_len, Rps.length h3, Rps.length g3])) ?_ ?_
    · intro B3 F3 ad3 σ3 δ3 H3 s3 p3 S3 c
      exact ⟨SqT.of (S3.exB _ _ (s3 _ _ h2)), SqT.of (S3.exB _ _ (s3 _ _ g2))⟩
    · rintro i x B3 F3 ad3 σ3 δ3 H3 H4 s3 p3 S3 c hi ⟨T, y, z, rfl, hT, rfl, hy, hz⟩
      obtain ⟨d, d1, d2⟩ := Rps.back h3 hy
      obtain ⟨d', d3, d4⟩ := Rps.back g3 hz
      obtain ⟨B4, s4, S4, r4⟩ := pair_new S3 hT (Rp.mono s3 _ _ d2) (Rp.mono s3 _ _ d4)
      exact ⟨B4, s4, S4, _, zipD_get d1 d3, r4⟩
  · split at e
    · rename_i xs c ys d e3 e4
      cases e
      obtain ⟨a, as, h1, h2, h3, h4, h5⟩ := src_at S2 r1' e3
      obtain ⟨b, bs, g1, g2, g3, g4, g5⟩ := src_at S2 r2 e4
      subst h1 g1
      refine ⟨a, b, as, bs, rfl, .inl ⟨SqL.of h2, SqL.of g2, ?_⟩⟩
      refine k B2 ad2 H2 (Itz X.K a b) (fun H => ∃ as bs, (as.length = xs.length ∧ bs.length = ys.length) ∧ H a = some (.lst as) ∧ H b = some (.lst bs)) (fun i H v H' => ∃ as bs, (as.length = xs.length ∧ bs.length = ys.length) ∧ (H a = some (.lst as) ∧ H b = some (.lst bs)) ∧ YPair (fun i => as[i]?) (fun i => bs[i]?) i H v H') (s1.trans s2) (p1.trans p2) S2 ?_ ?_ ?_
      · have hw : ∀ as bs : List V, as.length = xs.length ∧ bs.length = ys.length → Walk (Itz X.K a b) (zipD xs ys).length (fun H => H a = some (.lst as) ∧ H b = some (.lst bs)) (YPair (fun i => as[i]?) (fun i => bs[i]?)) := fun as bs hl =>
          (walk_zip (K := X.K) (a := a) (b := b) (xs := as) (ys := bs) (by rw [zipD_len, hl.1, hl.2])).mono (fun H q => ⟨SqL.of q.1, SqL.of q.2⟩) fun _ _ _ _ _ _ y => y
        exact ⟨fun i H hi ⟨as, bs, hl, q⟩ => (hw as bs hl).goes i H hi q, fun H ⟨as, bs, hl, q⟩ => (hw as bs hl).stops H q, fun i H x H' hi ⟨as, bs, hl, q⟩ y => ⟨as, bs, hl, q, (hw as bs hl).yields i H x H' hi q y⟩⟩
      · intro B3 F3 ad3 σ3 δ3 H3 s3 p3 S3 cc
        obtain ⟨as', q1, q2⟩ := h5 B3 F3 ad3 σ3 δ3 H3 s3 p3 S3 (ck_app cc).1
        obtain ⟨bs', q3, q4⟩ := g5 B3 F3 ad3 σ3 δ3 H3 s3 p3 S3 (ck_app cc).2
        exact ⟨as', bs', ⟨Rps.length q2, Rps.length q4⟩, q1, q3⟩
      · rintro i x B3 F3 ad3 σ3 δ3 H3 H4 s3 p3 S3 cc hi ⟨as1, bs1, hl, ⟨w1, w2⟩, T, y, z, rfl, hT, rfl, hy, hz⟩
        obtain ⟨as', q1, q2⟩ := h5 B3 F3 ad3 σ3 δ3 H3 s3 p3 S3 (ck_app cc).1
        obtain ⟨bs', q3, q4⟩ := g5 B3 F3 ad3 σ3 δ3 H3 s3 p3 S3 (ck_app cc).2
        rw [q1] at w1
        rw [q3] at w2
        cases w1; cases w2
        obtain ⟨d, d1, d2⟩ := Rps.back q2 hy
        obtain ⟨d', d3, d4⟩ := Rps.back q4 hz
        obtain ⟨B4, s4, S4, r4⟩ := pair_new S3 hT d2 d4
        exact ⟨B4, s4, S4, _, zipD_get d1 d3, r4⟩
    · cases e
def enumD : Nat → List D → List D
  | _, [] => []
  | n, x :: xs => .tup [.int (n : Int), x] :: enumD (n + 1) xs
theorem enumD_len : ∀ (n : Nat) (xs : List D), (enumD n xs).length = xs.length
  | _, [] => rfl
  | n, x :: xs => by simp [enumD, enumD_len (n + 1) xs]
theorem enumD_get : ∀ {n : Nat} {xs : List D} {i : Nat} {x : D}, xs[i]? = some x → (enumD n xs)[i]? = some (.tup [.int ((n + i : Nat) : Int), x])
  | n, [], i, x, h => by simp at h
  | n, a :: xs, 0, x, h => by
    simp at h
    subst h
    rfl
  | n, a :: xs, i + 1, x, h => by
    have := enumD_get (n := n + 1) (xs := xs) (i := i) (x := x) (by simpa using h)
    rw [show n + 1 + i = n + (i + 1) by omega] at this
    simpa [enumD] using this
def iEnumD (f : EF) : IF := fun δ => (f δ).bind fun p => (srcOf p.2 p.1).map fun q => (enumD 0 q.1, q.2, p.2)
theorem pdi_enum {e : Expr} {f : EF} {p tpos : Pos} {elts : List Expr} {kk : Nat} (hg : Gl X "enumerate") (hm : X.mg "enumerate" = none) (ha : PD X e f) (hs : starEach [e] X.env = [(false, eval e X.env)] := by rfl) :
    PDI X (.Tuple elts kk tpos) (.Call (.Name "enumerate" p) [e] [] pos) (iEnumD f) := PI.weak (pi_enum hg hm (pa_cons ha pa_nil hs) hs) fun σ H R h => by
  obtain ⟨B, F, ad, δ, it, ck, δ', S, e, hck, k⟩ := h
  unfold iEnumD at e
  obtain ⟨⟨r, δ1⟩, e1, e⟩ := Option.bind_eq_some_iff.mp e
  obtain ⟨⟨xs, ck'⟩, e2, e⟩ := Option.map_eq_some_iff.mp e
  cases e
  refine ⟨B, F, ad, δ, r, _, S, e1, fun B1 ad1 v H1 s1 p1 S1 r1 => ?_⟩
  obtain ⟨a, as, h1, h2, h3, hl, h4⟩ := src_at S1 r1 e2
  subst h1
  refine ⟨a, as, rfl, SqL.of h2, ?_⟩
  refine k B1 ad1 H1 (Ite X.K a) (fun H => ∃ ys, ys.length = (enumD 0 xs).length ∧ H a = some (.lst ys)) (fun i H x H' => ∃ ys, ys.length = (enumD 0 xs).length ∧ H a = some (.lst ys) ∧ YPair (fun i => some (.int (i : Nat))) (fun i => ys[i]?) i H x H') s1 p1 S1 (Walk.any fun ys hy => ?_) ?_ ?_
  · rw [← hy]
    exact (walk_enum (K := X.K)).mono (fun H q => SqL.of q) fun _ _ _ _ _ _ y => y
  · intro B2 F2 ad2 σ2 δ2 H2 s2 p2 S2 c
    obtain ⟨ys, q1, q2⟩ := h4 B2 F2 ad2 σ2 δ2 H2 s2 p2 S2 c
    exact ⟨ys, by rw [enumD_len]; exact Rps.length q2, q1⟩
  · rintro i x B2 F2 ad2 σ2 δ2 H2 H3 s2 p2 S2 c hi ⟨ys, hy1, hy2, T, y, z, rfl, hT, rfl, hy, hz⟩
    obtain ⟨zs, q1, q2⟩ := h4 B2 F2 ad2 σ2 δ2 H2 s2 p2 S2 c
    rw [q1] at hy2
    cases hy2
    cases hy
    obtain ⟨d, d1, d2⟩ := Rps.back q2 hz
    obtain ⟨B4, s4, S4, r4⟩ := pair_new S2 hT (a := .int (i : Nat)) (b := d) (x := .int (i : Nat)) rfl d2
    exact ⟨B4, s4, S4, _, by simpa using enumD_get (n := 0) d1, r4⟩
def iRevD (f : EF) : IF := fun δ => (f δ).bind fun p => (srcOf p.2 p.1).map fun q => (q.1.reverse, q.2, p.2)
theorem pdi_rev {e : Expr} {f : EF} {p : Pos} (hg : Gl X "reversed") (hm : X.mg "reversed" = none) (ha : PD X e f) (hs : starEach [e] X.env = [(false, eval e X.env)] := by rfl) :
    PDI X tgE (.Call (.Name "reversed" p) [e] [] pos) (iRevD f) := PI.weak (pi_reversed hg hm (pa_cons ha pa_nil hs) hs) fun σ H R h => by
  obtain ⟨B, F, ad, δ, it, ck, δ', S, e, hck, k⟩ := h
  unfold iRevD at e
  obtain ⟨⟨r, δ1⟩, e1, e⟩ := Option.bind_eq_some_iff.mp e
  obtain ⟨⟨xs, ck'⟩, e2, e⟩ := Option.map_eq_some_iff.mp e
  cases e
  refine ⟨B, F, ad, δ, r, _, S, e1, fun B1 ad1 v H1 s1 p1 S1 r1 => ?_⟩
  obtain ⟨a, as, h1, h2, h3, hl, h4⟩ := src_at S1 r1 e2
  subst h1
  refine ⟨a, as, rfl, SqL.of h2, ?_⟩
  rw [hl]
  refine k B1 ad1 H1 (Itv X.K a xs.length) (fun H => ∃ ys, ys.length = xs.reverse.length ∧ H a = some (.lst ys)) (fun i H x H' => ∃ ys, ys.length = xs.reverse.length ∧ H a = some (.lst ys) ∧ H' = H ∧ ys[ys.length - 1 - i]? = some x) s1 p1 S1 (Walk.any fun ys hy => ?_) ?_ ?_
  · rw [← hy, show xs.length = ys.length by rw [hy]; simp]
    exact (walk_rev (K := X.K)).mono (fun H q => SqL.of q) fun _ _ _ _ _ _ y => y
  · intro B2 F2 ad2 σ2 δ2 H2 s2 p2 S2 c
    obtain ⟨ys, q1, q2⟩ := h4 B2 F2 ad2 σ2 δ2 H2 s2 p2 S2 c
    exact ⟨ys, by rw [List.length_reverse]; exact Rps.length q2, q1⟩
  · rintro i x B2 F2 ad2 σ2 δ2 H2 H3 s2 p2 S2 c hi ⟨ys, hy1, hy2, rfl, hz⟩
    obtain ⟨zs, q1, q2⟩ := h4 B2 F2 ad2 σ2 δ2 H3 s2 p2 S2 c
    rw [q1] at hy2
    cases hy2
    obtain ⟨d, d1, d2⟩ := Rps.back q2 hz
    have hl2 := Rps.length q2
    refine ⟨B2, Same.refl _, S2, d, ?_, d2⟩
    have hi' : i < xs.length := by simpa using hi
    rw [List.getElem?_reverse hi', ← hl2]
    exact d1
end

/-! ### comprehensions -/
section
variable {K : PySem.W.Frag} {mg : Str → Option Value} {B B' F : Hp} {ad ad' : List Addr} {σ : L2.St} {δ δ' : Dl} {H H' : Hp} {p : Addr}
/-- a new object of nobody's: it stays as it is -/
theorem SRep.allocF {o : HO} (S : SRep K mg B F ad σ δ H) (h : H p = none) : SRep K mg B (upd F p o) ad σ δ (upd H p o) where
  exB := fun a u e => by rw [upd_ne (ne_of_none (S.exB a u e) h)]; exact S.exB a u e
  exF := fun a u e => by
    by_cases ha : a = p
    · subst ha
      rw [upd_same] at e ⊢
      exact e
    · rw [upd_ne ha] at e ⊢
      exact S.exF a u e
  dis := fun a u e => by
    by_cases ha : a = p
    · rw [ha]; exact S.exB.free h
    · rw [upd_ne ha] at e
      exact S.dis a u e
  nd := S.nd
  len := S.len
  slen := S.slen
  cell := fun k ds e => by
    obtain ⟨q, xs, h1, h2, h3, h4, h5⟩ := S.cell k ds e
    have hq : q ≠ p := ne_of_none h2 h
    exact ⟨q, xs, h1, by rw [upd_ne hq]; exact h2, h3, h4, by rw [upd_ne hq]; exact h5⟩
  dead := S.dead
  slot := S.slot
/-- .. until it is given another worth -/
theorem SRep.setF {o u : HO} (S : SRep K mg B (upd F p o) ad σ δ H) : SRep K mg B (upd F p u) ad σ δ (upd H p u) := by
  have hp : upd F p o p = some o := upd_same
  have hB : B p = none := S.dis p o hp
  have hH : H p = some o := S.exF p o hp
  refine ⟨fun a v e => ?_, fun a v e => ?_, fun a v e => ?_, S.nd, S.len, S.slen, fun k ds e => ?_, S.dead, S.slot⟩
  · have ha : a ≠ p := fun z => by rw [z, hB] at e; cases e
    rw [upd_ne ha]; exact S.exB a v e
  · by_cases ha : a = p
    · subst ha
      rw [upd_same] at e ⊢
      exact e
    · rw [upd_ne ha] at e ⊢
      exact S.exF a v (by rw [upd_ne ha]; exact e)
  · by_cases ha : a = p
    · rw [ha]; exact hB
    · rw [upd_ne ha] at e
      exact S.dis a v (by rw [upd_ne ha]; exact e)
  · obtain ⟨q, xs, h1, h2, h3, h4, h5⟩ := S.cell k ds e
    have hq : q ≠ p := fun z => by rw [z, upd_same] at h5; cases h5
    rw [upd_ne hq] at h5
    exact ⟨q, xs, h1, by rw [upd_ne hq]; exact h2, h3, h4, by rw [upd_ne hq]; exact h5⟩
/-- .. and taken over -/
theorem SRep.takeF {m : Bool} {ds : List D} {xs : List V} {Q : VK} (S : SRep K mg B (upd F p (.lst xs)) ad σ δ H) (hF : F p = none) (r : Rps K mg B ds xs)
    (k : ∀ B' ad' v H', Same B B' → Pre ad ad' → SRep K mg B' F ad' σ (PK.mk m ds δ).2 H' → RpV K mg B' ad' (PK.mk m ds δ).1 v → Q v H') : Q (.ref p) H := by
  have hp : upd F p (.lst xs) p = some (.lst xs) := upd_same
  have hB : B p = none := S.dis p _ hp
  have hH : H p = some (.lst xs) := S.exF p _ hp
  have fF : ∀ a o, F a = some o → upd F p (.lst xs) a = some o := fun a o e => by
    rw [upd_ne (ne_of_none e hF)]; exact e
  have hnc : p ∉ ad := fun z => by
    obtain ⟨k, hk⟩ := List.getElem?_of_mem z
    have hkl : k < δ.st.length := by rw [← S.len]; exact (List.getElem?_eq_some_iff.mp hk).1
    cases e : δ.st[k]? with
    | none => exact absurd (List.getElem?_eq_none_iff.mp e) (by omega)
    | some u =>
      cases u with
      | none => exact S.dead k p hk e hB
      | some ds =>
        obtain ⟨q, ys, h1, h2, h3, h4, h5⟩ := S.cell k ds e
        rw [hk] at h1
        cases h1
        rw [hp] at h5
        cases h5
  have cl : ∀ (k : Nat) (es : List D), δ.st[k]? = some (some es) → ∃ (q : Addr) (ys : List V), ad[k]? = some q ∧ H q = some (.lst ys) ∧ Rps K mg B es ys ∧ B q = none ∧ F q = none ∧ q ≠ p := fun k es e => by
    obtain ⟨q, ys, h1, h2, h3, h4, h5⟩ := S.cell k es e
    have hq : q ≠ p := fun z => by rw [z, hp] at h5; cases h5
    rw [upd_ne hq] at h5
    exact ⟨q, ys, h1, h2, h3, h4, h5, hq⟩
  cases m with
  | false =>
    have s1 : Same B (upd B p (.lst xs)) := same_new hB
    refine k _ ad (.ref p) H s1 (Pre.refl _) ⟨fun a u e => ?_, fun a u e => S.exF a u (fF a u e), fun a u e => ?_, S.nd, S.len, S.slen, fun k es e => ?_, fun k q h1 h2 => ?_, fun i d e => ?_⟩ ⟨p, xs, rfl, upd_same, Rps.mono s1 ds xs r⟩
    · by_cases ha : a = p
      · subst ha
        rw [upd_same] at e
        cases e
        exact hH
      · rw [upd_ne ha] at e
        exact S.exB a u e
    · rw [upd_ne (ne_of_none e hF)]; exact S.dis a u (fF a u e)
    · obtain ⟨q, ys, h1, h2, h3, h4, h5, hq⟩ := cl k es e
      exact ⟨q, ys, h1, h2, Rps.mono s1 es ys h3, by rw [upd_ne hq]; exact h4, h5⟩
    · have := S.dead k q h1 h2
      by_cases hq : q = p
      · rw [hq, upd_same]; simp
      · rw [upd_ne hq]; exact this
    · obtain ⟨v, h1, h2⟩ := S.slot i d e
      exact ⟨v, h1, h2.mono s1 (Pre.refl _)⟩
  | true =>
    refine k B (ad ++ [p]) (.ref p) H (Same.refl _) (Pre.app _ _) ⟨S.exB, fun a u e => S.exF a u (fF a u e), fun a u e => S.dis a u (fF a u e), ?_, ?_, S.slen, fun k es e => ?_, fun k q h1 h2 => ?_, fun i d e => ?_⟩ ⟨p, rfl, ?_⟩
    · rw [List.nodup_append]
      refine ⟨S.nd, by simp, fun a ha b hb => ?_⟩
      have hb' : b = p := by simpa using hb
      subst hb'
      exact fun z => hnc (by rw [← z]; exact ha)
    · show (ad ++ [p]).length = (δ.st ++ [some ds]).length
      simp [S.len]
    · have e' : (δ.st ++ [some ds])[k]? = some (some es) := e
      by_cases hk : k < δ.st.length
      · rw [List.getElem?_append_left hk] at e'
        obtain ⟨q, ys, h1, h2, h3, h4, h5, hq⟩ := cl k es e'
        exact ⟨q, ys, (Pre.app ad [p]).get h1, h2, h3, h4, h5⟩
      · have hk2 : k = δ.st.length := by
          obtain ⟨q, _⟩ := List.getElem?_eq_some_iff.mp e'
          simp at q
          omega
        subst hk2
        rw [List.getElem?_append_right (Nat.le_refl _)] at e'
        simp at e'
        subst e'
        refine ⟨p, xs, ?_, hH, r, hB, hF⟩
        rw [← S.len, List.getElem?_append_right (Nat.le_refl _)]
        simp
    · have h2' : (δ.st ++ [some ds])[k]? = some none := h2
      have hk : k < δ.st.length := by
        rcases Nat.lt_or_ge k δ.st.length with z | z
        · exact z
        · rw [List.getElem?_append_right z] at h2'
          cases q : k - δ.st.length with
          | zero => rw [q] at h2'; simp at h2'
          | succ n => rw [q] at h2'; simp at h2'
      rw [List.getElem?_append_left hk] at h2'
      rw [List.getElem?_append_left (by rw [S.len]; exact hk)] at h1
      exact S.dead k q h1 h2'
    · obtain ⟨v, h1, h2⟩ := S.slot i d e
      exact ⟨v, h1, h2.mono (Same.refl _) (Pre.app _ _)⟩
    · show (ad ++ [p])[δ.st.length]? = some p
      rw [← S.len, List.getElem?_append_right (Nat.le_refl _), Nat.sub_self]
      rfl
end
open Classical in
noncomputable def lcGo (ck : List (Nat × List D)) (tg : Tg) (own : List Nat) (test : BF) (elt : EF) (sl : List (Option Vl)) : List D → List D → Dl → Option (List D × Dl)
  | [], acc, δ => if CkOk ck δ then some (acc, δ) else none
  | d :: ds, acc, δ => if CkOk ck δ ∧ acc.length < small then (asgT δ tg d).bind fun δ1 => (test δ1).bind fun p =>
      if p.1 then (elt p.2).bind fun q => (frz q.2 q.1).bind fun y => lcGo ck tg own test elt sl ds (acc ++ [y.1]) { y.2 with sl := sl }
      else lcGo ck tg own test elt sl ds acc { p.2 with sl := sl }
    else none
noncomputable def dLc (m : Bool) (fi : IF) (tg : Tg) (own : List Nat) (test : BF) (elt : EF) : EF := fun δ => (fi δ).bind fun p =>
  (lcGo p.2.1 tg own test elt (wipeD p.2.2.sl own) p.1 [] { p.2.2 with sl := wipeD p.2.2.sl own }).map fun q => mk m q.1 { q.2 with sl := p.2.2.sl }
def bYes : BF := fun δ => some (true, δ)
theorem lcGo_ck {ck : List (Nat × List D)} {tg : Tg} {own : List Nat} {test : BF} {elt : EF} {sl : List (Option Vl)} {ds acc : List D} {δ : Dl} {r : List D × Dl} (h : lcGo ck tg own test elt sl ds acc δ = some r) : CkOk ck δ := by
  cases ds with
  | nil =>
    rw [lcGo] at h
    split at h
    · assumption
    · cases h
  | cons d ds =>
    rw [lcGo] at h
    split at h
    · rename_i hh
      exact hh.1
    · cases h
abbrev PDTs (X : Cx) (ifs : List Expr) (f : BF) := PTs X ifs (tDT X.K X.mg f)
section
variable {X : Cx} {tgE iter elt : Expr} {ifs : List Expr} {scope : Scope} {own : List (Str × Nat)} {fi : IF} {test : BF} {fe : EF} {pos spos : Pos}
theorem pdts_nil : PDTs X [] bYes := ⟨fun pins s σ H Q I h => by
  obtain ⟨B, F, ad, δ, r, δ', S, e, k⟩ := h
  cases e
  exact pts_nil.run pins s σ H Q I (k B ad H (Same.refl _) (Pre.refl _) S)⟩
theorem pdts_one {c : Expr} {f : BF} (h : PDT X c f) : PDTs X [c] f := pts_one h
theorem lc_w {m : Bool} {tg : Tg} {σ : L2.St} {H : Hp} {Q : VK} {K : PySem.W.Frag} {mg : Str → Option Value} (hown : ∀ i ∈ tgs tg, i ∈ own.map (·.2)) (h : tD K mg (dLc m fi tg (own.map (·.2)) test fe) σ H Q) :
    tLc (iD K mg fi) (gTg K tg) (tDT K mg test) (tD K mg fe) (own.map (·.2)) σ H Q := by
  obtain ⟨B, F, ad, δ, r, δ', S, e, k⟩ := h
  unfold dLc at e
  obtain ⟨⟨it, ck, δ1⟩, e1, e⟩ := Option.bind_eq_some_iff.mp e
  obtain ⟨⟨res, δ2⟩, e2, e⟩ := Option.map_eq_some_iff.mp e
  have e' : mk m res { δ2 with sl := δ1.sl } = (r, δ') := e
  dsimp only at e2
  generalize hw : wipeD δ1.sl (own.map (·.2)) = sl0 at e2
  refine ⟨B, F, ad, δ, it, ck, δ1, S, e1, (show CkOk ck δ1 from (lcGo_ck e2 : CkOk ck ⟨sl0, δ1.st⟩)), fun B1 ad1 H1 J G Y s1 p1 S1 W hG hY => ?_⟩
  intro Dl' hD
  have hFD : F Dl' = none := S1.exF.free hD
  have SW := (S1.wiped (own.map (·.2))).allocF (o := .lst []) hD
  rw [hw] at SW
  refine lc_it W (fun i H' => ∃ B2 ad2 δ3 accD acc, Same B1 B2 ∧ Pre ad1 ad2 ∧ SRep K mg B2 (upd F Dl' (.lst acc)) ad2 (wipe σ (own.map (·.2))) δ3 H' ∧ Rps K mg B2 accD acc ∧ δ3.sl = sl0 ∧ lcGo ck tg (own.map (·.2)) test fe sl0 (it.drop i) accD δ3 = some (res, δ2))
    ⟨B1, ad1, _, [], [], Same.refl _, Pre.refl _, SW, rfl, rfl, e2⟩ ?_ ?_ ?_
  · rintro i H' hi ⟨B2, ad2, δ3, accD, acc, s2, p2, S2, ra, hsl, e3⟩
    exact hG B2 _ ad2 _ δ3 H' s2 p2 S2 (lcGo_ck e3)
  · rintro i x H2 H3 hi ⟨B2, ad2, δ3, accD, acc, s2, p2, S2, ra, hsl, e3⟩ hy
    obtain ⟨B3, s3, S3, d, hd, rd⟩ := hY i x B2 _ ad2 _ δ3 H2 H3 s2 p2 S2 (lcGo_ck e3) hi hy
    have hdr : it.drop i = d :: it.drop (i + 1) := by
      obtain ⟨hl, he⟩ := List.getElem?_eq_some_iff.mp hd
      rw [List.drop_eq_getElem_cons hl, he]
    rw [hdr, lcGo] at e3
    split at e3
    · rename_i hc
      obtain ⟨δ4, e4, e3⟩ := Option.bind_eq_some_iff.mp e3
      obtain ⟨⟨b, δ5⟩, e5, e3⟩ := Option.bind_eq_some_iff.mp e3
      refine tg_w S3 rd e4 fun vs S4 => ?_
      refine ⟨by rw [wipe_setV hown, wipe_wipe], ?_⟩
      have back : ∀ {B6 F6 ad6 δ6 H6}, SRep K mg B6 F6 ad6 (setV (wipe σ (own.map (·.2))) (tgs tg) vs) δ6 H6 → Same B2 B6 → Pre ad2 ad6 → SRep K mg B6 F6 ad6 (wipe σ (own.map (·.2))) { δ6 with sl := sl0 } H6 := fun {B6 F6 ad6 δ6 H6} S6 s6 p6 => by
        have := S2.reslot s6 p6 S6
        rw [hsl] at this
        exact this
      refine ⟨B3, _, ad2, δ4, b, δ5, S4, e5, fun B5 ad5 H5 s5 p5 S5 => ?_⟩
      cases b with
      | true =>
        rw [if_pos rfl]
        rw [if_pos rfl] at e3
        obtain ⟨⟨y, δ6⟩, e6, e3⟩ := Option.bind_eq_some_iff.mp e3
        obtain ⟨⟨yd, δ7⟩, e7, e3⟩ := Option.bind_eq_some_iff.mp e3
        refine ⟨B5, _, ad5, δ5, y, δ6, S5, e6, fun B6 ad6 v H6 s6 p6 S6 r6 => ?_⟩
        obtain ⟨B7, s7, S7, r7⟩ := S6.frz r6 e7
        have hacc : H6 Dl' = some (.lst acc) := S7.exF Dl' _ upd_same
        have hlen := Rps.length ra
        refine ⟨acc, hacc, Nat.lt_of_lt_of_le (by omega) (small_sz (Nat.le_refl _)), ?_⟩
        have sAll : Same B2 B7 := ((s3.trans s5).trans s6).trans s7
        have pAll : Pre ad2 ad6 := p5.trans p6
        exact ⟨B7, ad6, { δ7 with sl := sl0 }, accD ++ [yd], acc ++ [v], s2.trans sAll, p2.trans pAll, (back S7 sAll pAll).setF, Rps.app (Rps.mono sAll _ _ ra) (Rps.one r7), rfl, e3⟩
      | false =>
        rw [if_neg Bool.false_ne_true]
        rw [if_neg Bool.false_ne_true] at e3
        have sAll : Same B2 B5 := s3.trans s5
        exact ⟨B5, ad5, { δ5 with sl := sl0 }, accD, acc, s2.trans sAll, p2.trans p5, back S5 sAll p5, Rps.mono sAll _ _ ra, rfl, e3⟩
    · cases e3
  · rintro H2 ⟨B2, ad2, δ3, accD, acc, s2, p2, S2, ra, hsl, e3⟩
    rw [List.drop_length] at e3
    have hck := lcGo_ck e3
    rw [lcGo, if_pos hck] at e3
    cases e3
    refine SRep.takeF (m := m) (S1.reslot s2 p2 S2) hFD ra fun B' ad' v H' s3 p3 S3 r3 => ?_
    rw [e'] at S3 r3
    exact k B' ad' v H' ((s1.trans s2).trans s3) ((p1.trans p2).trans p3) S3 r3
theorem pd_lc (m : Bool) (tg : Tg) (hc : X.calm = true) (hN : X.N.Nodup) (hi : PDI X tgE iter fi) (ok : BlkOk X.N X.env.scope scope own) (hown : ∀ i ∈ tgs tg, i ∈ own.map (·.2))
    (hg : ∀ (s : Shared) (H : Hp) (C : Addr) (cl : List (Str × Addr)) (fp : List Addr), PG (X.blk s H scope (compEnvC scope cl C X.env) fp) tgE (gTg X.K tg))
    (ht : ∀ (s : Shared) (H : Hp) (C : Addr) (cl : List (Str × Addr)) (fp : List Addr), PTs (X.blk s H scope (compEnvC scope cl C X.env) fp) ifs (tDT X.K X.mg test))
    (he : ∀ (s : Shared) (H : Hp) (C : Addr) (cl : List (Str × Addr)) (fp : List Addr), PE (X.blk s H scope (compEnvC scope cl C X.env) fp) elt (tD X.K X.mg fe)) (hs : ∀ x, foldedSetIterable iter X.env x = pure x := by intro _; rfl) :
    PD X (.ListComp elt [⟨tgE, iter, ifs, 0⟩] scope pos) (dLc m fi tg (own.map (·.2)) test fe) := PE.weak (pe_lc hc hN hi ok hg ht he hs) fun σ H Q h => lc_w hown h
theorem pds_setLc (m : Bool) (tg : Tg) {i : Nat} {y : Str} {py : Pos} (hc : X.calm = true) (hN : X.N.Nodup) (hi : PDI X tgE iter fi) (ok : BlkOk X.N X.env.scope scope own) (hown : ∀ i ∈ tgs tg, i ∈ own.map (·.2))
    (hg : ∀ (s : Shared) (H : Hp) (C : Addr) (cl : List (Str × Addr)) (fp : List Addr), PG (X.blk s H scope (compEnvC scope cl C X.env) fp) tgE (gTg X.K tg))
    (ht : ∀ (s : Shared) (H : Hp) (C : Addr) (cl : List (Str × Addr)) (fp : List Addr), PTs (X.blk s H scope (compEnvC scope cl C X.env) fp) ifs (tDT X.K X.mg test))
    (he : ∀ (s : Shared) (H : Hp) (C : Addr) (cl : List (Str × Addr)) (fp : List Addr), PE (X.blk s H scope (compEnvC scope cl C X.env) fp) elt (tD X.K X.mg fe))
    (hy : X.N[i]? = some y) (hyl : X.env.scope.names.lookup y = some .local) (hsw : swapsWith (.ListComp elt [⟨tgE, iter, ifs, 0⟩] scope pos) (some (.Name y py)) spos.line X.env = pure true) (hs : ∀ x, foldedSetIterable iter X.env x = pure x := by intro _; rfl) :
    PDS X (.Assign [.Name y py] (.ListComp elt [⟨tgE, iter, ifs, 0⟩] scope pos) spos) (sSet i (dLc m fi tg (own.map (·.2)) test fe)) :=
  PS.weak (ps_setLc hc hN hy hyl hsw hi ok hg ht he hs) fun D σ H h => by
    obtain ⟨B, F, ad, δ, r, δ', S, e, k⟩ := h
    unfold sSet at e
    obtain ⟨⟨x, δ1⟩, e1, e⟩ := Option.map_eq_some_iff.mp e
    cases e
    exact lc_w hown ⟨B, F, ad, δ, x, δ1, S, e1, fun B1 ad1 v H1 q1 p1 S1 r1 => k B1 ad1 _ H1 q1 p1 (S1.setS r1)⟩
end
end PK

namespace PK
open PySem L2 PySem.Spec PyProof.Rows

/-! ### a def keeps its promise -/
def fnD (n : Nat) (f : SF) : GF := fun rs cs => (f ⟨rs.map some ++ List.replicate (n - rs.length) none, cs.map some⟩).bind fun p => (lives p.2 (List.range cs.length)).bind fun cs' => match p.1 with
  | .rt (.fz d) => some (.val d, cs')
  | .rt (.rf k) => if cs.length ≤ k then match p.2.st[k]? with
      | some (some es) => some (.fresh es, cs')
      | _ => none
    else none
  | .nx => some (.val .non, cs')
  | _ => none
section
variable {K : PySem.W.Frag} {mg : Str → Option Value} {B B' F F' : Hp} {ad ad' : List Addr} {σ : L2.St} {δ δ' : Dl} {H H' : Hp} {p : Addr}
theorem SRep.weakF (S : SRep K mg B F ad σ δ H) (h : Same F' F) : SRep K mg B F' ad σ δ H where
  exB := S.exB
  exF := fun a o e => S.exF a o (h a o e)
  dis := fun a o e => S.dis a o (h a o e)
  nd := S.nd
  len := S.len
  slen := S.slen
  cell := fun k ds e => by
    obtain ⟨q, xs, h1, h2, h3, h4, h5⟩ := S.cell k ds e
    exact ⟨q, xs, h1, h2, h3, h4, h.free h5⟩
  dead := S.dead
  slot := S.slot
theorem SRep.pick (S : SRep K mg B F ad σ δ H) {ks : List Nat} {cs : List (List D)} (h : lives δ ks = some cs) (hn : ks.Nodup) : SRep K mg B F (addrs ad ks) [] ⟨[], cs.map some⟩ H :=
  (S.down h hn).weakF fun a o e => by
    unfold frameOf
    split
    · rename_i hx
      obtain ⟨k, ds, _, h1, h2⟩ := hx
      obtain ⟨q, xs, g1, g2, _, g4, g5⟩ := S.cell k ds h2
      rw [h1] at g1
      cases g1
      rw [g5] at e
      cases e
    · exact e
theorem addrs_range (ad m : List Addr) : addrs (ad ++ m) (List.range ad.length) = ad := by
  unfold addrs
  apply List.ext_getElem?
  intro i
  have key : ∀ n, n ≤ ad.length → ((List.range n).filterMap fun k => (ad ++ m)[k]?) = ad.take n := by
    intro n
    induction n with
    | zero => intro _; rfl
    | succ n ih =>
      intro hn
      rw [List.range_succ, List.filterMap_append, ih (by omega)]
      have hl : n < ad.length := by omega
      have e : (ad ++ m)[n]? = some ad[n] := by
        rw [List.getElem?_append_left hl]
        exact List.getElem?_eq_getElem hl
      rw [List.filterMap_cons, e]
      simp only [List.filterMap_nil]
      rw [List.take_add_one, List.getElem?_eq_getElem hl]
      rfl
  rw [key _ (Nat.le_refl _), List.take_length]
theorem addrs_app (ad : List Addr) (ks : List Nat) (k : Nat) (a : Addr) (h : ad[k]? = some a) : addrs ad (ks ++ [k]) = addrs ad ks ++ [a] := by
  unfold addrs
  rw [List.filterMap_append]
  congr 1
  rw [List.filterMap_cons, h]
  rfl
theorem lives_app {es : List D} {k : Nat} : ∀ {ks : List Nat} {cs : List (List D)}, lives δ ks = some cs → δ.st[k]? = some (some es) → lives δ (ks ++ [k]) = some (cs ++ [es])
  | [], cs, h, g => by
    simp only [lives] at h
    cases h
    show lives δ [k] = some [es]
    simp only [lives, g]
  | k0 :: ks, cs, h, g => by
    simp only [lives] at h
    split at h
    · rename_i ds r h1 h2
      cases h
      show lives δ (k0 :: (ks ++ [k])) = some (ds :: (r ++ [es]))
      simp only [lives, h1, lives_app h2 g]
    · cases h
theorem rps_start {rs : List Vl} {vs : List V} {n : Nat} (S : SRep K mg B F ad [] ⟨[], δ.st⟩ H) (r : RpVs K mg B ad rs vs) : SRep K mg B F ad (vs.map some ++ List.replicate (n - vs.length) none) ⟨rs.map some ++ List.replicate (n - rs.length) none, δ.st⟩ H :=
  ⟨S.exB, S.exF, S.dis, S.nd, S.len, by simp [RpVs.length r], S.cell, S.dead, fun i d e => by
    have e' : (rs.map some ++ List.replicate (n - rs.length) none)[i]? = some (some d) := e
    have hl := RpVs.length r
    have hi : i < rs.length := by
      rcases Nat.lt_or_ge i rs.length with z | z
      · exact z
      · rw [List.getElem?_append_right (by simpa using z)] at e'
        rw [List.getElem?_replicate] at e'
        split at e' <;> cases e'
    rw [List.getElem?_append_left (by simpa using hi), List.getElem?_map] at e'
    obtain ⟨d', e1, e2⟩ := Option.map_eq_some_iff.mp e'
    cases e2
    have key : ∀ {rs : List Vl} {vs : List V} {i : Nat} {d : Vl}, RpVs K mg B ad rs vs → rs[i]? = some d → ∃ v, vs[i]? = some v ∧ RpV K mg B ad d v := by
      intro rs
      induction rs with
      | nil => intro vs i d _ h; simp at h
      | cons x xs ih =>
        intro vs i d h g
        obtain ⟨v, w, rfl, h2, h3⟩ := h
        cases i with
        | zero =>
          simp at g
          subst g
          exact ⟨v, rfl, h2⟩
        | succ i =>
          obtain ⟨u, k1, k2⟩ := ih h3 (by simpa using g)
          exact ⟨u, by simpa using k1, k2⟩
    obtain ⟨v, k1, k2⟩ := key r e1
    refine ⟨v, ?_, k2⟩
    rw [List.getElem?_append_left (by simpa [hl] using hi), List.getElem?_map, k1]
    rfl⟩
end
section
variable {P : Program} {w : World} {K : PySem.W.Frag} {mg : Str → Option Value} {base : Heap}
theorem fn_okD {x qual : Str} {st : Stmt} {f : Addr} {fd : FuncData} {N ps : List Str} {k : Nat} {fs : SF} (F : Fun K x qual st f fd) (S : FnScope N ps (defScope st))
    (hbody : ∀ (cdv : Value) (A : Around) (outer : List Env) (s : Shared) (H : Hp) (E : XK), Room k (A.deeper (envOfC qual (defScope st) s.heap.objs.size f cdv)) → PDSs (cxOf CX0 P w K mg base N qual (defScope st) f cdv A outer s H E).nox (defBody st) fs) :
    FnOk P w K mg base CX0 (k + 1) f fd ps (spD K mg ps.length (fnD N.length fs)) := by
  refine F.ok S (fun vs H Q E h => h.1) (fun cdv A outer s H vs Q E hr h => ?_)
  refine ⟨_, hbody cdv A outer s H E hr, ?_⟩
  obtain ⟨hlen, B, Fr, ad, rs, cs, r, cs', S0, rv, e, hl, kk⟩ := h
  unfold fnD at e
  obtain ⟨⟨fl, δ'⟩, e1, e⟩ := Option.bind_eq_some_iff.mp e
  obtain ⟨cs2, e2, e⟩ := Option.bind_eq_some_iff.mp e
  have S1 : SRep K mg B Fr ad (start N vs) ⟨rs.map some ++ List.replicate (N.length - rs.length) none, cs.map some⟩ H := rps_start (δ := ⟨[], cs.map some⟩) S0 rv
  have hadl : ad.length = cs.length := by
    have := S0.len
    simpa using this
  refine ⟨B, Fr, ad, _, fl, δ', S1, e1, fun B' ad' σ' H' sB pA S' => ?_⟩
  obtain ⟨m, rfl⟩ := pA
  have base : SRep K mg B' Fr ad [] ⟨[], cs2.map some⟩ H' := by
    have := S'.pick e2 List.nodup_range
    rw [← hadl, addrs_range] at this
    exact this
  cases fl with
  | nx =>
    cases e
    exact kk B' .non H' sB ⟨base, rfl⟩
  | bk => cases e
  | ct => cases e
  | rt v =>
    intro u hu
    cases v with
    | fz d =>
      cases e
      exact kk B' u H' sB ⟨base, hu⟩
    | rf j =>
      simp only at e
      split at e
      · rename_i hj
        split at e
        · rename_i es hes
          cases e
          obtain ⟨a, rfl, ha⟩ := hu
          refine kk B' _ H' sB ⟨a, rfl, ?_⟩
          have hnd : (List.range cs.length ++ [j]).Nodup := by
            rw [List.nodup_append]
            refine ⟨List.nodup_range, by simp, fun x hx y hy => ?_⟩
            have hy' : y = j := by simpa using hy
            have hx' : x < cs.length := by simpa using hx
            omega
          have := S'.pick (lives_app e2 hes) hnd
          rw [addrs_app _ _ _ _ ha, ← hadl, addrs_range] at this
          exact this
        · cases e
      · cases e
end
end PK

namespace PK
open PySem L2 PySem.Spec PyProof.Rows

/-! ### targets of a plain assignment, one after another -/
abbrev HF := D → Dl → Option Dl
def gD (K : PySem.W.Frag) (mg : Str → Option Value) (h : HF) : TG := fun v σ H Q => ∃ B F ad δ d δ', SRep K mg B F ad σ δ H ∧ Rp K mg B d v ∧ h d δ = some δ' ∧
  ∀ B' ad' σ' H', Same B B' → Pre ad ad' → SRep K mg B' F ad' σ' δ' H' → Q σ' H'
abbrev HsF := List D → Dl → Option Dl
def gDs (K : PySem.W.Frag) (mg : Str → Option Value) (h : HsF) : TGs := fun vs σ H Q => ∃ B F ad δ ds δ', SRep K mg B F ad σ δ H ∧ Rps K mg B ds vs ∧ h ds δ = some δ' ∧
  ∀ B' ad' σ' H', Same B B' → Pre ad ad' → SRep K mg B' F ad' σ' δ' H' → Q σ' H'
theorem PG.weak {X : Cx} {e : Expr} {t t' : TG} (h : PG X e t) (w : ∀ v σ H Q, t' v σ H Q → t v σ H Q) : PG X e t' := ⟨fun pins s σ H v u Q I r q => h.run pins s σ H v u Q I r (w v σ H Q q)⟩
theorem PGs.weak {X : Cx} {e : List Expr} {t t' : TGs} (h : PGs X e t) (w : ∀ v σ H Q, t' v σ H Q → t v σ H Q) : PGs X e t' := ⟨fun pins s σ H v u Q I r q => h.run pins s σ H v u Q I r (w v σ H Q q)⟩
def hNm (i : Nat) : HF := fun d δ => some { δ with sl := δ.sl.set i (some (.fz d)) }
def setIx (δ : Dl) (o : Vl) (i : Vl) (d : D) : Option Dl := match o, i with
  | .rf k, .fz (.int n) => match δ.st[k]? with
    | some (some ds) => (ixN ds.length n).map fun j => { δ with st := δ.st.set k (some (ds.set j d)) }
    | _ => none
  | _, _ => none
def hSub (fo fi : EF) : HF := fun d δ => (fo δ).bind fun p => (fi p.2).bind fun q => setIx q.2 p.1 q.1 d
def hNil : HsF := fun ds δ => match ds with
  | [] => some δ
  | _ => none
def hCons (h : HF) (g : HsF) : HsF := fun ds δ => match ds with
  | d :: r => (h d δ).bind fun δ1 => g r δ1
  | [] => none
def hTup (n : Nat) (g : HsF) : HF := fun d δ => match d with
  | .tup ds => if ds.length = n then g ds δ else none
  | _ => none
section
variable {X : Cx} {e o i : Expr} {f fo fi : EF} {pos : Pos} {h : HF} {g : HsF} {es : List Expr}
theorem pgd_name (i : Nat) {x : Str} (hN : X.N.Nodup) (hi : X.N[i]? = some x := by rfl) (hx : Loc X.env.scope x := by first | exact Or.inl rfl | exact Or.inr rfl) (hf : X.fn x = true ∨ X.env.scope.names.lookup x = some .local := by first | exact .inl rfl | exact .inr rfl) :
    PG X (.Name x pos) (gD X.K X.mg (hNm i)) := PG.weak (pg_name hN hi hx hf) fun v σ H Q h => by
  obtain ⟨B, F, ad, δ, d, δ', S, r, e, k⟩ := h
  cases e
  exact k B ad _ H (Same.refl _) (Pre.refl _) (S.setS (d := .fz d) r)
theorem pgd_sub (ho : PD X o fo) (hi : PD X i fi)
    (ha : ∀ v, assign (.Subscript o i pos) X.env v = (do
      let ov ← holding [v] (eval o X.env)
      let iv ← holding [v, ov] (eval i X.env)
      standAt pos
      holding [v, ov, iv] (setItem ov iv v)
      release [v, ov, iv] []) := by intro _; rfl) : PG X (.Subscript o i pos) (gD X.K X.mg (hSub fo fi)) := PG.weak (pg_sub ho hi set_list ha) fun v σ H Q h => by
  obtain ⟨B, F, ad, δ, d, δ', S, r, e, k⟩ := h
  unfold hSub at e
  obtain ⟨⟨x, δ1⟩, e1, e⟩ := Option.bind_eq_some_iff.mp e
  obtain ⟨⟨y, δ2⟩, e2, e⟩ := Option.bind_eq_some_iff.mp e
  refine ⟨B, F, ad, δ, x, δ1, S, e1, fun B1 ad1 v1 H1 s1 p1 S1 r1 => ?_⟩
  refine ⟨B1, F, ad1, δ1, y, δ2, S1, e2, fun B2 ad2 v2 H2 s2 p2 S2 r2 => ?_⟩
  have r1' := r1.mono s2 p2
  unfold setIx at e
  cases x with
  | fz d => cases e
  | rf c =>
    cases y with
    | rf d => cases e
    | fz d =>
      cases d with
      | int n =>
        simp only at e
        split at e
        · rename_i ds hk
          obtain ⟨j, e3, e4⟩ := Option.map_eq_some_iff.mp e
          cases e4
          obtain ⟨a, h1, h2⟩ := r1'
          have r2' : v2 = .int n := r2
          obtain ⟨q, xs, g1, g2, g3, _, _⟩ := S2.cell _ _ hk
          rw [h2] at g1
          cases g1
          have hl := Rps.length g3
          exact ⟨a, xs, n, j, h1, r2', g2, by rw [hl]; exact e3, k B2 ad2 σ _ (s1.trans s2) (p1.trans p2) (S2.cellSet hk h2 g2 (Rps.set g3 (Rp.mono (s1.trans s2) _ _ r)))⟩
        · cases e
      | _ => cases e
theorem pgds_nil : PGs X [] (gDs X.K X.mg hNil) := PGs.weak pgs_nil fun v σ H Q h => by
  obtain ⟨B, F, ad, δ, ds, δ', S, r, e, k⟩ := h
  cases ds with
  | nil =>
    cases e
    exact ⟨r, k B ad σ H (Same.refl _) (Pre.refl _) S⟩
  | cons _ _ => cases e
theorem pgds_cons (h1 : PG X e (gD X.K X.mg h)) (h2 : PGs X es (gDs X.K X.mg g)) (hs : (assignEach (e :: es) X.env).map (·.2) = assign e X.env :: (assignEach es X.env).map (·.2) := by rfl) : PGs X (e :: es) (gDs X.K X.mg (hCons h g)) :=
  PGs.weak (pgs_cons h1 h2 hs) fun v σ H Q h => by
  obtain ⟨B, F, ad, δ, ds, δ', S, r, e, k⟩ := h
  cases ds with
  | nil => cases e
  | cons d ds =>
    obtain ⟨δ1, e1, e2⟩ := Option.bind_eq_some_iff.mp e
    obtain ⟨w, ws, rfl, r1, r2⟩ := r
    refine ⟨w, ws, rfl, B, F, ad, δ, d, δ1, S, r1, e1, fun B1 ad1 σ1 H1 s1 p1 S1 => ?_⟩
    exact ⟨B1, F, ad1, δ1, ds, δ', S1, Rps.mono s1 _ _ r2, e2, fun B2 ad2 σ2 H2 s2 p2 S2 => k B2 ad2 σ2 H2 (s1.trans s2) (p1.trans p2) S2⟩
theorem pgd_tup {k n : Nat} (hc : X.calm = true) (hg : PGs X es (gDs X.K X.mg g)) (hn : (assignEach es X.env).length = n := by rfl) (hst : (assignEach es X.env).findIdx? (·.1) = none := by rfl) : PG X (.Tuple es k pos) (gD X.K X.mg (hTup n g)) :=
  PG.weak (pg_tup hc hg hn hst) fun v σ H Q h => by
  obtain ⟨B, F, ad, δ, d, δ', S, r, e, k⟩ := h
  cases d with
  | tup ds =>
    have e' : (if ds.length = n then g ds δ else none) = some δ' := e
    split at e'
    · rename_i hl
      obtain ⟨a, xs, rfl, h2, h3⟩ := r
      exact ⟨a, xs, rfl, SqT.of (S.exB _ _ h2), by rw [Rps.length h3]; exact hl, B, F, ad, δ, ds, δ', S, h3, e', k⟩
    · cases e'
  | _ => cases e
def sAsg (h : HF) (f : EF) : SF := fun δ => (f δ).bind fun p => (frz p.2 p.1).bind fun q => (h q.1 q.2).map fun δ' => (.nx, δ')
theorem pds_asg {tg : Expr} (he : PD X e f) (hg : PG X tg (gD X.K X.mg h)) (hs : swapsWithSole [tg] e pos.line X.env = pure false := by rfl) (hw : swappedStores [tg] e X.env = pure none := by rfl)
    (h1 : (assignEach [tg] X.env).map (·.2) = [assign tg X.env] := by rfl) : PDS X (.Assign [tg] e pos) (sAsg h f) := PS.weak (ps_asg he hg hs hw h1) fun D σ H h => by
  obtain ⟨B, F, ad, δ, r, δ', S, e, k⟩ := h
  unfold sAsg at e
  obtain ⟨⟨x, δ1⟩, e1, e⟩ := Option.bind_eq_some_iff.mp e
  obtain ⟨⟨d, δ2⟩, e2, e⟩ := Option.bind_eq_some_iff.mp e
  obtain ⟨δ3, e3, e⟩ := Option.map_eq_some_iff.mp e
  cases e
  refine ⟨B, F, ad, δ, x, δ1, S, e1, fun B1 ad1 v1 H1 s1 p1 S1 r1 => ?_⟩
  obtain ⟨B2, s2, S2, r2⟩ := S1.frz r1 e2
  exact ⟨B2, F, ad1, δ2, d, _, S2, r2, e3, fun B3 ad3 σ3 H3 s3 p3 S3 => k B3 ad3 σ3 H3 ((s1.trans s2).trans s3) (p1.trans p3) S3⟩
/-- a, b = x, y -/
def sPar (is : List Nat) (fa : AF) : SF := fun δ => (fa δ).bind fun p => match is, p.1 with
  | [i, j], [a, b] => some (.nx, { p.2 with sl := (p.2.sl.set i (some a)).set j (some b) })
  | [i, j, l], [a, b, c] => some (.nx, { p.2 with sl := ((p.2.sl.set i (some a)).set j (some b)).set l (some c) })
  | _, _ => none
theorem pds_par {i j : Nat} {x y : Str} {a b : Expr} {fa : AF} {px py pt : Pos} {kt k2 pt2} (hc : X.calm = true) (hN : X.N.Nodup) (hi : X.N[i]? = some x) (hj : X.N[j]? = some y) (hij : i ≠ j)
    (hx : X.env.scope.names.lookup x = some .local) (hy : X.env.scope.names.lookup y = some .local) (ha : PDA X [a, b] fa)
    (hw : swappedStores [.Tuple [.Name x px, .Name y py] kt pt] (.Tuple [a, b] k2 pt2) X.env = pure (some [x, y]))
    (hs : swapsWithSole [.Tuple [.Name x px, .Name y py] kt pt] (.Tuple [a, b] k2 pt2) pos.line X.env = pure false := by rfl) :
    PDS X (.Assign [.Tuple [.Name x px, .Name y py] kt pt] (.Tuple [a, b] k2 pt2) pos) (sPar [i, j] fa) := PS.weak (ps_par hc hN hi hj hij hx hy ha hw hs) fun D σ H h => by
  obtain ⟨B, F, ad, δ, r, δ', S, e, k⟩ := h
  unfold sPar at e
  obtain ⟨⟨rs, δ1⟩, e1, e⟩ := Option.bind_eq_some_iff.mp e
  refine ⟨B, F, ad, δ, rs, δ1, S, e1, fun B1 ad1 vs H1 s1 p1 S1 r1 => ?_⟩
  match rs, e, r1 with
  | [a, b], e, r1 =>
    cases e
    obtain ⟨v, w, rfl, h2, v2, w2, rfl, h3, h4⟩ := r1
    have h4' : w2 = [] := h4
    subst h4'
    exact ⟨v, v2, rfl, k B1 ad1 _ H1 s1 p1 ((S1.setS h2).setS h3)⟩
  | [], e, _ => cases e
  | [_], e, _ => cases e
  | _ :: _ :: _ :: _, e, _ => cases e
theorem pds_par3 {i j l : Nat} {x y z : Str} {a b c : Expr} {fa : AF} {px py pz pt : Pos} {kt k2 pt2} (hc : X.calm = true) (hN : X.N.Nodup) (hi : X.N[i]? = some x) (hj : X.N[j]? = some y) (hl : X.N[l]? = some z) (hij : i ≠ j) (hil : i ≠ l) (hjl : j ≠ l)
    (hx : X.env.scope.names.lookup x = some .local) (hy : X.env.scope.names.lookup y = some .local) (hz : X.env.scope.names.lookup z = some .local) (ha : PDA X [a, b, c] fa)
    (hw : swappedStores [.Tuple [.Name x px, .Name y py, .Name z pz] kt pt] (.Tuple [a, b, c] k2 pt2) X.env = pure (some [x, y, z]))
    (hs : swapsWithSole [.Tuple [.Name x px, .Name y py, .Name z pz] kt pt] (.Tuple [a, b, c] k2 pt2) pos.line X.env = pure false := by rfl) :
    PDS X (.Assign [.Tuple [.Name x px, .Name y py, .Name z pz] kt pt] (.Tuple [a, b, c] k2 pt2) pos) (sPar [i, j, l] fa) := PS.weak (ps_par3 hc hN hi hj hl hij hil hjl hx hy hz ha hw hs) fun D σ H h => by
  obtain ⟨B, F, ad, δ, r, δ', S, e, k⟩ := h
  unfold sPar at e
  obtain ⟨⟨rs, δ1⟩, e1, e⟩ := Option.bind_eq_some_iff.mp e
  refine ⟨B, F, ad, δ, rs, δ1, S, e1, fun B1 ad1 vs H1 s1 p1 S1 r1 => ?_⟩
  match rs, e, r1 with
  | [a, b, c], e, r1 =>
    cases e
    obtain ⟨v, w, rfl, h2, v2, w2, rfl, h3, v3, w3, rfl, h5, h4⟩ := r1
    have h4' : w3 = [] := h4
    subst h4'
    exact ⟨v, v2, v3, rfl, k B1 ad1 _ H1 s1 p1 (((S1.setS h2).setS h3).setS h5)⟩
  | [], e, _ => cases e
  | [_], e, _ => cases e
  | [_, _], e, _ => cases e
  | _ :: _ :: _ :: _ :: _, e, _ => cases e

/-! ### methods of lists -/
/-- what a method does to the list: the arguments (frozen), the list, what comes of it and what it hands back -/
abbrev MF := List D → List D → Option (D × List D)
def dMt (g : MF) (fo : EF) (fa : AF) : EF := fun δ => (fo δ).bind fun p => match p.1 with
  | .rf k => match p.2.st[k]? with
    | some (some _) => (fa p.2).bind fun q => (frzs q.2 q.1).bind fun s => match s.2.st[k]? with
      | some (some ds) => (g s.1 ds).map fun z => (.fz z.1, { s.2 with st := s.2.st.set k (some z.2) })
      | _ => none
    | _ => none
  | _ => none
def appD : MF := fun as ds => match as with
  | [d] => if ds.length < small then some (.non, ds ++ [d]) else none
  | _ => none
def extD : MF := fun as ds => match as with
  | [.lst es] => if ds.length + es.length ≤ small then some (.non, ds ++ es) else none
  | _ => none
def popD : MF := fun as ds => match as with
  | [] => ds[ds.length - 1]?.map fun d => (d, ds.dropLast)
  | _ => none
def revD : MF := fun as ds => match as with
  | [] => some (.non, ds.reverse)
  | _ => none
/-- by values: what the library's rule asks -/
def MtD (X : Cx) (g : MF) (r : V → List V → Hp → VK → Prop) : Prop := ∀ (B F : Hp) (ad : List Addr) (σ : L2.St) (δ : Dl) (H : Hp) (k : Nat) (ds as : List D) (z : D × List D) (a : Addr) (xs vs : List V) (Q : VK), SRep X.K X.mg B F ad σ δ H → δ.st[k]? = some (some ds) → ad[k]? = some a → H a = some (.lst xs) → Rps X.K X.mg B ds xs → Rps X.K X.mg B as vs → g as ds = some z →
  (∀ y ys H', H' = upd H a (.lst ys) → Rps X.K X.mg B z.2 ys → Rp X.K X.mg B z.1 y → Q y H') → r (.ref a) vs H Q
theorem mtd_app : MtD X appD rAppend := by
  intro B F ad σ δ H k ds as z a xs vs Q S hk ha hx r rv e q
  unfold appD at e
  split at e
  · split at e
    · rename_i d hl
      cases e
      obtain ⟨v, w, rfl, h2, h3⟩ := rv
      have h3' : w = [] := h3
      subst h3'
      exact ⟨a, xs, v, rfl, rfl, hx, Nat.lt_of_lt_of_le (by rw [Rps.length r]; exact hl) (small_sz (Nat.le_refl _)), q .non _ _ rfl (Rps.app r (Rps.one h2)) rfl⟩
    · cases e
  · cases e
theorem mtd_ext : MtD X extD rExtend := by
  intro B F ad σ δ H k ds as z a xs vs Q S hk ha hx r rv e q
  unfold extD at e
  split at e
  · split at e
    · rename_i es hl
      cases e
      obtain ⟨v, w, rfl, ⟨b, ys, rfl, g2, g3⟩, h3⟩ := rv
      have h3' : w = [] := h3
      subst h3'
      exact ⟨a, b, xs, ys, rfl, rfl, hx, S.exB _ _ g2, small_sz (by rw [Rps.length r, Rps.length g3]; exact hl), q .non _ _ rfl (Rps.app r g3) rfl⟩
    · cases e
  · cases e
theorem rps_dropLast {K : PySem.W.Frag} {mg : Str → Option Value} {B : Hp} {ds : List D} {xs : List V} (r : Rps K mg B ds xs) : Rps K mg B ds.dropLast xs.dropLast := by
  rw [List.dropLast_eq_take, List.dropLast_eq_take, Rps.length r]
  exact Rps.take _ r
theorem mtd_pop : MtD X popD rPop := by
  intro B F ad σ δ H k ds as z a xs vs Q S hk ha hx r rv e q
  unfold popD at e
  split at e
  · obtain ⟨d, e1, e2⟩ := Option.map_eq_some_iff.mp e
    cases e2
    have rv' : vs = [] := rv
    subst rv'
    obtain ⟨v, g1, g2⟩ := Rps.get r e1
    exact ⟨a, xs, v, rfl, rfl, hx, by rw [Rps.length r]; exact g1, q v _ _ rfl (rps_dropLast r) g2⟩
  · cases e
theorem mtd_rev : MtD X revD rReverse := by
  intro B F ad σ δ H k ds as z a xs vs Q S hk ha hx r rv e q
  unfold revD at e
  split at e
  · cases e
    have rv' : vs = [] := rv
    subst rv'
    exact ⟨a, xs, rfl, rfl, hx, q .non _ _ rfl (Rps.rev r) rfl⟩
  · cases e
theorem mt_w {g : MF} {r : V → List V → Hp → VK → Prop} {fa : AF} {σ : L2.St} {H : Hp} {Q : VK} (hr : MtD X g r) (h : tD X.K X.mg (dMt g fo fa) σ H Q) : tBM X.K "list" r (tD X.K X.mg fo) (tDA X.K X.mg fa) σ H Q := by
  obtain ⟨B, F, ad, δ, rr, δ', S, e, k⟩ := h
  unfold dMt at e
  obtain ⟨⟨x, δ1⟩, e1, e⟩ := Option.bind_eq_some_iff.mp e
  refine ⟨B, F, ad, δ, x, δ1, S, e1, fun B1 ad1 v1 H1 s1 p1 S1 r1 => ?_⟩
  cases x with
  | fz d => cases e
  | rf c =>
    simp only at e
    split at e
    · rename_i es hes
      obtain ⟨⟨rs, δ2⟩, e2, e⟩ := Option.bind_eq_some_iff.mp e
      obtain ⟨⟨as, δ3⟩, e3, e⟩ := Option.bind_eq_some_iff.mp e
      simp only at e
      obtain ⟨a, rfl, h2⟩ := r1
      split at e
      · rename_i ds hk
        obtain ⟨⟨zd, zl⟩, e4, e5⟩ := Option.map_eq_some_iff.mp e
        cases e5
        obtain ⟨q', xs0, g1, hx0, _⟩ := S1.cell c es hes
        rw [h2] at g1
        cases g1
        refine ⟨.inl ⟨rfl, xs0, SqL.of hx0⟩, B1, F, ad1, δ1, rs, δ2, S1, e2, fun B2 ad2 vs H2 s2 p2 S2 r2 => ?_⟩
        obtain ⟨B3, s3, S3, r3⟩ := S2.frzs r2 e3
        obtain ⟨q, xs, g1, g2, g3, _, _⟩ := S3.cell c ds hk
        rw [p2.get h2] at g1
        cases g1
        exact hr B3 F ad2 σ δ3 H2 c ds as (zd, zl) a xs vs Q S3 hk (p2.get h2) g2 g3 r3 e4 fun y ys H' eH ry rz => by
          subst eH
          exact k B3 ad2 y _ ((s1.trans s2).trans s3) (p1.trans p2) (S3.cellSet hk (p2.get h2) g2 ry) rz
      · cases e
    · cases e
theorem tD_mono {K : PySem.W.Frag} {mg : Str → Option Value} {f : EF} {σ : L2.St} {H : Hp} {Q Q' : VK} (h : tD K mg f σ H Q) (w : ∀ v H, Q v H → Q' v H) : tD K mg f σ H Q' := by
  obtain ⟨B, F, ad, δ, r, δ', S, e, k⟩ := h
  exact ⟨B, F, ad, δ, r, δ', S, e, fun B' ad' v H' s p S' r' => w _ _ (k B' ad' v H' s p S' r')⟩
theorem bm0_w {r : V → List V → Hp → VK → Prop} {σ : L2.St} {H : Hp} {Q : VK} (h : tBM X.K "list" r (tD X.K X.mg fo) (tDA X.K X.mg aNil) σ H Q) : tBM0 X.K "list" r (tD X.K X.mg fo) σ H Q :=
  tD_mono h fun v H1 ⟨h1, B, F, ad, δ, rs, δ', S, e, k⟩ => ⟨h1, by
    cases e
    exact k B ad [] H1 (Same.refl _) (Pre.refl _) S rfl⟩
theorem pd_app {ap cp : Pos} {fe : EF} (ho : PD X o fo) (he : PD X e fe) (hbase : attributeBase o "append" X.env (eval o X.env) = eval o X.env := by rfl)
    (hfew : ((backTo cp (starEach [e] X.env)).all (fun x => !x.1) && (backToKw cp (keywordEach [] X.env)).all (fun x => x.1.isSome) && decide ([e].length + ([] : List Keyword).length + (if ([] : List Keyword).isEmpty then 0 else 1) < 30)) = true := by rfl)
    (hline : (ap.endLine == cp.line) = true := by rfl) (hs : starEach [e] X.env = (false, eval e X.env) :: starEach [] X.env := by rfl) (hpl : (backTo cp (starEach [] X.env)).any (·.1) = false := by rfl) :
    PD X (.Call (.Attribute o "append" ap) [e] [] cp) (dMt appD fo (aCons fe aNil)) :=
  PE.weak (pe_bm PySem.F.plainAttrs_list PySem.F.slot_list_append PySem.F.type_list_append mt_append ho (pda_cons he pda_nil hs) hbase hfew hline hs hpl) fun σ H Q h => mt_w mtd_app h
theorem pd_ext {ap cp : Pos} {fe : EF} (ho : PD X o fo) (he : PD X e fe) (hbase : attributeBase o "extend" X.env (eval o X.env) = eval o X.env := by rfl)
    (hfew : ((backTo cp (starEach [e] X.env)).all (fun x => !x.1) && (backToKw cp (keywordEach [] X.env)).all (fun x => x.1.isSome) && decide ([e].length + ([] : List Keyword).length + (if ([] : List Keyword).isEmpty then 0 else 1) < 30)) = true := by rfl)
    (hline : (ap.endLine == cp.line) = true := by rfl) (hs : starEach [e] X.env = (false, eval e X.env) :: starEach [] X.env := by rfl) (hpl : (backTo cp (starEach [] X.env)).any (·.1) = false := by rfl) :
    PD X (.Call (.Attribute o "extend" ap) [e] [] cp) (dMt extD fo (aCons fe aNil)) :=
  PE.weak (pe_bm PySem.F.plainAttrs_list PySem.F.slot_list_extend PySem.F.type_list_extend mt_extend ho (pda_cons he pda_nil hs) hbase hfew hline hs hpl) fun σ H Q h => mt_w mtd_ext h
theorem pd_rvs {ap cp : Pos} (ho : PD X o fo) (hbase : attributeBase o "reverse" X.env (eval o X.env) = eval o X.env := by rfl) (hline : (ap.endLine == cp.line) = true := by rfl) :
    PD X (.Call (.Attribute o "reverse" ap) [] [] cp) (dMt revD fo aNil) :=
  PE.weak (pe_bm0 PySem.F.plainAttrs_list PySem.F.slot_list_reverse PySem.F.type_list_reverse mt_reverse ho hbase hline) fun σ H Q h => bm0_w (mt_w mtd_rev h)
theorem pd_pop {ap cp : Pos} (ho : PD X o fo) (hbase : attributeBase o "pop" X.env (eval o X.env) = eval o X.env := by rfl) (hline : (ap.endLine == cp.line) = true := by rfl) :
    PD X (.Call (.Attribute o "pop" ap) [] [] cp) (dMt popD fo aNil) :=
  PE.weak (pe_bm0 PySem.F.plainAttrs_list PySem.F.slot_list_pop PySem.F.type_list_pop mt_pop ho hbase hline) fun σ H Q h => bm0_w (mt_w mtd_pop h)
/-! x += e at a name -/
def addI : OF := fun δ x y => match x, y with
  | .int i, .int j => some (.fz (.int (i + j)), δ)
  | _, _ => none
def sAug (i : Nat) (g : OF) (f : EF) : SF := fun δ => match δ.sl[i]? with
  | some (some (.fz a)) => (f δ).bind fun p => (der p.2 p.1).bind fun b => (g p.2 a b).map fun r => (.nx, { r.2 with sl := r.2.sl.set i (some r.1) })
  | _ => none
theorem pds_aug (i : Nat) {x : Str} {op : Operator} {g : OF} {pos' : Pos} (ho : OpR X (inplaceOp op) (rD X.K X.mg g)) (hN : X.N.Nodup) (he : PD X e f) (hi : X.N[i]? = some x := by rfl) (hx : Loc X.env.scope x := by first | exact Or.inl rfl | exact Or.inr rfl)
    (hf : X.fn x = true ∨ X.env.scope.names.lookup x = some .local := by first | exact .inl rfl | exact .inr rfl) : PDS X (.AugAssign (.Name x pos') op e pos) (sAug i g f) :=
  PS.weak (ps_aug (ti := rD X.K X.mg g) hN hi hx he (fun pins s σ H x y v u Q I rx ry h => ho pins s σ H x y v u Q I rx ry h) hf) fun D σ H h => by
  obtain ⟨B, F, ad, δ, r, δ', S, e, k⟩ := h
  unfold sAug at e
  split at e
  · rename_i a ha
    obtain ⟨⟨y, δ1⟩, e1, e⟩ := Option.bind_eq_some_iff.mp e
    obtain ⟨b, e2, e⟩ := Option.bind_eq_some_iff.mp e
    obtain ⟨⟨z, δ2⟩, e3, e⟩ := Option.map_eq_some_iff.mp e
    cases e
    obtain ⟨v, h1, h2⟩ := S.slot i _ ha
    refine ⟨v, h1, B, F, ad, δ, y, δ1, S, e1, fun B1 ad1 w H1 s1 p1 S1 r1 => ?_⟩
    exact ⟨B1, F, ad1, σ, δ1, a, b, z, δ2, S1, Rp.vw S1.exB (Rp.mono s1 _ _ h2), S1.vw r1 e2, e3, fun B2 ad2 u H2 s2 p2 S2 r2 => k B2 ad2 _ H2 (s1.trans s2) (p1.trans p2) (S2.setS r2)⟩
  · cases e
theorem od_iadd : OpR X (inplaceOp .Add) (rD X.K X.mg (addI)) := by
  intro pins s σ H x y v u Q I rx ry h
  obtain ⟨B, F, ad, σ', δ, dx, dy, r, δ', S, vx, vy, e, k⟩ := h
  unfold addI at e
  split at e
  · rename_i i j
    cases e
    exact iop_add pins s σ H x y v u Q I rx ry ⟨i, j, vx, vy, here (d := .int (i + j)) S rfl k⟩
  · cases e
end
end PK

namespace PK
open PySem L2 PySem.Spec PyProof.Rows

/-! ### fields, properties, methods -/
theorem lookup_zip {K : PySem.W.Frag} {mg : Str → Option Value} {B : Hp} : ∀ {ns : List Str} {ds : List D} {xs : List V} {f : Str} {d : D}, Rps K mg B ds xs → (ns.zip ds).lookup f = some d → ∃ v, (ns.zip xs).lookup f = some v ∧ Rp K mg B d v
  | [], ds, xs, f, d, r, e => by simp at e
  | n :: ns, [], xs, f, d, r, e => by simp at e
  | n :: ns, d0 :: ds, xs, f, d, r, e => by
    obtain ⟨v, w, rfl, h2, h3⟩ := r
    rw [List.zip_cons_cons, List.lookup_cons] at e ⊢
    by_cases h : f == n
    · simp only [h] at e ⊢
      cases e
      exact ⟨v, rfl, h2⟩
    · simp only [h] at e ⊢
      exact lookup_zip h3 e
theorem lookup_none {ns : List Str} : ∀ {xs : List V} {f : Str}, ns.contains f = false → (ns.zip xs).lookup f = none := by
  induction ns with
  | nil => intro xs f _; simp
  | cons n ns ih =>
    intro xs f h
    cases xs with
    | nil => simp
    | cons x xs =>
      rw [List.contains_cons, Bool.or_eq_false_iff] at h
      rw [List.zip_cons_cons, List.lookup_cons, h.1]
      exact ih h.2
def dFld (c f : Str) (fe : EF) : EF := fun δ => (fe δ).bind fun p => match p.1 with
  | .fz (.ins c' ns ds) => if c' = c then ((ns.zip ds).lookup f).map fun d => (.fz d, p.2) else none
  | _ => none
section
variable {X : Cx} {e o : Expr} {f fo : EF} {pos p apos : Pos} {es : List Expr} {fs : AF} {c m : Str} {C : Addr}
theorem pd_fld {fn : Str} (he : PD X e f) (hC : X.mg c = some (.ref C)) (cl : Cls X.K C) (na : NoAttr X.K C fn) (hb : attributeBase e fn X.env (eval e X.env) = eval e X.env := by rfl) : PD X (.Attribute e fn pos) (dFld c fn f) :=
  PE.weak (pe_fld he hb) fun σ H Q h => by
  obtain ⟨B, F, ad, δ, r, δ', S, e, k⟩ := h
  unfold dFld at e
  obtain ⟨⟨x, δ1⟩, e1, e⟩ := Option.bind_eq_some_iff.mp e
  refine ⟨B, F, ad, δ, x, δ1, S, e1, fun B1 ad1 v1 H1 s1 p1 S1 r1 => ?_⟩
  cases x with
  | rf k => cases e
  | fz d =>
    cases d with
    | ins c' ns ds =>
      simp only at e
      split at e
      · rename_i hc
        obtain ⟨d, e2, e3⟩ := Option.map_eq_some_iff.mp e
        cases e3
        obtain ⟨a, C', dx, xs, h1, h2, h3, h4, h5⟩ := r1
        rw [hc, hC] at h2
        cases h2
        obtain ⟨v, g1, g2⟩ := lookup_zip h5 e2
        exact ⟨a, C, dx, _, v, h1, S1.exB _ _ h3, cl, na, g1, k B1 ad1 v H1 s1 p1 S1 g2⟩
      · cases e
    | _ => cases e
/-- a call with the receiver ahead -/
def recvOk (c m : Str) : Vl → Bool
  | .fz (.ins c' ns _) => decide (c' = c) && !ns.contains m
  | _ => false
def dMeth (mm : Bool) (c m : Str) (n : Nat) (G : GF) (fo : EF) (fa : AF) : EF := fun δ => (fo δ).bind fun p => if recvOk c m p.1 then (fa p.2).bind fun q => if (p.1 :: q.1).length = n then callG mm G (p.1 :: q.1) q.2 else none else none
theorem recv_of {K : PySem.W.Frag} {mg : Str → Option Value} {B H : Hp} {ad : List Addr} {r : Vl} {v : V} (hC : mg c = some (.ref C)) (s : Same B H) (h : RpV K mg B ad r v) (e : recvOk c m r = true) : ∃ a dx fs, v = .ref a ∧ H a = some (.ins C dx fs) ∧ fs.lookup m = none := by
  cases r with
  | rf k => cases e
  | fz d =>
    cases d with
    | ins c' ns ds =>
      simp only [recvOk, Bool.and_eq_true, decide_eq_true_eq, Bool.not_eq_true'] at e
      obtain ⟨a, C', dx, xs, h1, h2, h3, h4, h5⟩ := h
      rw [e.1, hC] at h2
      cases h2
      exact ⟨a, dx, _, h1, s _ _ h3, lookup_none e.2⟩
    | _ => cases e
theorem pd_meth {k n : Nat} {g : Addr} {fd : FuncData} {ps : List Str} {G : GF} {pl : Sem Bool} {e : Expr} (mm : Bool) (ho : PD X o fo) (hC : X.mg c = some (.ref C)) (cl : Cls X.K C) (hm : Meth X.K C m g) (Fk : FnOk X.prog X.w X.K X.mg X.base CX0 k g fd ps (spD X.K X.mg n G)) (hr : Room k X.A)
    (hb : Binds X.K fd ps []) (ha : PDA X (e :: es) fs)
    (hst : starEach (e :: es) X.env = (false, eval e X.env) :: starEach es X.env := by rfl) (hpl : (backTo pos (starEach es X.env)).any (·.1) = false := by rfl)
    (ht : eval (.Call (.Attribute o m apos) (e :: es) [] pos) X.env = (do
      let ov ← eval o X.env
      standAt apos.atName
      let (f, first) ← holding [ov] (getMethod ov m pl)
      callWith pos f first (backTo pos (starEach (e :: es) X.env)) (backToKw pos (keywordEach [] X.env))) := by rfl) :
    PD X (.Call (.Attribute o m apos) (e :: es) [] pos) (dMeth mm c m n G fo fs) := PE.weak (pe_meth ho cl hm Fk hr hb .nil pass0 ha hst hpl ht) fun σ H Q h => by
  obtain ⟨B, F, ad, δ, r, δ', S, e, k⟩ := h
  unfold dMeth at e
  obtain ⟨⟨x, δ1⟩, e1, e⟩ := Option.bind_eq_some_iff.mp e
  split at e
  · rename_i hx
    obtain ⟨⟨rs, δ2⟩, e2, e⟩ := Option.bind_eq_some_iff.mp e
    split at e
    · rename_i hl
      refine ⟨B, F, ad, δ, x, δ1, S, e1, fun B1 ad1 v1 H1 s1 p1 S1 r1 => ?_⟩
      obtain ⟨a, dx, fs, h1, h2, h3⟩ := recv_of hC S1.exB r1 hx
      refine ⟨a, dx, fs, h1, h2, h3, B1, F, ad1, δ1, rs, δ2, S1, e2, fun B2 ad2 vs H2 s2 p2 S2 r2 => ?_⟩
      show spD X.K X.mg n G (v1 :: (vs ++ [])) H2 Q E0
      rw [List.append_nil]
      have rr : RpVs X.K X.mg B2 ad2 (x :: rs) (v1 :: vs) := ⟨v1, vs, rfl, r1.mono s2 p2, r2⟩
      exact call_w S2 rr (by rw [RpVs.length rr]; exact hl) e fun B' ad' v H' s3 p3 S' r' => k B' ad' v H' ((s1.trans s2).trans s3) ((p1.trans p2).trans p3) S' r'
    · cases e
  · cases e
theorem pd_meth0 {k n : Nat} {g : Addr} {fd : FuncData} {ps : List Str} {G : GF} {pl : Sem Bool} (mm : Bool) (ho : PD X o fo) (hC : X.mg c = some (.ref C)) (cl : Cls X.K C) (hm : Meth X.K C m g) (Fk : FnOk X.prog X.w X.K X.mg X.base CX0 k g fd ps (spD X.K X.mg n G)) (hr : Room k X.A)
    (hb : Binds X.K fd ps [])
    (ht : eval (.Call (.Attribute o m apos) [] [] pos) X.env = (do
      let ov ← eval o X.env
      standAt apos.atName
      let (f, first) ← holding [ov] (getMethod ov m pl)
      callWith pos f first (backTo pos (starEach [] X.env)) (backToKw pos (keywordEach [] X.env))) := by rfl) :
    PD X (.Call (.Attribute o m apos) [] [] pos) (dMeth mm c m n G fo aNil) := PE.weak (pe_meth0 ho cl hm Fk hr hb .nil pass0 ht) fun σ H Q h => by
  obtain ⟨B, F, ad, δ, r, δ', S, e, k⟩ := h
  unfold dMeth at e
  obtain ⟨⟨x, δ1⟩, e1, e⟩ := Option.bind_eq_some_iff.mp e
  split at e
  · rename_i hx
    have e' : (if [x].length = n then callG mm G [x] δ1 else none) = some (r, δ') := e
    split at e'
    · rename_i hl
      refine ⟨B, F, ad, δ, x, δ1, S, e1, fun B1 ad1 v1 H1 s1 p1 S1 r1 => ?_⟩
      obtain ⟨a, dx, fs, h1, h2, h3⟩ := recv_of hC S1.exB r1 hx
      refine ⟨a, dx, fs, h1, h2, h3, ?_⟩
      show spD X.K X.mg n G [v1] H1 Q E0
      have rr : RpVs X.K X.mg B1 ad1 [x] [v1] := ⟨v1, [], rfl, r1, rfl⟩
      exact call_w S1 rr hl e' fun B' ad' v H' s3 p3 S' r' => k B' ad' v H' (s1.trans s3) (p1.trans p3) S' r'
    · cases e'
  · cases e
/-- a property -/
theorem pd_prop {k n : Nat} {g pp : Addr} {fd : FuncData} {ps : List Str} {G : GF} {fn : Str} (mm : Bool) (ho : PD X o fo) (hC : X.mg c = some (.ref C)) (cl : Cls X.K C) (hp : PropOf X.K C fn pp g) (Fk : FnOk X.prog X.w X.K X.mg X.base CX0 k g fd ps (spD X.K X.mg n G)) (hr : Room (k + 1) X.A)
    (hb : Binds X.K fd ps []) (hab : attributeBase o fn X.env (eval o X.env) = eval o X.env := by rfl) : PD X (.Attribute o fn pos) (dMeth mm c "" n G fo aNil) := PE.weak (pe_prop ho cl hp Fk hr hb .nil pass0 hab) fun σ H Q h => by
  obtain ⟨B, F, ad, δ, r, δ', S, e, k⟩ := h
  unfold dMeth at e
  obtain ⟨⟨x, δ1⟩, e1, e⟩ := Option.bind_eq_some_iff.mp e
  split at e
  · rename_i hx
    have e' : (if [x].length = n then callG mm G [x] δ1 else none) = some (r, δ') := e
    split at e'
    · rename_i hl
      refine ⟨B, F, ad, δ, x, δ1, S, e1, fun B1 ad1 v1 H1 s1 p1 S1 r1 => ?_⟩
      obtain ⟨a, dx, fs, h1, h2, h3⟩ := recv_of hC S1.exB r1 hx
      refine ⟨a, dx, fs, h1, h2, ?_⟩
      subst h1
      show spD X.K X.mg n G [.ref a] H1 Q E0
      have rr : RpVs X.K X.mg B1 ad1 [x] [.ref a] := ⟨.ref a, [], rfl, r1, rfl⟩
      exact call_w S1 rr hl e' fun B' ad' v H' s3 p3 S' r' => k B' ad' v H' (s1.trans s3) (p1.trans p3) S' r'
    · cases e'
  · cases e
end

/-! ### the making of an instance: __init__ -/
/-- the slots, the lists and the fields so far -/
structure Il where
  dl : Dl
  ns : List Str
  ds : List D
abbrev IFn := Il → Option Il
/-- self stands at slot 0, with the fields so far; a statement of an __init__ that falls through -/
def tIn (K : PySem.W.Frag) (mg : Str → Option Value) (c : Str) (f : IFn) : TS := fun D σ H => ∃ B F ad i i' x C dx xs, mg c = some (.ref C) ∧ σ[0]? = some (some (.ref x)) ∧ x ≠ dx ∧ F x = none ∧ F dx = none ∧
  SRep K mg B (upd (upd F dx (.own x)) x (.ins C dx (i.ns.zip xs))) ad σ i.dl H ∧ i.ns.length = xs.length ∧ Rps K mg B i.ds xs ∧ f i = some i' ∧
  ∀ B' ad' σ' H' ys, Same B B' → Pre ad ad' → σ'[0]? = some (some (.ref x)) → SRep K mg B' (upd (upd F dx (.own x)) x (.ins C dx (i'.ns.zip ys))) ad' σ' i'.dl H' → i'.ns.length = ys.length → Rps K mg B' i'.ds ys → D.nx σ' H'
def iSeq (f g : IFn) : IFn := fun i => (f i).bind g
def iDrop (f : EF) : IFn := fun i => (f i.dl).map fun p => { i with dl := p.2 }
def iSet (j : Nat) (f : EF) : IFn := fun i => (f i.dl).map fun p => { i with dl := { p.2 with sl := p.2.sl.set (j + 1) (some p.1) } }
def iFld (fn : Str) (f : EF) : IFn := fun i => if i.ns.contains fn then none else if i.ns.length < 900 then (f i.dl).bind fun p => (frz p.2 p.1).map fun q => ⟨q.2, i.ns ++ [fn], i.ds ++ [q.1]⟩ else none
section
variable {X : Cx} {e : Expr} {f : EF} {pos : Pos} {st : Stmt} {rest : List Stmt} {c : Str} {C : Addr} {g h : IFn}
theorem pin_one (h1 : PS X st (tIn X.K X.mg c g)) : PSs X [st] (tIn X.K X.mg c g) := pss_one h1
theorem pin_cons (h1 : PS X st (tIn X.K X.mg c g)) (h2 : PSs X rest (tIn X.K X.mg c h)) : PSs X (st :: rest) (tIn X.K X.mg c (iSeq g h)) := PSs.weak (pss_cons h1 h2) fun D σ H h => by
  obtain ⟨B, F, ad, i, i', x, C, dx, xs, hC, h0, hne, hF1, hF2, S, hl, r, e, k⟩ := h
  unfold iSeq at e
  obtain ⟨i1, e1, e2⟩ := Option.bind_eq_some_iff.mp e
  refine ⟨B, F, ad, i, i1, x, C, dx, xs, hC, h0, hne, hF1, hF2, S, hl, r, e1, fun B1 ad1 σ1 H1 ys s1 p1 z1 S1 l1 r1 => ?_⟩
  exact ⟨B1, F, ad1, i1, i', x, C, dx, ys, hC, z1, hne, hF1, hF2, S1, l1, r1, e2, fun B2 ad2 σ2 H2 ws s2 p2 z2 S2 l2 r2 => k B2 ad2 σ2 H2 ws (s1.trans s2) (p1.trans p2) z2 S2 l2 r2⟩
theorem pin_drop (he : PD X e f) (hs : swapsWith e none pos.line X.env = pure false := by rfl) : PS X (.Expr e pos) (tIn X.K X.mg c (iDrop f)) := PS.weak (ps_expr he hs) fun D σ H h => by
  obtain ⟨B, F, ad, i, i', x, C, dx, xs, hC, h0, hne, hF1, hF2, S, hl, r, e, k⟩ := h
  unfold iDrop at e
  obtain ⟨⟨y, δ1⟩, e1, e2⟩ := Option.map_eq_some_iff.mp e
  cases e2
  exact ⟨B, _, ad, i.dl, y, δ1, S, e1, fun B1 ad1 v H1 s1 p1 S1 r1 => k B1 ad1 σ H1 xs s1 p1 h0 S1 hl (Rps.mono s1 _ _ r)⟩
theorem pin_set (j : Nat) {x : Str} {pos' : Pos} (he : PD X e f) (hN : X.N.Nodup) (hi : X.N[j + 1]? = some x := by rfl) (hx : Loc X.env.scope x := by first | exact Or.inl rfl | exact Or.inr rfl) (hs : swapsWith e (some (.Name x pos')) pos.line X.env = pure false := by rfl)
    (hf : X.fn x = true ∨ X.env.scope.names.lookup x = some .local := by first | exact .inl rfl | exact .inr rfl) : PS X (.Assign [.Name x pos'] e pos) (tIn X.K X.mg c (iSet j f)) := PS.weak (ps_set hN hi hx he hs hf) fun D σ H h => by
  obtain ⟨B, F, ad, i, i', x, C, dx, xs, hC, h0, hne, hF1, hF2, S, hl, r, e, k⟩ := h
  unfold iSet at e
  obtain ⟨⟨y, δ1⟩, e1, e2⟩ := Option.map_eq_some_iff.mp e
  cases e2
  exact ⟨B, _, ad, i.dl, y, δ1, S, e1, fun B1 ad1 v H1 s1 p1 S1 r1 => k B1 ad1 _ H1 xs s1 p1 (by rw [List.getElem?_set_ne (by omega)]; exact h0) (S1.setS r1) hl (Rps.mono s1 _ _ r)⟩
theorem putF_new {fn : Str} {v : V} : ∀ {ns : List Str} {xs : List V}, ns.length = xs.length → ns.contains fn = false → putF fn v (ns.zip xs) = (ns ++ [fn]).zip (xs ++ [v])
  | [], [], _, _ => rfl
  | [], _ :: _, h, _ => by simp at h
  | _ :: _, [], h, _ => by simp at h
  | n :: ns, x :: xs, h, g => by
    rw [List.contains_cons, Bool.or_eq_false_iff] at g
    show (if n = fn then _ else (n, x) :: putF fn v (ns.zip xs)) = _
    rw [if_neg (fun z => by
      have := g.1
      rw [z] at this
      simp at this), putF_new (by simpa using h) g.2]
    rfl
theorem SRep.selfSet {K : PySem.W.Frag} {mg : Str → Option Value} {B F : Hp} {ad : List Addr} {σ : L2.St} {δ : Dl} {H : Hp} {x dx : Addr} {o u : HO} (S : SRep K mg B (upd (upd F dx (.own x)) x o) ad σ δ H) : SRep K mg B (upd (upd F dx (.own x)) x u) ad σ δ (upd H x u) := S.setF
theorem pin_fld {fn : Str} {pos' ps : Pos} (he : PD X e f) (hC : X.mg c = some (.ref C)) (cl : Cls X.K C) (na : NoAttr X.K C fn) (h0 : X.N[0]? = some ("self" : Str) := by rfl) (hv : Vis X.env.scope "self" := by first | exact Or.inl rfl | exact Or.inr (Or.inl rfl) | exact Or.inr (Or.inr rfl))
    (hs : swapsWith e (some (.Attribute (.Name "self" ps) fn pos')) pos.line X.env = pure false := by rfl) : PS X (.Assign [.Attribute (.Name "self" ps) fn pos'] e pos) (tIn X.K X.mg c (iFld fn f)) := PS.weak (ps_fld (pe_var h0 hv) he hs) fun D σ H h => by
  obtain ⟨B, F, ad, i, i', x, C', dx, xs, hC', h0, hne, hF1, hF2, S, hl, r, e, k⟩ := h
  rw [hC] at hC'
  cases hC'
  unfold iFld at e
  split at e
  · cases e
  · rename_i hc
    split at e
    · rename_i hfew
      obtain ⟨⟨y, δ1⟩, e1, e⟩ := Option.bind_eq_some_iff.mp e
      obtain ⟨⟨d, δ2⟩, e2, e3⟩ := Option.map_eq_some_iff.mp e
      cases e3
      refine ⟨B, _, ad, i.dl, y, δ1, S, e1, fun B1 ad1 v H1 s1 p1 S1 r1 => ?_⟩
      obtain ⟨B2, s2, S2, r2⟩ := S1.frz r1 e2
      have hx : H1 x = some (.ins C dx (i.ns.zip xs)) := S2.exF x _ upd_same
      refine ⟨.ref x, h0, x, C, dx, _, rfl, hx, cl, na, ?_, ?_⟩
      · rw [List.length_zip]
        omega
      · rw [putF_new hl (by simpa using hc)]
        have sA := s1.trans s2
        exact k B2 ad1 σ _ (xs ++ [v]) sA p1 h0 S2.setF (by simp [hl]) (Rps.app (Rps.mono sA _ _ r) (Rps.one r2))
    · cases e
end
/-- the promise of an __init__ -/
abbrev GIF := List Vl → List (List D) → Option (List Str × List D × List (List D))
def spI (K : PySem.W.Frag) (mg : Str → Option Value) (c : Str) (n : Nat) (G : GIF) : Sp := fun vs H Q _ => vs.length = n ∧ ∃ B F ad rs cs ns ds cs' x C dx ws, vs = .ref x :: ws ∧ mg c = some (.ref C) ∧ x ≠ dx ∧ F x = none ∧ F dx = none ∧
  SRep K mg B (upd (upd F dx (.own x)) x (.ins C dx [])) ad [] ⟨[], cs.map some⟩ H ∧ RpVs K mg B ad rs ws ∧ G rs cs = some (ns, ds, cs') ∧ cs'.length = cs.length ∧
  ∀ B' H' xs, Same B B' → SRep K mg B' (upd (upd F dx (.own x)) x (.ins C dx (ns.zip xs))) ad [] ⟨[], cs'.map some⟩ H' → ns.length = xs.length → Rps K mg B' ds xs → Q .non H'
def initD (n : Nat) (f : IFn) : GIF := fun rs cs => (f ⟨⟨none :: rs.map some ++ List.replicate (n - rs.length) none, cs.map some⟩, [], []⟩).bind fun i => (lives i.dl (List.range cs.length)).map fun cs' => (i.ns, i.ds, cs')
section
variable {P : Program} {w : World} {K : PySem.W.Frag} {mg : Str → Option Value} {base : Heap}
theorem init_okD {c qual : Str} {st : Stmt} {f : Addr} {fd : FuncData} {N ps : List Str} {k : Nat} {fi : IFn} (F : Fun K "__init__" qual st f fd) (S : FnScope N ps (defScope st)) (hp : 0 < ps.length) (hNp : ps.length ≤ N.length)
    (hbody : ∀ (cdv : Value) (A : Around) (outer : List Env) (s : Shared) (H : Hp) (E : XK), Room k (A.deeper (envOfC qual (defScope st) s.heap.objs.size f cdv)) → PSs (cxOf CX0 P w K mg base N qual (defScope st) f cdv A outer s H E).nox (defBody st) (tIn K mg c fi)) :
    FnOk P w K mg base CX0 (k + 1) f fd ps (spI K mg c ps.length (PK.initD (N.length - 1) fi)) := by
  refine F.ok S (fun vs H Q E h => h.1) (fun cdv A outer s H vs Q E hr h => ?_)
  refine ⟨_, hbody cdv A outer s H E hr, ?_⟩
  obtain ⟨hlen, B, Fr, ad, rs, cs, ns, ds, cs', x, C, dx, ws, rfl, hC, hne, hF1, hF2, S0, rv, e, hl, kk⟩ := h
  unfold PK.initD at e
  obtain ⟨i', e1, e⟩ := Option.bind_eq_some_iff.mp e
  obtain ⟨cs2, e2, e3⟩ := Option.map_eq_some_iff.mp e
  cases e3
  have hadl : ad.length = cs.length := by
    have := S0.len
    simpa using this
  have hwl := RpVs.length rv
  have S1 := rps_start (δ := ⟨[], cs.map some⟩) (n := N.length - 1) S0 rv
  have hst : start N (.ref x :: ws) = some (.ref x) :: (ws.map some ++ List.replicate (N.length - 1 - ws.length) none) := by
    unfold L2.start
    rw [List.map_cons, List.cons_append, List.length_cons]
    congr 3
    omega
  have S2 : SRep K mg B (upd (upd Fr dx (.own x)) x (.ins C dx [])) ad (start N (.ref x :: ws)) ⟨none :: rs.map some ++ List.replicate (N.length - 1 - rs.length) none, cs.map some⟩ H := by
    rw [hst]
    refine ⟨S1.exB, S1.exF, S1.dis, S1.nd, S1.len, by simp [hwl], S1.cell, S1.dead, fun j d ej => ?_⟩
    cases j with
    | zero => simp at ej
    | succ j =>
      obtain ⟨v, h1, h2⟩ := S1.slot j d (by simpa using ej)
      exact ⟨v, by simpa using h1, h2⟩
  refine ⟨B, Fr, ad, (⟨⟨none :: rs.map some ++ List.replicate (N.length - 1 - rs.length) none, cs.map some⟩, [], []⟩ : Il), i', x, C, dx, [], hC, by rw [hst]; rfl, hne, hF1, hF2, S2, rfl, rfl, e1, fun B' ad' σ' H' ys sB pA h0 S' hl' r' => ?_⟩
  obtain ⟨m, rfl⟩ := pA
  have base : SRep K mg B' (upd (upd Fr dx (.own x)) x (.ins C dx (i'.ns.zip ys))) ad [] ⟨[], cs'.map some⟩ H' := by
    have := S'.pick e2 List.nodup_range
    rw [← hadl, addrs_range] at this
    exact this
  exact kk B' H' ys sB base hl' r'
end
def makeG (c : Str) (G : GIF) (rs : List Vl) (δ : Dl) : Option (Vl × Dl) := if (refs rs).Nodup then (lives δ (refs rs)).bind fun cs => (G (renum 0 rs) cs).bind fun q => if q.2.2.length = cs.length then
    some (.fz (.ins c q.1 q.2.1), { δ with st := putAll δ.st (refs rs) q.2.2 }) else none
  else none
def dMake (c : Str) (n : Nat) (G : GIF) (fa : AF) : EF := fun δ => (fa δ).bind fun p => if p.1.length + 1 = n then makeG c G p.1 p.2 else none
section
variable {K : PySem.W.Frag} {mg : Str → Option Value} {B B' F : Hp} {ad ad' : List Addr} {σ : L2.St} {δ δ' : Dl} {H H' : Hp} {p : Addr}
/-- what nobody has, given up -/
theorem SRep.own2 {x dx : Addr} {o u : HO} (S : SRep K mg B F ad σ δ H) (hx : H x = none) (hd : H dx = none) (hne : dx ≠ x) : SRep K mg B (upd (upd F dx u) x o) ad σ δ (upd (upd H dx u) x o) := by
  have S1 := S.allocF (o := u) hd
  exact S1.allocF (by rw [upd_ne (Ne.symm hne)]; exact hx)
theorem make_w {c : Str} {C : Addr} {G : GIF} {rs : List Vl} {vs : List V} {r : Vl} {n : Nat} {Q : VK} {E : XK} {x dx : Addr} (hC : mg c = some (.ref C)) (S : SRep K mg B F ad σ δ H) (hv : RpVs K mg B ad rs vs) (hn : vs.length + 1 = n) (e : makeG c G rs δ = some (r, δ')) (hx : H x = none) (hd : H dx = none) (hne : dx ≠ x)
    (k : ∀ B' ad' v H', Same B B' → Pre ad ad' → SRep K mg B' F ad' σ δ' H' → RpV K mg B' ad' r v → Q v H') : spI K mg c n G (.ref x :: vs) (upd (upd H dx (.own x)) x (.ins C dx [])) (fun v H2 => v = .non ∧ Q (.ref x) H2) E := by
  unfold makeG at e
  split at e
  · rename_i hnd
    obtain ⟨cs, e1, e⟩ := Option.bind_eq_some_iff.mp e
    obtain ⟨⟨ns, ds, cs'⟩, e2, e⟩ := Option.bind_eq_some_iff.mp e
    split at e
    · rename_i hl
      have hl' : cs'.length = cs.length := hl
      cases e
      have hlt := S.live_lt e1
      have Sd := (S.down e1 hnd).own2 (o := .ins C dx []) (u := .own x) hx hd hne
      have fx : frameOf F ad δ (refs rs) H x = none := (S.down e1 hnd).exF.free hx
      have fd : frameOf F ad δ (refs rs) H dx = none := (S.down e1 hnd).exF.free hd
      refine ⟨hn, B, frameOf F ad δ (refs rs) H, addrs ad (refs rs), renum 0 rs, cs, ns, ds, cs', x, C, dx, vs, rfl, hC, Ne.symm hne, fx, fd, Sd, ?_, e2, hl', fun B' H' xs sB S' hl2 rx => ⟨rfl, ?_⟩⟩
      · exact renum_ok (ks := []) (by simpa using hlt) hv
      · -- the instance becomes known, its dict is let go
        have hxH : H' x = some (.ins C dx (ns.zip xs)) := S'.exF x _ upd_same
        have hxB : B' x = none := S'.dis x _ upd_same
        have s2 : Same B' (upd B' x (.ins C dx (ns.zip xs))) := same_new hxB
        have nx : ∀ a ∈ addrs ad (refs rs), a ≠ x := fun a ha z => by
          subst z
          obtain ⟨j, hj⟩ := List.getElem?_of_mem ha
          have hjl : j < cs'.length := by
            have h1 := S'.len
            rw [List.length_map] at h1
            rw [← h1]
            exact (List.getElem?_eq_some_iff.mp hj).1
          obtain ⟨q, ys, g1, g2, _, g4, g5⟩ := S'.cell j cs'[j] (by
            show (cs'.map some)[j]? = _
            rw [List.getElem?_map, List.getElem?_eq_getElem hjl]
            rfl)
          rw [hj] at g1
          cases g1
          rw [upd_same] at g5
          cases g5
        have fKeep : ∀ a o, frameOf F ad δ (refs rs) H a = some o → upd (upd (frameOf F ad δ (refs rs) H) dx (.own x)) x (.ins C dx (ns.zip xs)) a = some o := fun a o e => by
          rw [upd_ne (ne_of_none e fx), upd_ne (ne_of_none e fd)]
          exact e
        have S3 : SRep K mg (upd B' x (.ins C dx (ns.zip xs))) (frameOf F ad δ (refs rs) H) (addrs ad (refs rs)) [] ⟨[], cs'.map some⟩ H' := by
          refine ⟨fun a o e => ?_, fun a o e => S'.exF a o (fKeep a o e), fun a o e => ?_, S'.nd, S'.len, rfl, fun j es ej => ?_, fun j q h1 h2 => ?_, fun j d ej => by simp at ej⟩
          · by_cases ha : a = x
            · subst ha
              rw [upd_same] at e
              cases e
              exact hxH
            · rw [upd_ne ha] at e
              exact S'.exB a o e
          · rw [upd_ne (ne_of_none e fx)]
            exact S'.dis a o (fKeep a o e)
          · obtain ⟨q, ys, g1, g2, g3, g4, g5⟩ := S'.cell j es ej
            have hq := nx q (List.mem_of_getElem? g1)
            refine ⟨q, ys, g1, g2, Rps.mono s2 _ _ g3, by rw [upd_ne hq]; exact g4, ?_⟩
            cases z : frameOf F ad δ (refs rs) H q with
            | none => rfl
            | some o =>
              rw [fKeep q o z] at g5
              cases g5
          · have := S'.dead j q h1 h2
            by_cases hq : q = x
            · rw [hq, upd_same]; simp
            · rw [upd_ne hq]; exact this
        have sAll : Same B (upd B' x (.ins C dx (ns.zip xs))) := sB.trans s2
        have S4 := S.up (m := []) (ms := []) e1 hnd hl' sAll (by simpa using S3)
        simp only [List.append_nil, List.map_nil] at S4
        exact k _ ad (.ref x) H' sAll (Pre.refl _) S4 ⟨x, C, dx, xs, rfl, hC, upd_same, hl2, Rps.mono s2 _ _ rx⟩
    · cases e
  · cases e
end
section
variable {X : Cx} {e : Expr} {pos p : Pos} {es : List Expr} {fs : AF} {c : Str} {C : Addr}
theorem pd_make {k n : Nat} {f : Addr} {fd : FuncData} {ps : List Str} {G : GIF} (M : Mk X.K C f) (Fk : FnOk X.prog X.w X.K X.mg X.base CX0 k f fd ps (spI X.K X.mg c n G)) (hr : Room (k + 1) X.A) (hg : Gl X c) (hm : X.mg c = some (.ref C)) (hb : Binds X.K fd ps [])
    (ha : PDA X (e :: es) fs) (hdb : (c == ("__debug__" : Str)) = false := by decide) (he : starEach (e :: es) X.env = (false, eval e X.env) :: starEach es X.env := by rfl) (hpl : (backTo pos (starEach es X.env)).any (·.1) = false := by rfl) :
    PD X (.Call (.Name c p) (e :: es) [] pos) (dMake c n G fs) := PE.weak (pe_make M Fk hr hg hm hb .nil pass0 ha hdb he hpl) fun σ H Q h => by
  obtain ⟨B, F, ad, δ, r, δ', S, e, k⟩ := h
  unfold dMake at e
  obtain ⟨⟨rs, δ1⟩, e1, e⟩ := Option.bind_eq_some_iff.mp e
  split at e
  · rename_i hl
    refine ⟨B, F, ad, δ, rs, δ1, S, e1, fun B1 ad1 vs H1 s1 p1 S1 r1 => fun x dx hx hd hne => ?_⟩
    rw [List.append_nil]
    exact make_w hm S1 r1 (by rw [RpVs.length r1]; exact hl) e hx hd hne fun B' ad' v H' s2 p2 S' r' => k B' ad' v H' (s1.trans s2) (p1.trans p2) S' r'
  · cases e
end
end PK

namespace PK
open PySem L2 PySem.Spec PyProof.Rows

/-! ### a list or a tuple walked -/
def iSeqLT (K : PySem.W.Frag) (tl : TE) : TI := fun σ H R => tl σ H fun x H1 => ∃ a, x = .ref a ∧ (((∃ xs, SqL K H1 a xs) ∧ R (Itl K a) H1) ∨ ((∃ xs, SqT K H1 a xs) ∧ R (Itt K a) H1))
section
variable {X : Cx} {tgE iter : Expr}
theorem pi_seq {l : Expr} {tl : TE} (hl : PE X l tl) : PI X tgE l (iSeqLT X.K tl) := by
  refine ⟨fun pins s σ H R I h => ?_⟩
  refine thn (hl.run pins s σ H _ I h) fun v s1 ⟨x, H1, I1, r1, q1⟩ => ?_
  obtain ⟨a, e, q1⟩ := q1
  subst e
  cases r1
  rcases q1 with ⟨⟨xs, hq⟩, q⟩ | ⟨⟨xs, hq⟩, q⟩
  · obtain ⟨its, rv, p, hz⟩ := I1.list hq
    refine wpAny_pyIter_list p.isList ?_
    refine ⟨s1.heap.objs.size, [s1.heap.objs.size], _, _, H1, rfl, I1.kept (t' := s1.toks) fun b o e => Heap.get?_push_of_some _ e, turn_list a _, ⟨_, Heap.get?_push_size _ rfl, rfl, rfl⟩, fun b hb => ?_, q⟩
    have e : b = s1.heap.objs.size := by simpa using hb
    subst e
    exact I1.fpOk (Nat.le_refl _) (I1.hok.fresh (Nat.le_refl _))
  · obtain ⟨its, rv, p, hz⟩ := I1.tuple hq
    refine wpAny_pyIter_tuple (show s1.heap.IsTuple a its.toArray from p) ?_
    refine ⟨s1.heap.objs.size, [s1.heap.objs.size], _, _, H1, rfl, I1.kept (t' := s1.toks) fun b o e => Heap.get?_push_of_some _ e, turn_tuple a _, ⟨_, Heap.get?_push_size _ rfl, rfl, rfl⟩, fun b hb => ?_, q⟩
    have e : b = s1.heap.objs.size := by simpa using hb
    subst e
    exact I1.fpOk (Nat.le_refl _) (I1.hok.fresh (Nat.le_refl _))
def iSq (f : EF) : IF := fun δ => (f δ).bind fun p => match p.1 with
  | .fz (.tup ds) => some (ds, [], p.2)
  | r => (srcOf p.2 r).map fun q => (q.1, q.2, p.2)
theorem pdi_seq {f : EF} (h : PD X iter f) : PDI X tgE iter (iSq f) := PI.weak (pi_seq h) fun σ H R h => by
  obtain ⟨B, F, ad, δ, it, ck, δ', S, e, hck, k⟩ := h
  unfold iSq at e
  obtain ⟨⟨r, δ1⟩, e1, e⟩ := Option.bind_eq_some_iff.mp e
  refine ⟨B, F, ad, δ, r, δ1, S, e1, fun B1 ad1 v H1 s1 p1 S1 r1 => ?_⟩
  simp only at e
  split at e
  · rename_i ds
    cases e
    obtain ⟨a, xs, h1, h2, h3⟩ := r1
    have hl := Rps.length h3
    refine ⟨a, h1, .inr ⟨⟨xs, SqT.of (S1.exB _ _ h2)⟩, ?_⟩⟩
    refine k B1 ad1 H1 (Itt X.K a) (fun H => SqT X.K H a xs) (YAt xs) s1 p1 S1 (by rw [← hl]; exact walk_tup) ?_ ?_
    · intro B2 F2 ad2 σ2 δ2 H2 s2 p2 S2 c
      exact SqT.of (S2.exB _ _ (s2 _ _ h2))
    · rintro i x B2 F2 ad2 σ2 δ2 H2 H3 s2 p2 S2 c hi ⟨rfl, hx⟩
      obtain ⟨d, d1, d2⟩ := Rps.back h3 hx
      exact ⟨B2, Same.refl _, S2, d, d1, Rp.mono s2 d x d2⟩
  · obtain ⟨⟨it', ck'⟩, e2, e⟩ := Option.map_eq_some_iff.mp e
    cases e
    obtain ⟨a, xs, h1, h2, h3, hl, h4⟩ := src_at S1 r1 e2
    refine ⟨a, h1, .inl ⟨⟨xs, SqL.of h2⟩, ?_⟩⟩
    refine k B1 ad1 H1 (Itl X.K a) (fun H => ∃ ys, ys.length = it'.length ∧ H a = some (.lst ys)) (fun i H x H' => ∃ ys, ys.length = it'.length ∧ H a = some (.lst ys) ∧ YAt ys i H x H') s1 p1 S1 (Walk.any fun ys hy => ?_) ?_ ?_
    · rw [← hy]
      exact (walk_list (K := X.K)).mono (fun H q => SqL.of q) fun _ _ _ _ _ _ y => y
    · intro B2 F2 ad2 σ2 δ2 H2 s2 p2 S2 c
      obtain ⟨ys, q1, q2⟩ := h4 B2 F2 ad2 σ2 δ2 H2 s2 p2 S2 c
      exact ⟨ys, Rps.length q2, q1⟩
    · rintro i x B2 F2 ad2 σ2 δ2 H2 H3 s2 p2 S2 c hi ⟨ys, hy1, hy2, rfl, hx⟩
      obtain ⟨zs, q1, q2⟩ := h4 B2 F2 ad2 σ2 δ2 H3 s2 p2 S2 c
      rw [q1] at hy2
      cases hy2
      obtain ⟨d, d1, d2⟩ := Rps.back q2 hx
      exact ⟨B2, Same.refl _, S2, d, d1, d2⟩
end

/-! ### own ==, own len, isinstance of an own class -/
def eqI (c : Str) (G : GF) : OF := fun δ x y => match x, y with
  | .ins c1 ns ds, .ins c2 ns2 ds2 => if c1 = c ∧ c2 = c then match G [.fz (.ins c1 ns ds), .fz (.ins c2 ns2 ds2)] [] with
      | some (.val (.bl b), []) => some (.fz (.bl b), δ)
      | _ => none
    else none
  | _, _ => none
theorem bo_eqI {c : Str} {G : GF} : BoolOf (eqI c G) := by
  intro δ x y r δ' e
  unfold eqI at e
  split at e
  · split at e
    · split at e
      · cases e; exact ⟨_, rfl⟩
      · cases e
    · cases e
  · cases e
section
variable {X : Cx} {e : Expr} {f : EF} {pos p : Pos} {c : Str} {C : Addr}
theorem od_eqI {k : Nat} {g : Addr} {fd : FuncData} {ps : List Str} {G : GF} (hC : X.mg c = some (.ref C)) (Fk : FnOk X.prog X.w X.K X.mg X.base CX0 k g fd ps (spD X.K X.mg 2 G)) (hr : Room k X.A)
    (hs : PySem.W.findIn X.K (.ref C) "__eq__" = some (some (.ref g))) (hf : PySem.W.isFn X.K (.ref g) = true) (hb : Binds X.K fd ps []) : OpR X (compareOp .Eq) (rD X.K X.mg (eqI c G)) := by
  intro pins s σ H x y v u Q I rx ry h
  obtain ⟨B, F, ad, σ', δ, dx, dy, r, δ', S, vx, vy, e, kk⟩ := h
  show wpAny (model X.prog X.w) X.A (richCompare .Eq v u) (EP X pins σ Q) X.xe s
  unfold eqI at e
  split at e
  · rename_i c1 ns ds c2 ns2 ds2
    split at e
    · rename_i hc
      obtain ⟨hc1, hc2⟩ := hc
      subst hc1 hc2
      split at e
      · rename_i b hG
        cases e
        obtain ⟨a1, C1, dx1, xs1, hx1, hx2, hx3, hx4, hx5⟩ := id vx
        obtain ⟨a2, C2, dx2, xs2, hy1, hy2, hy3, hy4, hy5⟩ := id vy
        rw [hC] at hx2 hy2
        cases hx2; cases hy2
        subst hx1 hy1
        obtain rfl : v = Value.ref a1 := rx
        obtain rfl : u = Value.ref a2 := ry
        obtain ⟨mA, J, _⟩ := ins_get I.hok (S.exB _ _ hx3)
        obtain ⟨mB, J', _⟩ := ins_get I.hok (S.exB _ _ hy3)
        obtain ⟨od, J, _⟩ := J.look
        obtain ⟨od', J', _⟩ := J'.look
        obtain ⟨m, hF⟩ := I.fr
        refine PySem.W.cmp_K (op := .Eq) (tb := .ref C) hr.units0 hF I.ok.mod.kin J J'.type (by simp [PySem.W.notFirst]) hs hf ?_
        have hsp : spD X.K X.mg 2 G [.ref a1, .ref a2] H (fun w H' => w = .bl b ∧ Q (.bl b) H') E0 := by
          refine call_w (m := false) (δ := δ) (r := .fz (.bl b)) (δ' := δ) (rs := [.fz (.ins _ ns ds), .fz (.ins _ ns2 ds2)]) S ⟨_, _, rfl, vx, _, _, rfl, vy, rfl⟩ rfl ?_ fun B' ad' w H' s1 p1 S' r' => ?_
          · unfold callG
            rw [if_pos (by show ([] : List Nat).Nodup; exact List.nodup_nil)]
            show ((some ([] : List (List D))).bind _) = _
            simp only [Option.bind_some, renum, hG]
            rfl
          · have r'' : w = .bl b := r'
            subst r''
            exact ⟨rfl, kk B' ad' _ H' s1 p1 S' rfl⟩
        refine wpAny_mono (run_fn (us := [.ref a1, .ref a2]) (vs := [.ref a1, .ref a2]) Fk hr hb .nil pass0 I (.cons rfl (.cons rfl .nil)) (by simpa using hsp)) (fun w s' hq => ?_) fun _ _ z => z
        obtain ⟨z, H', I', rz, ez, q⟩ := hq
        subst ez
        cases rz
        exact ⟨.bl b, H', I', rfl, q⟩
      · cases e
    · cases e
  · cases e
/-- len of an own instance -/
def dLenI (c : Str) (G : GF) (f : EF) : EF := fun δ => (f δ).bind fun p => match p.1 with
  | .fz (.ins c1 ns ds) => if c1 = c then match G [.fz (.ins c1 ns ds)] [] with
      | some (.val (.int n), []) => if 0 ≤ n ∧ n < 2 ^ 62 then some (.fz (.int n), p.2) else none
      | _ => none
    else none
  | _ => none
theorem oc_lenI {k : Nat} {g : Addr} {fd : FuncData} {ps : List Str} {sp : Sp} (Fk : FnOk X.prog X.w X.K X.mg X.base CX0 k g fd ps sp) (hr : Room (k + 1) X.A)
    (hs : PySem.W.findIn X.K (.ref C) "__len__" = some (some (.ref g))) (hf : PySem.W.isFn X.K (.ref g) = true) (hb : Binds X.K fd ps []) :
    CallR X (.builtin "len") (fun xs H Q => ∃ a dx fs, xs = [.ref a] ∧ H a = some (.ins C dx fs) ∧ sp [.ref a] H (fun w H' => ∃ n : Int, w = .int n ∧ (0 ≤ n ∧ n < 2 ^ 62) ∧ Q (.int n) H') E0) := by
  intro pins s σ H xs us Q I rv h
  obtain ⟨a, dx, fs, rfl, ha, h⟩ := h
  obtain ⟨u0, rfl, ru⟩ := vals1 rv
  obtain rfl : u0 = Value.ref a := ru
  obtain ⟨mA, J, _⟩ := ins_get I.hok ha
  obtain ⟨od, J, _⟩ := J.look
  obtain ⟨m, hF⟩ := I.fr
  refine PySem.W.len_K hF I.ok.mod.kin J hs hf ?_
  have hl : ([Value.ref a] ++ ([] : List Value)).length = ps.length := by
    rw [← Fk.len _ _ _ _ h]
    rfl
  refine wpAny_call (codeAny_mono (Fk.run X.A.in1 X.stack s H ⟨[.ref a], []⟩ [.ref a] [.ref a] _ _ hr.in1 I.env0.in1 (by simpa using hb s [.ref a] I.kIn hl) (.cons rfl .nil) h) fun r s' hq => ?_)
  cases r with
  | error er => exact False.elim (pass0 (X := X.nox) pins σ H s er s' (I.wish _) hq)
  | ok fl =>
    cases fl with
    | ret u =>
      obtain ⟨v, H', I3, rv, n, hn, hb2, q3⟩ := I.after hq
      subst hn
      obtain ⟨t, rfl⟩ := rv
      exact ⟨⟨hb2.1, by omega⟩, ⟨.int n, H', I3.tok _, ⟨_, rfl⟩, q3⟩⟩
    | next => exact False.elim hq
    | brk => exact False.elim hq
    | cont => exact False.elim hq
theorem pd_lenI {k : Nat} {g : Addr} {fd : FuncData} {ps : List Str} {G : GF} {p1 : Pos} (hgl : Gl X "len") (hml : X.mg "len" = none) (hC : X.mg c = some (.ref C)) (Fk : FnOk X.prog X.w X.K X.mg X.base CX0 k g fd ps (spD X.K X.mg 1 G)) (hr : Room (k + 1) X.A)
    (hs : PySem.W.findIn X.K (.ref C) "__len__" = some (some (.ref g))) (hf : PySem.W.isFn X.K (.ref g) = true) (hb : Binds X.K fd ps []) (he : PD X e f)
    (hst : starEach [e] X.env = (false, eval e X.env) :: starEach [] X.env := by rfl) (hpl : (backTo pos (starEach [] X.env)).any (·.1) = false := by rfl) : PD X (.Call (.Name "len" p1) [e] [] pos) (dLenI c G f) :=
  PE.weak (pe_callB (oc_lenI (C := C) Fk hr hs hf hb) hgl hml PySem.boot_len (pa_cons he pa_nil hst) (by decide) (by decide) hst hpl) fun σ H Q h => by
  obtain ⟨B, F, ad, δ, r, δ', S, e1, kk⟩ := h
  unfold dLenI at e1
  obtain ⟨⟨x, δ1⟩, e2, e3⟩ := Option.bind_eq_some_iff.mp e1
  refine ⟨B, F, ad, δ, x, δ1, S, e2, fun B1 ad1 v H1 s1 p1 S1 r1 => ?_⟩
  cases x with
  | rf k => cases e3
  | fz d =>
    cases d with
    | ins c1 ns ds =>
      simp only at e3
      split at e3
      · rename_i hc
        subst hc
        split at e3
        · rename_i n hG
          split at e3
          · rename_i hn
            cases e3
            obtain ⟨a1, C1, dx1, xs1, hx1, hx2, hx3, hx4, hx5⟩ := id r1
            rw [hC] at hx2
            cases hx2
            subst hx1
            refine ⟨a1, dx1, _, rfl, S1.exB _ _ hx3, ?_⟩
            refine call_w (m := false) (δ := δ') (r := .fz (.int n)) (δ' := δ') (rs := [.fz (.ins _ ns ds)]) S1 ⟨_, _, rfl, r1, rfl⟩ rfl ?_ fun B' ad' w H' s2 p2 S' r' => ?_
            · unfold callG
              rw [if_pos (by show ([] : List Nat).Nodup; exact List.nodup_nil)]
              show ((some ([] : List (List D))).bind _) = _
              simp only [Option.bind_some, renum, hG]
              rfl
            · exact ⟨n, r', hn, kk B' ad' _ H' (s1.trans s2) (p1.trans p2) S' rfl⟩
          · cases e3
        · cases e3
      · cases e3
    | _ => cases e3
/-- isinstance(x, C) of an instance of C -/
def dIsiI (c : Str) (f : EF) : EF := fun δ => (f δ).bind fun p => match p.1 with
  | .fz (.ins c1 _ _) => if c1 = c then some (.fz (.bl true), p.2) else none
  | _ => none
structure IsiC (K : PySem.W.Frag) (C : Addr) : Prop where
  ha : PySem.W.findIn K (.ref C) "__class__" = some (some (.builtin "object.__class__"))
  hn : PySem.W.specialIn K (.builtin "object.__class__") "__get__" = some (some (.builtin "getset_descriptor.__get__"))
  htk : PySem.W.takesIn K (.builtin "object.__class__") = some true
  hm : PySem.W.mroIn K C (.type "object") = some true
theorem pd_isiI {p1 p2 : Pos} (hg : Gl X "isinstance") (hm : X.mg "isinstance" = none) (hgc : Gl X c) (hC : X.mg c = some (.ref C)) (cl : Cls X.K C) (ic : IsiC X.K C) (he : PD X e f) (hdb : (c == ("__debug__" : Str)) = false := by decide)
    (hs : starEach [e, .Name c p1] X.env = (false, eval e X.env) :: starEach [.Name c p1] X.env := by rfl) (hs2 : starEach [.Name c p1] X.env = (false, eval (.Name c p1) X.env) :: starEach [] X.env := by rfl)
    (hpl : (backTo pos (starEach [.Name c p1] X.env)).any (·.1) = false := by rfl) : PD X (.Call (.Name "isinstance" p2) [e, .Name c p1] [] pos) (dIsiI c f) :=
  PE.weak (pe_callB call_isi hg hm (by decide +kernel) (pa_cons he (pa_cons (pe_glob (v := .ref C) hgc hC rfl hdb) pa_nil hs2) hs) (by decide) (by decide) hs hpl) fun σ H Q h => by
    obtain ⟨B, F, ad, δ, r, δ', S, e1, k⟩ := h
    unfold dIsiI at e1
    obtain ⟨⟨x, δ1⟩, e2, e3⟩ := Option.bind_eq_some_iff.mp e1
    refine ⟨B, F, ad, δ, x, δ1, S, e2, fun B1 ad1 v H1 s1 p1 S1 r1 => ?_⟩
    cases x with
    | rf k => cases e3
    | fz d =>
      cases d with
      | ins c1 ns ds =>
        simp only at e3
        split at e3
        · rename_i hc
          subst hc
          cases e3
          obtain ⟨a1, C1, dx1, xs1, hx1, hx2, hx3, hx4, hx5⟩ := id r1
          rw [hC] at hx2
          cases hx2
          subst hx1
          refine ⟨.ref a1, .ref C, .ref C, .ref C, true, rfl, .own C, .base (.ins (S1.exB _ _ hx3) cl ic.ha ic.hn ic.htk ic.hm), ?_, k B1 ad1 _ H1 s1 p1 S1 rfl⟩
          unfold PySem.W.kitOne
          rw [if_pos (by simp)]
        · cases e3
      | _ => cases e3
end
end PK

namespace PK
open PySem L2 PySem.Spec PyProof.Rows
/-! ### the law's own def: from its data function to the hand layer's promise -/
theorem lawSpec {K : PySem.W.Frag} {mg : Str → Option Value} {G : GF} {Pg : List Int → Prop} (hG : ∀ ns : List Int, Pg ns → G [.fz (.scr ns)] [] = some (.val (.bl true), [])) {vs : List V} {H : Hp} {Q : VK} {E : XK}
    (h : ∃ (a : Addr) (ns : List Int), vs = [.ref a] ∧ SqL K H a (ns.map V.int) ∧ Pg ns ∧ ∀ H', Q (.bl true) H') : spD K mg 1 G vs H Q E := by
  obtain ⟨a, ns, rfl, hS, hP, k⟩ := h
  refine ⟨rfl, H, fun _ => none, [], [.fz (.scr ns)], [], .val (.bl true), [], ?_, ⟨_, _, rfl, ⟨a, rfl, hS⟩, rfl⟩, hG ns hP, rfl, fun B' v H' s r => ?_⟩
  · exact ⟨Same.refl _, fun _ _ e => (by cases e), fun _ _ e => (by cases e), List.nodup_nil, rfl, rfl, fun k ds e => (by simp at e), fun k p e => (by simp at e), fun i d e => (by simp at e)⟩
  · have r' : v = .bl true := r.2
    subst r'
    exact k H'
theorem walkLaw {l : PySem.W.OpenLaw} {k : Nat} {q : Program} {loose : List Str} {XP : (Str → Option Value) → Heap → Prop} {YP : World → Heap → Prop} {d : DefRec} {K : Params → PySem.W.Frag} (hn : l.most = some 63) (hdf : d.params.defaults = []) (hr : Room k callerA)
    (hY : ∀ (w : World) (h : Heap), YP w h → (K w.params).In h)
    (F : ∀ (w : World) (mg : Str → Option Value) (fa : Addr) (h : Heap), (K w.params).In h → h.Ns mainGlobals mg → mg d.name = some (.ref fa) →
      ∃ fd : FuncData, (∀ (s : Shared) (u : Value), BindsTo s fd ⟨[u], []⟩ [("script", u)]) ∧ ∀ base : Heap, (K w.params).In base → base.Ns mainGlobals mg → FnOk l.prog w (K w.params) mg base CX0 k fa fd ["script"]
        (fun vs H Q _ => ∃ (a : Addr) (ns : List Int), vs = [.ref a] ∧ SqL (K w.params) H a (ns.map V.int) ∧ (ns.length ≤ 63 ∧ ∀ z ∈ ns, Builtin.Int.intBits z ≤ 1048576) ∧ ∀ H', Q (.bl true) H')) :
    PySem.W.WalkO q loose XP YP l.row.toRowW d [] (fun f vs => PySem.call f vs) :=
  L2.walk_ofB (n := 63) (k := k) (x := "script") (CX := fun _ => CX0) (sp := fun w => _) hn (by decide) hdf hr hY F (fun _ _ a ns hl hb _ hS => ⟨a, ns, rfl, hS, ⟨hl, hb⟩, fun _ => rfl⟩) fun _ _ _ _ _ z => z
end PK

namespace PK
open PySem L2 PySem.Spec PyProof.Rows

/-! ### reckoning with data functions -/
@[simp] theorem ck_nil {δ : Dl} : CkOk [] δ = True := by simp [CkOk]
@[simp] theorem ck_one {δ : Dl} {k : Nat} {ds : List D} : CkOk [(k, ds)] δ = (δ.st[k]? = some (some ds)) := by simp [CkOk]
theorem eqD_int {neg : Bool} {δ : Dl} {i j : Int} : eqD neg δ (.int i) (.int j) = some (.fz (.bl (if neg then !(i == j) else i == j)), δ) := by
  simp [eqD, toPy, SeqAt.shaped, PyData.canLay0, PyData.depth, PyData.eqv]
theorem eqD_str {neg : Bool} {δ : Dl} {x y : Str} (hx : PyData.strOk x = true) (hy : PyData.strOk y = true) : eqD neg δ (.str x) (.str y) = some (.fz (.bl (if neg then !(x == y) else x == y)), δ) := by
  simp [eqD, toPy, SeqAt.shaped, PyData.canLay0, PyData.depth, PyData.eqv, hx, hy]
/-- plain data of a depth -/
def Nice (k : Nat) (d : D) : Prop := ∃ p, toPy d = some p ∧ p.canLay0 = true ∧ p.depth ≤ k
theorem nice_int {k : Nat} {i : Int} : Nice k (.int i) := ⟨.int i, rfl, rfl, Nat.zero_le _⟩
theorem nice_str {k : Nat} {x : Str} (h : PyData.strOk x = true) : Nice k (.str x) := ⟨.str x, rfl, h, Nat.zero_le _⟩
theorem nices {k : Nat} : ∀ {ds : List D}, (∀ d ∈ ds, Nice k d) → ∃ ps, toPys ds = some ps ∧ PyData.canLayAll0 ps = true ∧ PyData.depthAll ps ≤ k
  | [], _ => ⟨[], rfl, rfl, Nat.zero_le _⟩
  | d :: ds, h => by
    obtain ⟨p, h1, h2, h3⟩ := h d List.mem_cons_self
    obtain ⟨ps, g1, g2, g3⟩ := nices (ds := ds) fun x hx => h x (List.mem_cons_of_mem _ hx)
    exact ⟨p :: ps, by simp [toPys, h1, g1], by simp [PyData.canLayAll0, h2, g2], by rw [PyData.depthAll]; exact Nat.max_le.mpr ⟨h3, g3⟩⟩
theorem nice_tup {k : Nat} {ds : List D} (h : ∀ d ∈ ds, Nice k d) : Nice (k + 1) (.tup ds) := by
  obtain ⟨ps, g1, g2, g3⟩ := nices h
  exact ⟨.tuple ps, by simp [toPy, g1], by simp [PyData.canLay0, g2], by simp [PyData.depth, g3]⟩
theorem nice_lst {k : Nat} {ds : List D} (h : ∀ d ∈ ds, Nice k d) : Nice (k + 1) (.lst ds) := by
  obtain ⟨ps, g1, g2, g3⟩ := nices h
  exact ⟨.list ps, by simp [toPy, g1], by simp [PyData.canLay0, g2], by simp [PyData.depth, g3]⟩
theorem eqD_self {neg : Bool} {δ : Dl} {k : Nat} {d : D} (h : Nice k d) (hk : k ≤ 64) : eqD neg δ d d = some (.fz (.bl (!neg)), δ) := by
  obtain ⟨p, h1, h2, h3⟩ := h
  have hs : SeqAt.shaped p = true := by simp [SeqAt.shaped, h2, Nat.le_trans h3 hk]
  simp only [eqD, h1, hs, Bool.and_self, if_pos, PySem.SeqAt.eqv_refl p h2]
  cases neg <;> rfl
theorem eqD_nil {neg : Bool} {δ : Dl} : eqD neg δ (.lst []) (.lst []) = some (.fz (.bl (!neg)), δ) := eqD_self (k := 1) (nice_lst (k := 0) (fun _ h => by cases h)) (by decide)
theorem eqD_app {neg : Bool} {δ : Dl} {k : Nat} {d : D} {ds : List D} (h : ∀ x ∈ d :: ds, Nice k x) (hk : k < 64) : eqD neg δ (.lst (d :: ds)) (.lst []) = some (.fz (.bl neg), δ) := by
  obtain ⟨p, h1, h2, h3⟩ := h d List.mem_cons_self
  obtain ⟨ps, g1, g2, g3⟩ := nices h
  have hs : SeqAt.shaped (.list ps) = true := by
    simp [SeqAt.shaped, PyData.canLay0, g2, PyData.depth]
    omega
  have hn : SeqAt.shaped (.list []) = true := by decide
  cases ps with
  | nil => simp [toPys, h1] at g1; split at g1 <;> simp at g1
  | cons q qs =>
    have t1 : toPy (.lst (d :: ds)) = some (.list (q :: qs)) := by rw [toPy, g1]; rfl
    have t2 : toPy (.lst []) = some (.list []) := rfl
    have t3 : PyData.eqv (.list (q :: qs)) (.list []) = false := by simp [PyData.eqv, PyData.eqvAll]
    simp only [eqD, t1, t2, hs, hn, Bool.and_self, if_pos, t3]
    cases neg <;> rfl
/-- a loop, by an invariant -/
theorem forD_inv {tg : Tg} {body : SF} {ck : List (Nat × List D)} (P : Nat → Dl → Prop) (hck : ∀ i δ, P i δ → CkOk ck δ) : ∀ (its : List D) (i : Nat) (δ : Dl), P i δ →
    (∀ (j : Nat) (d : D) (δ : Dl), its[j]? = some d → P (i + j) δ → ∃ δ1, asgT δ tg d = some δ1 ∧ ∃ δ2, body δ1 = some (.nx, δ2) ∧ P (i + j + 1) δ2) → ∃ δ', forD ck tg body its δ = some (.nx, δ') ∧ P (i + its.length) δ'
  | [], i, δ, h, _ => ⟨δ, by rw [forD, if_pos (hck _ _ h)], h⟩
  | d :: its, i, δ, h, hb => by
    obtain ⟨δ1, e1, δ2, e2, h2⟩ := hb 0 d δ rfl h
    obtain ⟨δ', e3, h3⟩ := forD_inv P hck its (i + 1) δ2 h2 fun j x δ hx hp => by
      obtain ⟨y1, z1, y2, z2, z3⟩ := hb (j + 1) x δ hx (by rw [show i + (j + 1) = i + 1 + j by omega]; exact hp)
      exact ⟨y1, z1, y2, z2, by rw [show i + 1 + j + 1 = i + (j + 1) + 1 by omega]; exact z3⟩
    refine ⟨δ', ?_, by rw [List.length_cons, show i + (its.length + 1) = i + 1 + its.length by omega]; exact h3⟩
    rw [forD, if_pos (hck _ _ h), e1, Option.bind_some, e2, Option.bind_some]
    exact e3
end PK

namespace PK
open PySem L2 PySem.Spec PyProof.Rows

/-! ### != of two instances of one class with an own == -/
section
variable {prog : Program} {w : World} {A : Around} {E : Value → Shared → Prop} {s : Shared} {K : PySem.W.Frag} {x C g : Addr} {ox : Obj} {od : Option Obj} {y : Value}
theorem askNe {Mo : Model} {ar : List Value} {Q : Option Value → Shared → Prop} (hX : K.In s.heap) (hI : PySem.W.InstAt s.heap x ox C od) (h0 : PySem.W.findIn K (.ref C) "__ne__" = some (some (.builtin "object.__ne__")))
    (h1 : wpAny Mo A (call (.builtin "object.__ne__") (.ref x :: ar)) (fun v => Q (some v)) E s) : wpAny Mo A (callSpecialIfBound? (.ref x) "__ne__" ar) Q E s := by
  have last : wpAny Mo A (call (.builtin "object.__ne__") ([.ref x] ++ ar) >>= fun z => pure (some z)) Q E s := wpAny_bind (wpAny_mono h1 (fun _ _ h' => wpAny_pure h') fun _ _ h' => h')
  simp only [bindSpecialIfBound?, callSpecialIfBound?]
  refine wpAny_holding (wpAny_bind (wpAny_bind (wpAny_bind (hI.type.here ((PySem.W.looks_findIn hX h0).here ?z)))))
  refine wpAny_bind (wpAny_askSetting (wpAny_ite ?z2))
  split
  · refine wpAny_bind (wpAny_of_eq (PySem.F.cmp_object.ne.bind _) (wpAny_pure ?z3))
    exact last
  · refine wpAny_tryCatch (wpAny_bind (wpAny_of_eq (PySem.F.cmp_object.ne.bind _) (wpAny_pure ?z4)))
    exact last
theorem objNeK {Q : Fin → Shared → Prop} (hX : K.In s.heap) (hI : PySem.W.InstAt s.heap x ox C od) (hu : A.units < cLine) (h0 : PySem.W.findIn K (.ref C) "__eq__" = some (some (.ref g))) (h1 : PySem.W.isFn K (.ref g) = true)
    (h2 : wpAny (model prog w) A (call (.ref g) [.ref x, y]) (fun v s' => ∃ b, v = .bool b ∧ Q (.done (.ret (.bool (!b)))) s') E s) : wpAny (model prog w) A (Builtin.«object.__ne__» ⟨[.ref x, y], []⟩) Q E s := by
  unfold Builtin.«object.__ne__»
  repeat (first
    | with_reducible refine wpAny_cRoomFor hu ?_
    | (refine wpAny_bind (m := callSpecialIfBound? (.ref x) (Str.ofString "__eq__") [y]) (PySem.W.ifBound_K hX hI h0 h1 (wpAny_mono h2 (fun r s' hr => ?_) fun _ _ e => e))
       obtain ⟨b, rfl, hq⟩ := hr
       repeat (first | exact hq | exact wpAny_pure hq | exact wpAny_truthy_bool hq | (refine wpAny_bind (m := truthy (.bool _)) (wpAny_truthy_bool ?_)) | wp_step))
    | wp_step)
theorem callNeK {Q : Value → Shared → Prop} (hX : K.In s.heap) (hI : PySem.W.InstAt s.heap x ox C od) (hu : A.in1.units < cLine) (hm : PySem.W.mroIn K C (.type "object") = some true) (h0 : PySem.W.findIn K (.ref C) "__eq__" = some (some (.ref g))) (h1 : PySem.W.isFn K (.ref g) = true)
    (h2 : wpAny (model prog w) A.in1 (call (.ref g) [.ref x, y]) (fun v s' => ∃ b, v = .bool b ∧ Q (.bool (!b)) s') E s) : wpAny (model prog w) A (call (.builtin "object.__ne__") [.ref x, y]) Q E s := by
  refine wpAny_call (codeAny_call_builtin PySem.F.cmp_object.ne.plain PySem.F.cmpEntry_ne (PySem.W.check_slot PySem.F.cmpKind_ne PySem.F.cmpSplit_ne (hI.type.andThen (PySem.W.looks_mroIn hX hm)) (PySem.F.cmpArgs_ne _ _) ?_))
  refine objNeK (A := A.in1) hX hI hu h0 h1 (wpAny_mono h2 (fun v s' hv => ?_) fun _ _ e => e)
  obtain ⟨b, rfl, hq⟩ := hv
  exact ⟨b, rfl, hq⟩
theorem tryNeK {Q : Option Value → Shared → Prop} (hX : K.In s.heap) (hI : PySem.W.InstAt s.heap x ox C od) (hu : A.in1.units < cLine) (hm : PySem.W.mroIn K C (.type "object") = some true) (hne : PySem.W.findIn K (.ref C) "__ne__" = some (some (.builtin "object.__ne__"))) (h0 : PySem.W.findIn K (.ref C) "__eq__" = some (some (.ref g))) (h1 : PySem.W.isFn K (.ref g) = true)
    (h2 : wpAny (model prog w) A.in1 (call (.ref g) [.ref x, y]) (fun v s' => ∃ b, v = .bool b ∧ Q (some (.bool (!b))) s') E s) : wpAny (model prog w) A (tryCompare (.ref x) "__ne__" y) Q E s := by
  unfold tryCompare
  refine wpAny_bind (askNe hX hI hne (callNeK hX hI hu hm h0 h1 (wpAny_mono h2 (fun v s' hv => ?_) fun _ _ e => e)))
  obtain ⟨b, rfl, hq⟩ := hv
  exact ⟨b, rfl, wpAny_pure hq⟩
/-- the two are of one class, or the second is of a built-in one -/
theorem rcNeK {tb : Value} {Q : Value → Shared → Prop} (hX : K.In s.heap) (hI : PySem.W.InstAt s.heap x ox C od) (hu : A.units + 1 < cLine) (hb : PySem.W.Looks (model prog w) s.heap (typeOf y) tb) (hn : PySem.W.notFirst K C tb = true) (hm : PySem.W.mroIn K C (.type "object") = some true)
    (hne : PySem.W.findIn K (.ref C) "__ne__" = some (some (.builtin "object.__ne__"))) (h0 : PySem.W.findIn K (.ref C) "__eq__" = some (some (.ref g))) (h1 : PySem.W.isFn K (.ref g) = true)
    (h2 : wpAny (model prog w) A.in1 (call (.ref g) [.ref x, y]) (fun v s' => ∃ b, v = .bool b ∧ Q (.bool (!b)) s') E s) : wpAny (model prog w) A (richCompare .NotEq (.ref x) y) Q E s := by
  have go : wpAny (model prog w) A (tryCompare (.ref x) "__ne__" y) (fun r s' => ∃ b, r = some (.bool (!b)) ∧ Q (.bool (!b)) s') E s :=
    tryNeK hX hI hu hm hne h0 h1 (wpAny_mono h2 (fun v s' ⟨b, e, hq⟩ => ⟨b, e, b, rfl, hq⟩) fun _ _ e => e)
  unfold richCompare
  simp only [oneThing_ref, cmpInfo_NotEq]
  refine wpAny_holding (wpAny_bind (wpAny_cRoomFor (Nat.lt_of_succ_lt hu) ?w1))
  refine wpAny_bind (hI.type.here (wpAny_bind (hb.here ?w2)))
  split
  · rename_i q
    have e : PySem.W.subIn K tb (.ref C) = some false := by
      rcases Bool.or_eq_true_iff.mp hn with e' | e'
      · rw [beq_iff_eq.mp e'] at q
        simp at q
      · exact beq_iff_eq.mp e'
    refine wpAny_bind ((PySem.W.looks_subIn hX e).here ?w3)
    simp only [if_false, Bool.false_eq_true]
    refine wpAny_bind (wpAny_mono go (fun r s' hz => ?w4) fun _ _ e => e)
    obtain ⟨b, rfl, hq⟩ := hz
    exact wpAny_pure hq
  · refine wpAny_bind (wpAny_pure ?w5)
    simp only [if_false, Bool.false_eq_true]
    refine wpAny_bind (wpAny_mono go (fun r s' hz => ?w6) fun _ _ e => e)
    obtain ⟨b, rfl, hq⟩ := hz
    exact wpAny_pure hq
end
def neI (c : Str) (G : GF) : OF := fun δ x y => match eqI c G δ x y with
  | some (.fz (.bl b), δ') => some (.fz (.bl (!b)), δ')
  | _ => none
theorem bo_neI {c : Str} {G : GF} : BoolOf (neI c G) := by
  intro δ x y r δ' e
  unfold neI at e
  split at e
  · cases e; exact ⟨_, rfl⟩
  · cases e
section
variable {X : Cx} {e : Expr} {f : EF} {pos p : Pos} {c : Str} {C : Addr}
theorem od_neI {k : Nat} {g : Addr} {fd : FuncData} {ps : List Str} {G : GF} (hC : X.mg c = some (.ref C)) (Fk : FnOk X.prog X.w X.K X.mg X.base CX0 k g fd ps (spD X.K X.mg 2 G)) (hr : Room (k + 1) X.A)
    (hs : PySem.W.findIn X.K (.ref C) "__eq__" = some (some (.ref g))) (hf : PySem.W.isFn X.K (.ref g) = true) (hb : Binds X.K fd ps []) (hne : PySem.W.findIn X.K (.ref C) "__ne__" = some (some (.builtin "object.__ne__"))) (hm : PySem.W.mroIn X.K C (.type "object") = some true) :
    OpR X (compareOp .NotEq) (rD X.K X.mg (neI c G)) := by
  intro pins s σ H x y v u Q I rx ry h
  obtain ⟨B, F, ad, σ', δ, dx, dy, r, δ', S, vx, vy, e, kk⟩ := h
  show wpAny (model X.prog X.w) X.A (richCompare .NotEq v u) (EP X pins σ Q) X.xe s
  unfold neI at e
  split at e
  · rename_i bb δ1 e0
    cases e
    unfold eqI at e0
    split at e0
    · rename_i c1 ns ds c2 ns2 ds2
      split at e0
      · rename_i hc
        obtain ⟨hc1, hc2⟩ := hc
        subst hc1 hc2
        split at e0
        · rename_i b hG
          cases e0
          obtain ⟨a1, C1, dx1, xs1, hx1, hx2, hx3, hx4, hx5⟩ := id vx
          obtain ⟨a2, C2, dx2, xs2, hy1, hy2, hy3, hy4, hy5⟩ := id vy
          rw [hC] at hx2 hy2
          cases hx2; cases hy2
          subst hx1 hy1
          obtain rfl : v = Value.ref a1 := rx
          obtain rfl : u = Value.ref a2 := ry
          obtain ⟨mA, J, _⟩ := ins_get I.hok (S.exB _ _ hx3)
          obtain ⟨mB, J', _⟩ := ins_get I.hok (S.exB _ _ hy3)
          obtain ⟨od, J, _⟩ := J.look
          obtain ⟨od', J', _⟩ := J'.look
          have hsp : spD X.K X.mg 2 G [.ref a1, .ref a2] H (fun w H' => w = .bl bb ∧ Q (.bl (!bb)) H') E0 := by
            refine call_w (m := false) (δ := δ) (r := .fz (.bl bb)) (δ' := δ) (rs := [.fz (.ins _ ns ds), .fz (.ins _ ns2 ds2)]) S ⟨_, _, rfl, vx, _, _, rfl, vy, rfl⟩ rfl ?_ fun B' ad' w H' s1 p1 S' r' => ?_
            · unfold callG
              rw [if_pos (by show ([] : List Nat).Nodup; exact List.nodup_nil)]
              show ((some ([] : List (List D))).bind _) = _
              simp only [Option.bind_some, renum, hG]
              rfl
            · have r'' : w = .bl bb := r'
              subst r''
              exact ⟨rfl, kk B' ad' _ H' s1 p1 S' rfl⟩
          refine rcNeK (tb := .ref C) I.kIn J (hu_of hr) J'.type (by simp [PySem.W.notFirst]) hm hne hs hf ?_
          have hl : ([Value.ref a1, Value.ref a2]).length = ps.length := by
            rw [← Fk.len _ _ _ _ hsp]
            rfl
          refine wpAny_call (codeAny_mono (Fk.run X.A.in1 X.stack s H ⟨[.ref a1, .ref a2], []⟩ [.ref a1, .ref a2] [.ref a1, .ref a2] _ _ hr.in1 I.env0.in1 (by simpa using hb s [.ref a1, .ref a2] I.kIn hl) (.cons rfl (.cons rfl .nil)) hsp) fun rr s' hq => ?_)
          cases rr with
          | error er => exact False.elim (pass0 (X := X.nox) pins σ H s er s' (I.wish _) hq)
          | ok fl =>
            cases fl with
            | ret z =>
              obtain ⟨v2, H', I3, rv, hv, q3⟩ := I.after hq
              subst hv
              cases rv
              exact ⟨bb, rfl, .bl (!bb), H', I3, rfl, q3⟩
            | next => exact False.elim hq
            | brk => exact False.elim hq
            | cont => exact False.elim hq
        · cases e0
      · cases e0
    · cases e0
  · cases e
end
/-! ### methods called with names -/
abbrev PDK (X : Cx) (kws : List Keyword) (f : AF) := L2.PK X kws (tDA X.K X.mg f)
section
variable {X : Cx} {e : Expr} {f : EF} {nm : Option Str} {kpos : Pos} {kws : List Keyword} {g : AF}
theorem pkWeak {t t' : TA} (h : L2.PK X kws t) (hw : ∀ σ H Q, t' σ H Q → t σ H Q) : L2.PK X kws t' := ⟨fun pos pins s σ H Q I q => h.run pos pins s σ H Q I (hw σ H Q q)⟩
theorem pdk_nil : PDK X [] aNil := pkWeak pk_nil fun σ H Q h => by
  obtain ⟨B, F, ad, δ, r, δ', S, e, k⟩ := h
  unfold aNil at e
  cases e
  exact k B ad [] H (Same.refl _) (Pre.refl _) S rfl
theorem pdk_cons (h : PD X e f) (hr : PDK X kws g) : PDK X (⟨nm, e, kpos⟩ :: kws) (aCons f g) := pkWeak (pk_cons h hr) fun σ H Q h => by
  obtain ⟨B, F, ad, δ, r, δ', S, e, k⟩ := h
  unfold aCons at e
  obtain ⟨⟨x, δ1⟩, e1, e⟩ := Option.bind_eq_some_iff.mp e
  obtain ⟨⟨rs, δ2⟩, e2, e⟩ := Option.map_eq_some_iff.mp e
  cases e
  refine ⟨B, F, ad, δ, x, δ1, S, e1, fun B1 ad1 v H1 s1 p1 S1 r1 => ?_⟩
  refine ⟨B1, F, ad1, δ1, rs, _, S1, e2, fun B2 ad2 vs H2 s2 p2 S2 r2 => ?_⟩
  exact k B2 ad2 (v :: vs) H2 (s1.trans s2) (p1.trans p2) S2 ⟨v, vs, rfl, r1.mono s2 p2, r2⟩
end
section
variable {X : Cx} {o : Expr} {fo : EF} {pos apos : Pos} {kws : List Keyword} {fs : AF} {c m : Str} {C : Addr}
/-- o.m(k = v, ..): what is asked -/
def tMethK (C : Addr) (m : Str) (n : Nat) (sp : Sp) (gV : List V → List V → List V) (ta : TE) (tk : TA) : TE := fun σ H Q => ta σ H fun x H1 => ∃ a dx fs, x = .ref a ∧ H1 a = some (.ins C dx fs) ∧ fs.lookup m = none ∧ tk σ H1 fun zs H2 => zs.length = n ∧ sp (gV [.ref a] zs) H2 Q E0
theorem pe_methK {k : Nat} {g : Addr} {fd : FuncData} {ps ks : List Str} {sp : Sp} {pl : Sem Bool} {ta : TE} {tk : TA} {gg : List Value → List Value → List Value} {gV : List V → List V → List V} (ho : PE X o ta) (cl : Cls X.K C) (hm : Meth X.K C m g) (Fk : FnOk X.prog X.w X.K X.mg X.base CX0 k g fd ps sp) (hr : Room k X.A)
    (hb : KBn X.K fd ps 1 ks gg gV) (ha : L2.PK X kws tk)
    (hall : (backToKw pos (keywordEach kws X.env)).all (·.1.isSome) = true := by rfl) (hks : (backToKw pos (keywordEach kws X.env)).filterMap (·.1) = ks := by rfl)
    (hpl : ((backTo pos (starEach [] X.env)).any (·.1) || (backToKw pos (keywordEach kws X.env)).any (·.1.isNone)) = false := by rfl)
    (ht : eval (.Call (.Attribute o m apos) [] kws pos) X.env = (do
      let ov ← eval o X.env
      standAt apos.atName
      let (f, first) ← holding [ov] (getMethod ov m pl)
      callWith pos f first (backTo pos (starEach [] X.env)) (backToKw pos (keywordEach kws X.env))) := by rfl) :
    PE X (.Call (.Attribute o m apos) [] kws pos) (tMethK C m ks.length sp gV ta tk) := ⟨fun pins s σ H Q I h => by
  refine PySem.W.methodCall_KW (pl := pl) (thn (ho.run pins s σ H _ I h) fun v s1 ⟨x, H1, I1, rx, a, dx, fs, ex, ea, hlk, q⟩ => ?_) ht
  subst ex
  obtain rfl : v = Value.ref a := rx
  refine getmeth_ok I1 ea cl hm hlk ?_
  refine PySem.W.callWith_KW0 (first := [.ref a]) (h₀ := X.base) I1.ok.mod.kin hm.kp hall ?_ hpl
  refine thn (ha.run pos pins s1 σ H1 _ I1 q) fun ws s2 ⟨zs, H2, I2, rz, l1, q2⟩ => ⟨I2.kIn, ?_⟩
  rw [hks]
  exact run_fnN (us := [.ref a]) (vs := [.ref a]) Fk hr hb pass0 I2 (.cons rfl .nil) rz rfl l1 q2⟩
/-- o.m(k = v, ..), the names in the parameters' order -/
theorem pd_methK {k n : Nat} {g : Addr} {fd : FuncData} {ps ks : List Str} {G : GF} {pl : Sem Bool} (mm : Bool) (ho : PD X o fo) (hC : X.mg c = some (.ref C)) (cl : Cls X.K C) (hm : Meth X.K C m g) (Fk : FnOk X.prog X.w X.K X.mg X.base CX0 k g fd ps (spD X.K X.mg n G)) (hr : Room k X.A)
    (hb : KBn X.K fd ps 1 ks (fun us ws => us ++ ws) (fun vs zs => vs ++ zs)) (hn : n = ks.length + 1) (ha : PDK X kws fs)
    (hall : (backToKw pos (keywordEach kws X.env)).all (·.1.isSome) = true := by rfl) (hks : (backToKw pos (keywordEach kws X.env)).filterMap (·.1) = ks := by rfl)
    (hpl : ((backTo pos (starEach [] X.env)).any (·.1) || (backToKw pos (keywordEach kws X.env)).any (·.1.isNone)) = false := by rfl)
    (ht : eval (.Call (.Attribute o m apos) [] kws pos) X.env = (do
      let ov ← eval o X.env
      standAt apos.atName
      let (f, first) ← holding [ov] (getMethod ov m pl)
      callWith pos f first (backTo pos (starEach [] X.env)) (backToKw pos (keywordEach kws X.env))) := by rfl) :
    PD X (.Call (.Attribute o m apos) [] kws pos) (dMeth mm c m n G fo fs) := PE.weak (pe_methK ho cl hm Fk hr hb ha hall hks hpl ht) fun σ H Q h => by
  obtain ⟨B, F, ad, δ, r, δ', S, e, kk⟩ := h
  unfold dMeth at e
  obtain ⟨⟨x, δ1⟩, e1, e⟩ := Option.bind_eq_some_iff.mp e
  split at e
  · rename_i hx
    obtain ⟨⟨rs, δ2⟩, e2, e⟩ := Option.bind_eq_some_iff.mp e
    split at e
    · rename_i hl
      refine ⟨B, F, ad, δ, x, δ1, S, e1, fun B1 ad1 v1 H1 s1 p1 S1 r1 => ?_⟩
      obtain ⟨a, dx, fs, h1, h2, h3⟩ := recv_of hC S1.exB r1 hx
      subst h1
      refine ⟨a, dx, fs, rfl, h2, h3, B1, F, ad1, δ1, rs, δ2, S1, e2, fun B2 ad2 vs H2 s2 p2 S2 r2 => ?_⟩
      have rr : RpVs X.K X.mg B2 ad2 (x :: rs) (V.ref a :: vs) := ⟨_, vs, rfl, r1.mono s2 p2, r2⟩
      refine ⟨?_, ?_⟩
      · have h5 := RpVs.length r2
        have h6 : (x :: rs).length = rs.length + 1 := rfl
        have h7 : (x :: rs).length = n := hl
        omega
      · show spD X.K X.mg n G (V.ref a :: vs) H2 Q E0
        exact call_w S2 rr (by rw [RpVs.length rr]; exact hl) e fun B' ad' v H' s3 p3 S' r' => kk B' ad' v H' ((s1.trans s2).trans s3) ((p1.trans p2).trans p3) S' r'
    · cases e
  · cases e
end
end PK

namespace PK
open PySem L2 PySem.Spec PyProof.Rows

/-! ### a class made with names alone: two of them, exchanged or not -/
def dMake2 (sw : Bool) (c : Str) (G : GIF) (fa : AF) : EF := fun δ => (fa δ).bind fun p => match p.1 with
  | [a, b] => makeG c G (if sw then [b, a] else [a, b]) p.2
  | _ => none
def swp {α : Type} (sw : Bool) : List α → List α → List α := fun us ws => match ws with
  | [a, b] => us ++ (if sw then [b, a] else [a, b])
  | _ => us
section
variable {X : Cx} {kws : List Keyword} {fs : AF} {c : Str} {C : Addr} {p pos : Pos}
theorem pd_makeK2 {k : Nat} {f : Addr} {fd : FuncData} {ps ks : List Str} {G : GIF} (sw : Bool) (M : Mk X.K C f) (Fk : FnOk X.prog X.w X.K X.mg X.base CX0 k f fd ps (spI X.K X.mg c 3 G)) (hr : Room (k + 1) X.A) (hg : Gl X c) (hm : X.mg c = some (.ref C)) (hb : KBn X.K fd ps 1 ks (swp sw) (swp sw)) (hl : ks.length = 2)
    (ha : PDK X kws fs) (hall : (backToKw pos (keywordEach kws X.env)).all (·.1.isSome) = true := by rfl) (hks : (backToKw pos (keywordEach kws X.env)).filterMap (·.1) = ks := by rfl) (hdb : (c == ("__debug__" : Str)) = false := by decide)
    (hpl : ((backTo pos (starEach [] X.env)).any (·.1) || (backToKw pos (keywordEach kws X.env)).any (·.1.isNone)) = false := by rfl) :
    PD X (.Call (.Name c p) [] kws pos) (dMake2 sw c G fs) := PE.weak (pe_makeK0 M Fk hr hg hm hb pass0 ha hall hks hdb hpl) fun σ H Q h => by
  obtain ⟨B, F, ad, δ, r, δ', S, e, k⟩ := h
  unfold dMake2 at e
  obtain ⟨⟨rs, δ1⟩, e1, e⟩ := Option.bind_eq_some_iff.mp e
  match rs, e with
  | [a, b], e =>
    refine ⟨B, F, ad, δ, [a, b], δ1, S, e1, fun B1 ad1 vs H1 s1 p1 S1 r1 => ?_⟩
    obtain ⟨va, vr, rfl, ra, vb, vr2, rfl, rb, hnil⟩ := r1
    have hnil' : vr2 = [] := hnil
    subst hnil'
    refine ⟨rfl, hl.symm, fun x dx hx hd hne => ?_⟩
    cases sw with
    | false => exact make_w (vs := [va, vb]) (rs := [a, b]) hm S1 ⟨_, _, rfl, ra, _, _, rfl, rb, rfl⟩ rfl e hx hd hne fun B' ad' v H' s2 p2 S' r' => k B' ad' v H' (s1.trans s2) (p1.trans p2) S' r'
    | true => exact make_w (vs := [vb, va]) (rs := [b, a]) hm S1 ⟨_, _, rfl, rb, _, _, rfl, ra, rfl⟩ rfl e hx hd hne fun B' ad' v H' s2 p2 S' r' => k B' ad' v H' (s1.trans s2) (p1.trans p2) S' r'
  | [], e => cases e
  | [a], e => cases e
  | a :: b :: c :: r, e => cases e
end

/-! ### isinstance of an own class, of anything -/
section
variable {K : PySem.W.Frag} {C : Addr}
structure IsiA (K : PySem.W.Frag) (C : Addr) : Prop where
  hc : (PySem.W.clsIn K C).isSome = true
  ht : PySem.W.typeIn K (.ref C) = some (.type "type")
theorem sub_tyD {d : D} {t : String} (h : tyD d = some t) : PySem.W.subIn K (.type t) (.ref C) = some false := by
  have go : ∀ (t : String) (bs : List Value), fastBuiltinMro t = some bs → bs.contains (.ref C) = false → PySem.W.subIn K (.type t) (.ref C) = some false := fun t bs e1 e2 => by
    show (fastBuiltinMro t).map (·.contains (.ref C)) = some false
    rw [e1, Option.map_some, e2]
  cases d <;> simp only [tyD] at h <;> first
    | (cases h
       first
         | exact go "NoneType" [.type "NoneType", .type "object"] (by decide +kernel) (by simp)
         | exact go "bool" [.type "bool", .type "int", .type "object"] (by decide +kernel) (by simp)
         | exact go "int" [.type "int", .type "object"] (by decide +kernel) (by simp)
         | exact go "str" [.type "str", .type "object"] (by decide +kernel) (by simp)
         | exact go "list" [.type "list", .type "object"] (by decide +kernel) (by simp)
         | exact go "tuple" [.type "tuple", .type "object"] (by decide +kernel) (by simp))
    | cases h
theorem kit_tyD {d : D} {t : String} (a : IsiA K C) (h : tyD d = some t) : PySem.W.kitOne K (.type t) (.ref C) = some false := by
  unfold PySem.W.kitOne
  rw [if_neg (by simp)]
  show (if ((PySem.W.clsIn K C).isSome && PySem.W.typeIn K (.ref C) == some (.type "type")) = true then PySem.W.subIn K (.type t) (.ref C) else none) = some false
  rw [if_pos (by rw [a.hc, a.ht]; simp), sub_tyD h]
end
def dIsiA (c : Str) (f : EF) : EF := fun δ => (f δ).bind fun p => match p.1 with
  | .fz (.ins c1 ns ds) => if c1 = c then some (.fz (.bl true), p.2) else none
  | r => (der p.2 r).bind fun d => (tyD d).map fun _ => (.fz (.bl false), p.2)
section
variable {X : Cx} {e : Expr} {f : EF} {pos : Pos} {c : Str} {C : Addr}
theorem pd_isiA {p1 p2 : Pos} (hg : Gl X "isinstance") (hm : X.mg "isinstance" = none) (hgc : Gl X c) (hC : X.mg c = some (.ref C)) (cl : Cls X.K C) (ic : IsiC X.K C) (ia : IsiA X.K C) (he : PD X e f) (hdb : (c == ("__debug__" : Str)) = false := by decide)
    (hs : starEach [e, .Name c p1] X.env = (false, eval e X.env) :: starEach [.Name c p1] X.env := by rfl) (hs2 : starEach [.Name c p1] X.env = (false, eval (.Name c p1) X.env) :: starEach [] X.env := by rfl)
    (hpl : (backTo pos (starEach [.Name c p1] X.env)).any (·.1) = false := by rfl) : PD X (.Call (.Name "isinstance" p2) [e, .Name c p1] [] pos) (dIsiA c f) :=
  PE.weak (pe_callB call_isi hg hm (by decide +kernel) (pa_cons he (pa_cons (pe_glob (v := .ref C) hgc hC rfl hdb) pa_nil hs2) hs) (by decide) (by decide) hs hpl) fun σ H Q h => by
    obtain ⟨B, F, ad, δ, r, δ', S, e1, k⟩ := h
    unfold dIsiA at e1
    obtain ⟨⟨x, δ1⟩, e2, e3⟩ := Option.bind_eq_some_iff.mp e1
    refine ⟨B, F, ad, δ, x, δ1, S, e2, fun B1 ad1 v H1 s1 p1 S1 r1 => ?_⟩
    have other : ((der δ1 x).bind fun d => (tyD d).map fun _ => (Vl.fz (D.bl false), δ1)) = some (r, δ') → ∃ (y cc : V) (t u : Value) (b : Bool), [v, V.ref C] = [y, cc] ∧ ClsV cc u ∧ TyX X.K H1 y t ∧ PySem.W.kitOne X.K t u = some b ∧ Q (.bl b) H1 := fun e4 => by
      obtain ⟨d, e5, e6⟩ := Option.bind_eq_some_iff.mp e4
      obtain ⟨t, e7, e8⟩ := Option.map_eq_some_iff.mp e6
      cases e8
      exact ⟨v, .ref C, .type t, .ref C, false, rfl, .own C, ty_of S1.exB (S1.vw r1 e5) e7, kit_tyD ia e7, k B1 ad1 _ H1 s1 p1 S1 rfl⟩
    cases x with
    | rf kk => exact other e3
    | fz d =>
      cases d with
      | ins c1 ns ds =>
        simp only at e3
        split at e3
        · rename_i hc
          subst hc
          cases e3
          obtain ⟨a1, C1, dx1, xs1, hx1, hx2, hx3, hx4, hx5⟩ := id r1
          rw [hC] at hx2
          cases hx2
          subst hx1
          refine ⟨.ref a1, .ref C, .ref C, .ref C, true, rfl, .own C, .base (.ins (S1.exB _ _ hx3) cl ic.ha ic.hn ic.htk ic.hm), ?_, k B1 ad1 _ H1 s1 p1 S1 rfl⟩
          unfold PySem.W.kitOne
          rw [if_pos (by simp)]
        · cases e3
      | _ => exact other e3
end
end PK

namespace PK
open PySem L2 PySem.Spec PyProof.Rows

/-! ### == of an own instance with anything that is not a changing list -/
def rDF (K : PySem.W.Frag) (mg : Str → Option Value) (g : OF) : R2 := fun x y H Q => ∃ B F ad σ δ dx dy r δ', SRep K mg B F ad σ δ H ∧ Rp K mg B dx x ∧ Rp K mg B dy y ∧ g δ dx dy = some (r, δ') ∧
  ∀ B' ad' v H', Same B B' → Pre ad ad' → SRep K mg B' F ad' σ δ' H' → RpV K mg B' ad' r v → Q v H'
def dOpF (g : OF) (fa fb : EF) : EF := fun δ => (fa δ).bind fun p => (fb p.2).bind fun q => match p.1, q.1 with
  | .fz a, .fz b => g q.2 a b
  | _, _ => none
theorem dOpF_w {K : PySem.W.Frag} {mg : Str → Option Value} {g : OF} {fa fb : EF} {σ : L2.St} {H : Hp} {Q : VK} (h : tD K mg (dOpF g fa fb) σ H Q) : tOp (rDF K mg g) (tD K mg fa) (tD K mg fb) σ H Q := by
  obtain ⟨B, F, ad, δ, r, δ', S, e, k⟩ := h
  unfold dOpF at e
  obtain ⟨⟨x, δ1⟩, e1, e2⟩ := Option.bind_eq_some_iff.mp e
  obtain ⟨⟨y, δ2⟩, e3, e4⟩ := Option.bind_eq_some_iff.mp e2
  refine ⟨B, F, ad, δ, x, δ1, S, e1, fun B1 ad1 v1 H1 s1 p1 S1 r1 => ?_⟩
  refine ⟨B1, F, ad1, δ1, y, δ2, S1, e3, fun B2 ad2 v2 H2 s2 p2 S2 r2 => ?_⟩
  cases x with
  | rf i => cases e4
  | fz dx =>
    cases y with
    | rf i => cases e4
    | fz dy => exact ⟨B2, F, ad2, σ, δ2, dx, dy, r, δ', S2, Rp.mono s2 dx v1 r1, r2, e4, fun B3 ad3 v H3 s3 p3 S3 r3 => k B3 ad3 v H3 ((s1.trans s2).trans s3) ((p1.trans p2).trans p3) S3 r3⟩
theorem pd_cmpF {X : Cx} {a b : Expr} {fa fb : EF} {pos : Pos} {op : CmpOp} {g : OF} (ho : OpR X (compareOp op) (rDF X.K X.mg g)) (ha : PD X a fa) (hb : PD X b fb) (hm : behindInMarks op b = false := by rfl) : PD X (.Compare a [op] [b] pos) (dOpF g fa fb) :=
  PE.weak (pe_cmpR ho ha hb hm) fun σ H Q h => dOpF_w h
def eqA (c : Str) (G : GF) : OF := fun δ x y => match x with
  | .ins c1 ns ds => if c1 = c then match y with
      | .ins c2 ns2 ds2 => eqI c G δ (.ins c1 ns ds) (.ins c2 ns2 ds2)
      | y => if (tyD y).isSome then match G [.fz (.ins c1 ns ds), .fz y] [] with
          | some (.val (.bl b), []) => some (.fz (.bl b), δ)
          | _ => none
        else none
    else none
  | _ => none
theorem eqA_ty {c : Str} {G : GF} {δ δ' : Dl} {r : Vl} {ns : List Str} {ds : List D} {c1 : Str} {y : D} {t : String} (ht : tyD y = some t) (e : eqA c G δ (.ins c1 ns ds) y = some (r, δ')) : c1 = c ∧ ∃ b, G [.fz (.ins c1 ns ds), .fz y] [] = some (.val (.bl b), []) ∧ r = .fz (.bl b) ∧ δ' = δ := by
  unfold eqA at e
  simp only at e
  split at e
  · rename_i hc
    refine ⟨hc, ?_⟩
    cases y with
    | ins _ _ _ => cases ht
    | scr _ => cases ht
    | _ =>
      simp only [tyD, Option.isSome_some, if_true] at e
      split at e
      · rename_i b hG
        cases e
        exact ⟨b, hG, rfl, rfl⟩
      · cases e
  · cases e
section
variable {X : Cx} {c : Str} {C : Addr}
theorem od_eqA {k : Nat} {g : Addr} {fd : FuncData} {ps : List Str} {G : GF} (hC : X.mg c = some (.ref C)) (Fk : FnOk X.prog X.w X.K X.mg X.base CX0 k g fd ps (spD X.K X.mg 2 G)) (hr : Room k X.A)
    (hs : PySem.W.findIn X.K (.ref C) "__eq__" = some (some (.ref g))) (hf : PySem.W.isFn X.K (.ref g) = true) (hb : Binds X.K fd ps []) : OpR X (compareOp .Eq) (rDF X.K X.mg (eqA c G)) := by
  intro pins s σ H x y v u Q I rx ry h
  obtain ⟨B, F, ad, σ', δ, dx, dy, r, δ', S, vx, vy, e, kk⟩ := h
  have deal : ∀ t, tyD dy = some t → wpAny (model X.prog X.w) X.A (compareOp .Eq v u) (EP X pins σ Q) X.xe s := fun t ht => by
    cases dx with
    | ins c1 ns ds =>
      obtain ⟨hc, b, hG, hr1, hd1⟩ := eqA_ty ht e
      subst hc hr1 hd1
      show wpAny (model X.prog X.w) X.A (richCompare .Eq v u) (EP X pins σ Q) X.xe s
      obtain ⟨a1, C1, dx1, xs1, hx1, hx2, hx3, hx4, hx5⟩ := id vx
      rw [hC] at hx2
      cases hx2
      subst hx1
      obtain rfl : v = Value.ref a1 := rx
      obtain ⟨mA, J, _⟩ := ins_get I.hok (S.exB _ _ hx3)
      obtain ⟨od, J, _⟩ := J.look
      obtain ⟨m, hF⟩ := I.fr
      obtain ⟨P, kx, hp, _⟩ := kit_of I ry (ty_of S.exB (Rp.vw S.exB vy) ht)
      refine PySem.W.cmp_K (op := .Eq) (tb := .type t) hr.units0 hF I.ok.mod.kin J (kx.ty _ _ I.kIn hp) (by simp [PySem.W.notFirst, sub_tyD ht]) hs hf ?_
      have hsp : spD X.K X.mg 2 G [.ref a1, y] H (fun w H' => w = .bl b ∧ Q (.bl b) H') E0 := by
        refine call_w (m := false) (δ := δ') (r := .fz (.bl b)) (δ' := δ') (rs := [.fz (.ins _ ns ds), .fz dy]) S ⟨_, _, rfl, vx, _, _, rfl, vy, rfl⟩ rfl ?_ fun B' ad' w H' s1 p1 S' r' => ?_
        · unfold callG
          rw [if_pos (by show ([] : List Nat).Nodup; exact List.nodup_nil)]
          show ((some ([] : List (List D))).bind _) = _
          simp only [Option.bind_some, renum, hG]
          rfl
        · have r'' : w = .bl b := r'
          subst r''
          exact ⟨rfl, kk B' ad' _ H' s1 p1 S' rfl⟩
      refine wpAny_mono (run_fn (us := [.ref a1, u]) (vs := [.ref a1, y]) Fk hr hb .nil pass0 I (.cons rfl (.cons ry .nil)) (by simpa using hsp)) (fun w s' hq => ?_) fun _ _ z => z
      obtain ⟨z, H', I', rz, ez, q⟩ := hq
      subst ez
      cases rz
      exact ⟨.bl b, H', I', rfl, q⟩
    | _ => cases e
  cases dy with
  | ins c2 ns2 ds2 =>
    cases dx with
    | ins c1 ns ds =>
      unfold eqA at e
      simp only at e
      split at e
      · exact od_eqI hC Fk hr hs hf hb pins s σ H x y v u Q I rx ry ⟨B, F, ad, σ', δ, _, _, r, δ', S, Rp.vw S.exB vx, Rp.vw S.exB vy, e, kk⟩
      · cases e
    | _ => cases e
  | scr ns =>
    cases dx with
    | ins c1 ns1 ds =>
      unfold eqA at e
      simp only [tyD] at e
      split at e <;> cases e
    | _ => cases e
  | non => exact deal _ rfl
  | bl b => exact deal _ rfl
  | int i => exact deal _ rfl
  | str z => exact deal _ rfl
  | lst z => exact deal _ rfl
  | tup z => exact deal _ rfl
end
theorem boolOpF {g : OF} {fa fb : EF} (hg : BoolOf g) : ∀ δ r δ', dOpF g fa fb δ = some (r, δ') → ∃ b, r = .fz (.bl b) := fun δ r δ' e => by
  unfold dOpF at e
  obtain ⟨⟨x, δ1⟩, e1, e2⟩ := Option.bind_eq_some_iff.mp e
  obtain ⟨⟨y, δ2⟩, e3, e4⟩ := Option.bind_eq_some_iff.mp e2
  cases x with
  | rf i => cases e4
  | fz dx =>
    cases y with
    | rf i => cases e4
    | fz dy => exact hg _ _ _ _ _ e4
theorem bo_eqA {c : Str} {G : GF} : BoolOf (eqA c G) := by
  intro δ x y r δ' e
  cases x with
  | ins c1 ns ds =>
    cases h : tyD y with
    | some t =>
      obtain ⟨_, b, _, hr, _⟩ := eqA_ty h e
      exact ⟨b, hr⟩
    | none =>
      unfold eqA at e
      simp only at e
      split at e
      · cases y with
        | ins c2 ns2 ds2 => exact bo_eqI _ _ _ _ _ e
        | scr z => simp [tyD] at e
        | _ => simp [tyD] at h
      · cases e
  | _ => cases e
theorem pdt_cmpF {X : Cx} {a b : Expr} {fa fb : EF} {pos : Pos} {op : CmpOp} {g : OF} (hg : BoolOf g) (ho : OpR X (compareOp op) (rDF X.K X.mg g)) (ha : PD X a fa) (hb : PD X b fb) (hm : behindInMarks op b = false := by rfl) : PDT X (.Compare a [op] [b] pos) (dB (dOpF g fa fb)) :=
  PT.weak (pt_cmpR ho ha hb hm) fun σ H Q h => tTest_w (fun σ H Q h => dOpF_w h) h (boolOpF hg)
end PK

namespace PK
open PySem L2 PySem.Spec PyProof.Rows
/-! ### defs that show their data: they are called while nothing is being shown -/
structure FnG (P : Program) (w : World) (K : PySem.W.Frag) (mg : Str → Option Value) (base : Heap) (k : Nat) (f : Addr) (fd : FuncData) (ps : List Str) (sp : Sp) : Prop where
  size : ∀ vs hp post ex, sp vs hp post ex → vs.length = ps.length
  go : ∀ (A : Around), Room k A → A.guards = some [] → ∀ (outer : List Env) (sh : Shared) (hp : Hp) (args : Args) (us : List Value) (vs : List V) (post : VK) (ex : XK), Env0 P w K mg base A outer sh hp → BindsTo sh fd args (ps.zip us) → Vals vs us → sp vs hp post ex →
    codeAny (model P w) A (.call (.ref f) args) (CR CX0 outer P w hp sh post ex) sh
section
variable {P : Program} {w : World} {K : PySem.W.Frag} {mg : Str → Option Value} {base : Heap}
theorem FnG.imp {k : Nat} {f : Addr} {fd : FuncData} {ps : List Str} {sp sp' : Sp} (F : FnG P w K mg base k f fd ps sp) (h : ∀ vs hp post ex, sp' vs hp post ex → sp vs hp post ex) : FnG P w K mg base k f fd ps sp' :=
  ⟨fun vs hp post ex q => F.size vs hp post ex (h _ _ _ _ q), fun A rm gd outer sh hp args us vs post ex e0 bd rv good => F.go A rm gd outer sh hp args us vs post ex e0 bd rv (h _ _ _ _ good)⟩
theorem fnG_mk {x qual : Str} {st : Stmt} {f : Addr} {fd : FuncData} {N ps : List Str} {k : Nat} {sp : Sp} (F : Fun K x qual st f fd) (S : FnScope N ps (defScope st)) (size : ∀ vs hp post ex, sp vs hp post ex → vs.length = ps.length)
    (body : ∀ (cdv : Value) (A : Around) (outer : List Env) (sh : Shared) (hp : Hp) (vs : List V) (post : VK) (ex : XK), Room k (A.deeper (envOfC qual (defScope st) sh.heap.objs.size f cdv)) → A.guards = some [] → sp vs hp post ex →
      ∃ t, PSs (cxOf CX0 P w K mg base N qual (defScope st) f cdv A outer sh hp ex).nox (defBody st) t ∧ t { nx := fun _ hq => post .non hq, rt := post } (start N vs) hp) : FnG P w K mg base (k + 1) f fd ps sp := by
  obtain ⟨oc, od, kV, doc, pm, an, cdv, ct, osl, rfl, found, coded⟩ := F.ex
  refine ⟨size, fun A rm gd outer sh hp args us vs post ex e0 bd rv good => ?_⟩
  have sizes := size _ _ _ _ good
  have frag : K.In sh.heap := e0.mod.kin.keeps fun b o got => (e0.bs b o got).1
  have free : sh.heap.NoLimit := e0.mod.nolimit.keeps fun b o got => (e0.bs b o got).1
  have kinds : ∀ y ∈ ps.zip us, (defScope st).names.lookup y.1 = some .local ∨ ((defScope st).names.lookup y.1 = some .cell ∧ ((cellsFrom (sh.heap.objs.size + 1) (defScope st).names []).lookup y.1).isSome = true) := fun ⟨nm, val⟩ among => by
    cases S.par nm (List.of_mem_zip among).1 with
    | inl one => exact .inl one
    | inr two => exact .inr ⟨two, PySem.W.cellsFrom_some _ _ _ (.inl two)⟩
  refine codeAny_call_function rm.depth (frag _ _ found) rfl S.co S.gen rfl (PySem.W.codeRec_of frag coded) (bd _ _ _ _ ?_)
  refine wpAny_newFunctionEnv_cells S.kind kinds fun env mine sh1 entered => ?_
  subst mine
  refine ⟨free.keeps entered.toInCall.keep, codeAny_func ?_⟩
  obtain ⟨t, runs, asks⟩ := body cdv A outer sh hp vs post ex (rm.deeper _) gd good
  have inv : Inv (cxOf CX0 P w K mg base N qual (defScope st) f cdv A outer sh hp ex) [] (start N vs) hp sh1 := inv_start S rm.hd e0 sizes rv entered
  refine wpAny_mono (runs.nox.run [] sh1 (start N vs) hp _ inv asks) (fun way sh2 ends => ?_) fun bad sh2 ends => ends
  cases way with
  | ret u =>
    obtain ⟨v, σ2, hp2, inv2, same, good2⟩ := ends
    exact ⟨v, hp2, inv2.os, inv2.bare, inv2.base, inv2.hok, same, good2⟩
  | next =>
    obtain ⟨σ2, hp2, inv2, good2⟩ := ends
    exact ⟨.non, hp2, inv2.os, inv2.bare, inv2.base, inv2.hok, rfl, good2⟩
  | brk => obtain ⟨_, _, _, none2⟩ := ends; exact False.elim none2
  | cont => obtain ⟨_, _, _, none2⟩ := ends; exact False.elim none2
end
section
variable {X : Cx} {k : Nat} {f : Addr} {fd : FuncData} {ps : List Str} {sp : Sp}
theorem runG {pins : List (Addr × Obj)} {σ : L2.St} {hp : Hp} {sh : Shared} {post : VK} {us : List Value} {vs : List V} (F : FnG X.prog X.w X.K X.mg X.base k f fd ps sp) (rm : Room k X.A) (gd : X.A.guards = some []) (hb : Binds X.K fd ps [])
    (inv : Inv X pins σ hp sh) (rv : Vals vs us) (good : sp vs hp post E0) : wpAny (model X.prog X.w) X.A (call (.ref f) us) (EP X pins σ post) X.xe sh := by
  have sizes : (us ++ []).length = ps.length := by rw [List.append_nil, ← rv.length]; exact F.size _ _ _ _ good
  have binds := hb sh us inv.kIn sizes
  rw [List.append_nil] at binds
  refine wpAny_call (codeAny_mono (F.go X.A rm gd X.stack sh hp ⟨us, []⟩ us vs post E0 inv.env0 binds rv good) fun res sh2 done => ?_)
  cases res with
  | error e => exact False.elim done
  | ok fl =>
    cases fl with
    | ret u => exact inv.after done
    | next => exact False.elim done
    | brk => exact False.elim done
    | cont => exact False.elim done
theorem pe_callG {x : Str} {p pos : Pos} {e : Expr} {es : List Expr} {t : TA} (F : FnG X.prog X.w X.K X.mg X.base k f fd ps sp) (rm : Room k X.A) (gd : X.A.guards = some []) (hg : Gl X x) (hm : X.mg x = some (.ref f)) (hk : PySem.W.keepIn X.K (.ref f) = true) (hb : Binds X.K fd ps [])
    (ha : PA X (e :: es) t) (hdb : (x == ("__debug__" : Str)) = false := by decide) (he : starEach (e :: es) X.env = (false, eval e X.env) :: starEach es X.env := by rfl) (hpl : (backTo pos (starEach es X.env)).any (·.1) = false := by rfl) :
    PE X (.Call (.Name x p) (e :: es) [] pos) (fun σ hp post => t σ hp fun vs hq => sp vs hq post E0) := ⟨fun pins sh σ hp post inv asks => wpAny_Call_Name_kw (ld_glob inv hg hm
    (PySem.W.callWith_K (h₀ := X.base) inv.ok.mod.kin hk (thn (ha.run pos pins sh σ hp _ inv asks) fun us sh1 got => by
      obtain ⟨vs, hp1, inv1, rv, good⟩ := got
      exact ⟨inv1.kIn, runG F rm gd hb inv1 rv good⟩) he hpl) hdb)⟩
end
end PK

namespace PK
open PySem L2 PySem.Spec PyProof.Rows
section
variable {P : Program} {w : World} {K : PySem.W.Frag} {mg : Str → Option Value} {base : Heap}
/-- a def that may show data: its body, while nothing is being shown -/
theorem fn_okDG {x qual : Str} {st : Stmt} {f : Addr} {fd : FuncData} {N ps : List Str} {k : Nat} {fs : SF} (F : Fun K x qual st f fd) (S : FnScope N ps (defScope st))
    (hbody : ∀ (cdv : Value) (A : Around) (outer : List Env) (s : Shared) (H : Hp) (E : XK), Room k (A.deeper (envOfC qual (defScope st) s.heap.objs.size f cdv)) → A.guards = some [] → PDSs (cxOf CX0 P w K mg base N qual (defScope st) f cdv A outer s H E).nox (defBody st) fs) :
    FnG P w K mg base (k + 1) f fd ps (spD K mg ps.length (fnD N.length fs)) := by
  refine fnG_mk F S (fun vs H Q E h => h.1) (fun cdv A outer s H vs Q E hr gd h => ?_)
  refine ⟨_, hbody cdv A outer s H E hr gd, ?_⟩
  obtain ⟨hlen, B, Fr, ad, rs, cs, r, cs', S0, rv, e, hl, kk⟩ := h
  unfold fnD at e
  obtain ⟨⟨fl, δ'⟩, e1, e⟩ := Option.bind_eq_some_iff.mp e
  obtain ⟨cs2, e2, e⟩ := Option.bind_eq_some_iff.mp e
  have S1 : SRep K mg B Fr ad (start N vs) ⟨rs.map some ++ List.replicate (N.length - rs.length) none, cs.map some⟩ H := rps_start (δ := ⟨[], cs.map some⟩) S0 rv
  have hadl : ad.length = cs.length := by
    have := S0.len
    simpa using this
  refine ⟨B, Fr, ad, _, fl, δ', S1, e1, fun B' ad' σ' H' sB pA S' => ?_⟩
  obtain ⟨m, rfl⟩ := pA
  have base : SRep K mg B' Fr ad [] ⟨[], cs2.map some⟩ H' := by
    have := S'.pick e2 List.nodup_range
    rw [← hadl, addrs_range] at this
    exact this
  cases fl with
  | nx =>
    cases e
    exact kk B' .non H' sB ⟨base, rfl⟩
  | bk => cases e
  | ct => cases e
  | rt v =>
    intro u hu
    cases v with
    | fz d =>
      cases e
      exact kk B' u H' sB ⟨base, hu⟩
    | rf j =>
      simp only at e
      split at e
      · rename_i hj
        split at e
        · rename_i es hes
          cases e
          obtain ⟨a, rfl, ha⟩ := hu
          refine kk B' _ H' sB ⟨a, rfl, ?_⟩
          have hnd : (List.range cs.length ++ [j]).Nodup := by
            rw [List.nodup_append]
            refine ⟨List.nodup_range, by simp, fun x hx y hy => ?_⟩
            have hy' : y = j := by simpa using hy
            have hx' : x < cs.length := by simpa using hx
            omega
          have := S'.pick (lives_app e2 hes) hnd
          rw [addrs_app _ _ _ _ ha, ← hadl, addrs_range] at this
          exact this
        · cases e
      · cases e
end
section
variable {X : Cx} {e : Expr} {es : List Expr} {fs : AF} {p pos : Pos}
theorem pd_callG {k n : Nat} {f : Addr} {fd : FuncData} {ps : List Str} {G : GF} {x : Str} (m : Bool) (Fk : FnG X.prog X.w X.K X.mg X.base k f fd ps (spD X.K X.mg n G)) (hr : Room k X.A) (gd : X.A.guards = some []) (hg : Gl X x) (hm : X.mg x = some (.ref f)) (hk : PySem.W.keepIn X.K (.ref f) = true)
    (hb : Binds X.K fd ps []) (ha : PDA X (e :: es) fs) (hdb : (x == ("__debug__" : Str)) = false := by decide) (he : starEach (e :: es) X.env = (false, eval e X.env) :: starEach es X.env := by rfl)
    (hpl : (backTo pos (starEach es X.env)).any (·.1) = false := by rfl) : PD X (.Call (.Name x p) (e :: es) [] pos) (dCallN m n G fs) :=
  PE.weak (pe_callG Fk hr gd hg hm hk hb ha hdb he hpl) fun σ H Q h => by
    obtain ⟨B, F, ad, δ, r, δ', S, e, k⟩ := h
    unfold dCallN at e
    obtain ⟨⟨rs, δ1⟩, e1, e⟩ := Option.bind_eq_some_iff.mp e
    split at e
    · rename_i hl
      refine ⟨B, F, ad, δ, rs, δ1, S, e1, fun B1 ad1 vs H1 s1 p1 S1 r1 => ?_⟩
      exact call_w S1 r1 (by rw [r1.length]; exact hl) e fun B' ad' v H' s2 p2 S' r' => k B' ad' v H' (s1.trans s2) (p1.trans p2) S' r'
    · cases e
end
/-! ### repr -/
mutual
theorem noDict_of : ∀ d : PyData, d.canLay0 = true → d.hasDict = false
  | .none, _ => rfl
  | .bool _, _ => rfl
  | .int _, _ => rfl
  | .str _, _ => rfl
  | .list xs, h => by
    rw [PyData.hasDict]
    exact noDict_all xs (by simpa [PyData.canLay0] using h)
  | .tuple xs, h => by
    rw [PyData.hasDict]
    exact noDict_all xs (by simpa [PyData.canLay0] using h)
  | .dict _, h => by simp [PyData.canLay0] at h
theorem noDict_all : ∀ ds : List PyData, PyData.canLayAll0 ds = true → PyData.hasDictAll ds = false
  | [], _ => rfl
  | d :: ds, h => by
    have h' : d.canLay0 = true ∧ PyData.canLayAll0 ds = true := by simpa [PyData.canLayAll0] using h
    rw [PyData.hasDictAll, noDict_of d h'.1, noDict_all ds h'.2]
    rfl
end
/-- plain data whose text is not too long -/
def rpOk (p : PyData) : Bool := p.canLay0 && p.showable && p.intsShort 400 && decide (p.weight ≤ 40000) && decide (p.depth ≤ 60)
theorem rpOk_len {p : PyData} (h : rpOk p = true) : p.shown.length ≤ sizeLine := by
  simp only [rpOk, Bool.and_eq_true, decide_eq_true_eq] at h
  have h2 := PyData.shown_le 400 (by decide) p (PyData.leavesShort_of_canLay0 400 p h.1.1.1.1 h.1.1.2)
  have e : sizeLine = 16777216 := by decide
  omega
def reprD : CF := g1 fun δ d => match toPy d with
  | some p => if rpOk p then some (.fz (.str p.shown), δ) else none
  | none => none
section
variable {X : Cx}
theorem oc_repr (gd : X.A.guards = some []) (hu : X.A.units + 64 < cLine) : CallR X (.builtin "repr") (rDC X.K X.mg reprD) := by
  intro pins s σ H xs us Q I r h
  obtain ⟨v, rfl, B, F, ad, σ', δ, d, r', δ', S, vw, e, k⟩ := rDC1 h
  obtain ⟨u, rfl, rel⟩ := vals1 r
  cases hp : toPy d with
  | none => rw [hp] at e; cases e
  | some p =>
    rw [hp] at e
    simp only at e
    split at e
    · rename_i ok
      cases e
      have q : Q (.str p.shown) H := here (d := .str p.shown) S rfl k
      have size := rpOk_len ok
      have dp : Dp X.K H v p := dpw_of S.exB vw hp
      obtain ⟨as, rd⟩ := Dp.reads I p v u dp rel
      simp only [rpOk, Bool.and_eq_true, decide_eq_true_eq] at ok
      have noD := noDict_of p ok.1.1.1.1
      cases rd with
      | none => exact PySem.P.repr_of_none ⟨.str _, H, I.tok _, ⟨_, rfl⟩, q⟩
      | bool b => exact PySem.P.repr_of_bool ⟨.str _, H, I.tok _, ⟨_, rfl⟩, q⟩
      | int i t =>
        have hi : i.natAbs.log2 < 1920 := by simpa [PyData.showable] using ok.1.1.1.2
        exact PySem.P.repr_of_int hi ⟨.str _, H, I.tok _, ⟨_, rfl⟩, q⟩
      | str x t => exact PySem.P.repr_of_str ⟨.str _, H, I.tok _, ⟨_, rfl⟩, q⟩ size
      | list h1 h2 h3 h4 => exact PySem.repr_of_reads' (h₀ := s.heap) (.list h1 h2 h3 h4) ok.1.1.1.2 (PyData.noDict_hsm noD) gd (by omega) (fun _ _ e => e) (fun h' u2 tk kept => ⟨.str _, H, I.kept kept, ⟨_, rfl⟩, q⟩) size
      | tuple h1 h2 h3 h4 => exact PySem.repr_of_reads' (h₀ := s.heap) (.tuple h1 h2 h3 h4) ok.1.1.1.2 (PyData.noDict_hsm noD) gd (by omega) (fun _ _ e => e) (fun h' u2 tk kept => ⟨.str _, H, I.kept kept, ⟨_, rfl⟩, q⟩) size
      | dict _ _ _ _ _ => cases noD
    · cases e
/-- two texts -/
def eqS (neg : Bool) : OF := fun δ x y => match x, y with
  | .str a, .str b => some (.fz (.bl (if neg then !decide (a = b) else decide (a = b))), δ)
  | _, _ => none
theorem eqS_w {K : PySem.W.Frag} {mg : Str → Option Value} {neg : Bool} {x y : V} {H : Hp} {Q : VK} (h : rD K mg (eqS neg) x y H Q) : scal x y = true ∧ Q (.bl (if neg then !decide (x = y) else decide (x = y))) H := by
  obtain ⟨B, F, ad, σ', δ, dx, dy, r, δ', S, vx, vy, e, k⟩ := h
  unfold eqS at e
  split at e
  · rename_i a b
    cases e
    have hx : x = .str a := vx
    have hy : y = .str b := vy
    subst hx hy
    refine ⟨rfl, ?_⟩
    have q := here (d := .bl (if neg then !decide (a = b) else decide (a = b))) S rfl k
    have hab : (V.str a = V.str b) ↔ a = b := ⟨fun z => by cases z; rfl, fun z => by rw [z]⟩
    simp only [hab]
    exact q
  · cases e
theorem od_eqS : OpR X (compareOp .Eq) (rD X.K X.mg (eqS false)) := fun pins s σ H x y v u Q I rx ry h => op_eq pins s σ H x y v u Q I rx ry (eqS_w h)
theorem od_neS : OpR X (compareOp .NotEq) (rD X.K X.mg (eqS true)) := fun pins s σ H x y v u Q I rx ry h => op_ne pins s σ H x y v u Q I rx ry (eqS_w h)
theorem bo_eqS {neg : Bool} : BoolOf (eqS neg) := by
  intro δ x y r δ' e
  unfold eqS at e
  split at e
  · cases e; exact ⟨_, rfl⟩
  · cases e
end
end PK

namespace PK
open PySem L2 PySem.Spec PyProof.Rows
/-! ### a law whose defs show data -/
theorem endG {P : Program} {w : World} {K : PySem.W.Frag} {mg mb : Str → Option Value} {k : Nat} {fa a : Addr} {fd : FuncData} {sp : Sp} {sh : Shared} {vs : List Value} {ns : List Int} (KX : K.In sh.heap) (gl : sh.heap.Ns mainGlobals mg) (bl : sh.heap.Ns builtinsNs mb)
    (bb : ∀ x : Str, x ≠ "__name__" → mb x = bootBuiltins x) (lim : sh.heap.NoLimit) (gens : sh.gens = #[]) (obj : sh.heap.get? a = some { cls := .type "list", data := .seq vs.toArray }) (nums : IntsAre vs ns) (short : ns.length ≤ sizeLine) (rm : Room k callerA)
    (F : ∀ base : Heap, K.In base → base.Ns mainGlobals mg → FnG P w K mg base k fa fd ["script"] sp) (bind : ∀ (s : Shared) (u : Value), BindsTo s fd ⟨[u], []⟩ [("script", u)])
    (asks : ∀ H : Hp, SqL K H a (ns.map V.int) → sp [.ref a] H (fun v _ => v = .bl true) fun _ _ _ => False) :
    codeAny (model P w) callerA (.call (.ref fa) ⟨[.ref a], []⟩) (fun res st => res = .ok (.ret (.bool true)) ∧ OldK sh.heap st.heap ∧ st.os = sh.os ∧ AllBare st.gens) sh := by
  have vals := vals_ints nums
  have many := nums.length
  obtain ⟨H, hH⟩ : ∃ H : Hp, H = fun b => if b = a ∧ K.lookup a = none then some (.frz { cls := .type "list", data := .seq vs.toArray } (.lst (ns.map V.int))) else none := ⟨_, rfl⟩
  have only : ∀ b u, H b = some u → b = a ∧ K.lookup a = none ∧ u = .frz { cls := .type "list", data := .seq vs.toArray } (.lst (ns.map V.int)) := fun b u e => by
    rw [hH] at e
    simp only at e
    split at e
    · rename_i c
      cases e
      exact ⟨c.1, c.2, rfl⟩
    · cases e
  have sq : SqL K H a (ns.map V.int) := by
    cases hk : K.lookup a with
    | some o =>
      have same := KX a o hk
      rw [obj] at same
      cases same
      exact .inr ⟨_, vs.toArray, _, hk, rfl, rfl, rfl, by rw [List.size_toArray, many]; exact short, by simpa using vals⟩
    | none => exact .inl (.inr ⟨{ cls := .type "list", data := .seq vs.toArray }, by rw [hH]; exact if_pos ⟨rfl, hk⟩⟩)
  have hok : HOk P w H sh.heap := fun b u e => by
    obtain ⟨rfl, _, rfl⟩ := only b u e
    exact ⟨obj, by rw [List.length_map]; exact short, vs, _, vals, obj⟩
  have bare : ∀ {b : Addr} {o : Obj} {es : Array DictEntry} {ep : Nat}, sh.heap.get? b = some o → o.data = .dict es ep → H b = none := fun {b o es ep} e d => by
    cases q : H b with
    | none => rfl
    | some u =>
      obtain ⟨rfl, _⟩ := only b u q
      rw [obj] at e
      cases e
      have d' : Data.seq vs.toArray _ = Data.dict es ep := d
      cases d'
  have names : ∀ {b : Addr} {m : Str → Option Value}, sh.heap.Ns b m → (hidT sh.heap H).Ns b m := fun {b m} h => by
    obtain ⟨o, es, ep, e, d, r⟩ := h
    exact ⟨o, es, ep, hidT_get e (bare e d), d, r⟩
  have KB : K.In (hidT sh.heap H) := fun b o e => hidT_get (KX b o e) (by
    cases q : H b with
    | none => rfl
    | some u =>
      obtain ⟨rfl, n, _⟩ := only b u q
      rw [n] at e
      cases e)
  obtain ⟨mc, free, cap⟩ := lim
  have mod : Mod K mg (hidT sh.heap H) := ⟨KB, names gl, ⟨mb, names bl, bb⟩, mc, names free, cap⟩
  have e0 : Env0 P w K mg (hidT sh.heap H) callerA [] sh H := ⟨rfl, mod, fun b o e => of_hidT e, Nat.le_of_eq (hidT_size _ _), trivial, fun b hb => (by cases hb), hok, .of_eq gens⟩
  refine codeAny_mono ((F _ KB (names gl)).go callerA rm rfl [] sh H ⟨[.ref a], []⟩ [.ref a] [.ref a] _ _ e0 (bind sh (.ref a)) (.cons rfl .nil) (asks H sq)) fun res st done => ?_
  match res, done with
  | .ok (.ret u), done =>
    obtain ⟨v, H2, os, ag, un, hok2, rel, good⟩ := done
    have good' : v = .bl true := good
    subst good'
    obtain rfl : u = Value.bool true := rel
    refine ⟨rfl, OldK.of_keep fun b o e => ?_, os, ag⟩
    cases q : H b with
    | none => exact un.keep b o e q (fun z => by cases z) (fun z => by cases z)
    | some u =>
      obtain ⟨rfl, _, rfl⟩ := only b u q
      obtain ⟨e1, _⟩ := hok b _ q
      obtain ⟨e2, _⟩ := hok2 b _ (un.frzs b _ _ q)
      rw [e] at e1
      cases e1
      exact e2
theorem walkLawG {l : PySem.W.OpenLaw} {k : Nat} {q : Program} {loose : List Str} {XP : (Str → Option Value) → Heap → Prop} {YP : World → Heap → Prop} {d : DefRec} {K : Params → PySem.W.Frag} (hn : l.most = some 63) (hdf : d.params.defaults = []) (hr : Room k callerA)
    (hY : ∀ (w : World) (h : Heap), YP w h → (K w.params).In h)
    (F : ∀ (w : World) (mg : Str → Option Value) (fa : Addr) (h : Heap), (K w.params).In h → h.Ns mainGlobals mg → mg d.name = some (.ref fa) →
      ∃ fd : FuncData, (∀ (s : Shared) (u : Value), BindsTo s fd ⟨[u], []⟩ [("script", u)]) ∧ ∀ base : Heap, (K w.params).In base → base.Ns mainGlobals mg → FnG l.prog w (K w.params) mg base k fa fd ["script"]
        (fun vs H Q _ => ∃ (a : Addr) (ns : List Int), vs = [.ref a] ∧ SqL (K w.params) H a (ns.map V.int) ∧ (ns.length ≤ 63 ∧ ∀ z ∈ ns, Builtin.Int.intBits z ≤ 1048576) ∧ ∀ H', Q (.bl true) H')) :
    PySem.W.WalkO q loose XP YP l.row.toRowW d [] (fun f vs => PySem.call f vs) := by
  refine Att.attach_callB hn hdf fun w st0 sh mg mb fa o pm cd doc a vs ns ground Y ho hd hcd named obj nums many bits gens => ?_
  obtain ⟨fd, bind, good⟩ := F w mg fa _ (hY w _ Y) ground.T.g named
  exact endG (hY w _ Y) ground.T.g ground.T.b ground.T.builtins ground.T.nolimit gens obj nums (Nat.le_trans many (by decide)) hr good bind fun H sq => ⟨a, ns, rfl, sq, ⟨many, bits⟩, fun _ => rfl⟩
end PK

namespace PK
open PySem L2 PySem.Spec PyProof.Rows
/-! ### data that may be shown, by size -/
def Shw (w k : Nat) (d : D) : Prop := ∃ p, toPy d = some p ∧ p.canLay0 = true ∧ p.showable = true ∧ p.intsShort 400 = true ∧ p.weight ≤ w ∧ p.depth ≤ k
theorem shw_int {i : Int} (h : i.natAbs < 2 ^ 390) : Shw 390 0 (.int i) := by
  have hl : i.natAbs.log2 < 390 ∨ i.natAbs = 0 := by
    rcases Nat.eq_zero_or_pos i.natAbs with e | e
    · exact .inr e
    · exact .inl ((Nat.log2_lt (by omega)).mpr h)
  have hl2 : i.natAbs.log2 < 390 := by
    rcases hl with e | e
    · exact e
    · rw [e]; decide
  refine ⟨.int i, rfl, rfl, ?_, ?_, ?_, Nat.zero_le _⟩
  · simp only [PyData.showable, decide_eq_true_eq]
    omega
  · have h2 := int_text_length_le (k := 390) (by decide) hl2
    refine decide_eq_true ?_
    show (Str.ofString (toString i)).length ≤ 400
    rw [PySem.ofString_length]
    omega
  · simp only [PyData.weight]
    split <;> omega
theorem shw_non : Shw 0 0 .non := ⟨.none, rfl, rfl, rfl, rfl, Nat.le_refl _, Nat.le_refl _⟩
theorem shw_bl {b : Bool} : Shw 0 0 (.bl b) := ⟨.bool b, rfl, rfl, rfl, rfl, Nat.le_refl _, Nat.le_refl _⟩
theorem shw_str {x : Str} (h : PyData.strOk x = true) : Shw x.cps.size 0 (.str x) := ⟨.str x, rfl, h, rfl, rfl, Nat.le_refl _, Nat.le_refl _⟩
theorem shws {w k : Nat} : ∀ {ds : List D}, (∀ d ∈ ds, Shw w k d) → ∃ ps, toPys ds = some ps ∧ PyData.canLayAll0 ps = true ∧ PyData.showableAll ps = true ∧ PyData.intsShortAll 400 ps = true ∧ PyData.weightAll ps ≤ (w + 1) * ds.length ∧ PyData.depthAll ps ≤ k
  | [], _ => ⟨[], rfl, rfl, rfl, rfl, Nat.zero_le _, Nat.zero_le _⟩
  | d :: ds, h => by
    obtain ⟨p, h1, h2, h3, h4, h5, h6⟩ := h d List.mem_cons_self
    obtain ⟨ps, g1, g2, g3, g4, g5, g6⟩ := shws (ds := ds) fun x hx => h x (List.mem_cons_of_mem _ hx)
    refine ⟨p :: ps, by simp [toPys, h1, g1], by simp [PyData.canLayAll0, h2, g2], by simp [PyData.showableAll, h3, g3], by simp [PyData.intsShortAll, h4, g4], ?_, by rw [PyData.depthAll]; exact Nat.max_le.mpr ⟨h6, g6⟩⟩
    rw [PyData.weightAll, List.length_cons, Nat.mul_succ]
    omega
theorem shw_tup {w k : Nat} {ds : List D} (h : ∀ d ∈ ds, Shw w k d) : Shw ((w + 1) * ds.length) (k + 1) (.tup ds) := by
  obtain ⟨ps, g1, g2, g3, g4, g5, g6⟩ := shws h
  exact ⟨.tuple ps, by simp [toPy, g1], by simp [PyData.canLay0, g2], by simp [PyData.showable, g3], by simp [PyData.intsShort, g4], by simpa [PyData.weight] using g5, by simp [PyData.depth, g6]⟩
theorem shw_lst {w k : Nat} {ds : List D} (h : ∀ d ∈ ds, Shw w k d) : Shw ((w + 1) * ds.length) (k + 1) (.lst ds) := by
  obtain ⟨ps, g1, g2, g3, g4, g5, g6⟩ := shws h
  exact ⟨.list ps, by simp [toPy, g1], by simp [PyData.canLay0, g2], by simp [PyData.showable, g3], by simp [PyData.intsShort, g4], by simpa [PyData.weight] using g5, by simp [PyData.depth, g6]⟩
theorem Shw.up {w k w' k' : Nat} {d : D} (h : Shw w k d) (hw : w ≤ w') (hk : k ≤ k') : Shw w' k' d := by
  obtain ⟨p, h1, h2, h3, h4, h5, h6⟩ := h
  exact ⟨p, h1, h2, h3, h4, Nat.le_trans h5 hw, Nat.le_trans h6 hk⟩
theorem Shw.rp {w k : Nat} {d : D} (h : Shw w k d) (hw : w ≤ 40000) (hk : k ≤ 60) : ∃ t, ∀ δ, reprD δ [d] = some (.fz (.str t), δ) := by
  obtain ⟨p, h1, h2, h3, h4, h5, h6⟩ := h
  have ok : rpOk p = true := by
    have a : p.weight ≤ 40000 := Nat.le_trans h5 hw
    have b : p.depth ≤ 60 := Nat.le_trans h6 hk
    simp [rpOk, h2, h3, h4, a, b]
  exact ⟨p.shown, fun δ => by simp [reprD, PK.g1, h1, ok]⟩
/-! ### reckoning with data functions, by parts -/
theorem cb1_ {g : CF} {f : EF} {δ δ1 : Dl} {r : Vl} {d : D} (e : f δ = some (r, δ1)) (hd : der δ1 r = some d) : dCB g (aCons f aNil) δ = g δ1 [d] := by
  simp [dCB, aCons, aNil, e, ders, hd]
/-- the texts of equal data are equal -/
theorem rp_same {neg : Bool} {w k : Nat} {fa fb : EF} {δ δ1 δ2 : Dl} {r1 r2 : Vl} {d : D} (h : Shw w k d) (hw : w ≤ 40000) (hk : k ≤ 60) (ea : fa δ = some (r1, δ1)) (da : der δ1 r1 = some d) (eb : fb δ1 = some (r2, δ2)) (db : der δ2 r2 = some d) :
    dOp (eqS neg) (dCB reprD (aCons fa aNil)) (dCB reprD (aCons fb aNil)) δ = some (.fz (.bl (!neg)), δ2) := by
  obtain ⟨t, ht⟩ := h.rp hw hk
  have e1 := (cb1_ (g := reprD) ea da).trans (ht δ1)
  have e2 := (cb1_ (g := reprD) eb db).trans (ht δ2)
  simp only [dOp, e1, Option.bind_some, e2, der, eqS]
  cases neg <;> simp
end PK

namespace PK
open PySem L2 PySem.Spec PyProof.Rows
theorem cl0 {G : GF} {m : Bool} {n : Nat} {fa : AF} {δ δ' : Dl} {rs : List Vl} {d : D} (ea : fa δ = some (rs, δ')) (hl : rs.length = n) (hr : refs rs = []) (eG : G (renum 0 rs) [] = some (.val d, [])) :
    dCallN m n G fa δ = some (.fz d, δ') := by
  simp [dCallN, ea, hl, callG, hr, lives, eG, PK.putAll]
theorem cl1 {G : GF} {m : Bool} {n k : Nat} {fa : AF} {δ δ' : Dl} {rs : List Vl} {p p' : List D} {d : D} (ea : fa δ = some (rs, δ')) (hl : rs.length = n) (hr : refs rs = [k]) (ek : δ'.st[k]? = some (some p)) (eG : G (renum 0 rs) [p] = some (.val d, [p'])) :
    dCallN m n G fa δ = some (.fz d, { δ' with st := δ'.st.set k (some p') }) := by
  simp [dCallN, ea, hl, callG, hr, lives, ek, eG, PK.putAll]
theorem cl2 {G : GF} {m : Bool} {n k l : Nat} {fa : AF} {δ δ' : Dl} {rs : List Vl} {p p' q q' : List D} {d : D} (ea : fa δ = some (rs, δ')) (hl : rs.length = n) (hr : refs rs = [k, l]) (hkl : k ≠ l) (ek : δ'.st[k]? = some (some p)) (el : δ'.st[l]? = some (some q)) (eG : G (renum 0 rs) [p, q] = some (.val d, [p', q'])) :
    dCallN m n G fa δ = some (.fz d, { δ' with st := (δ'.st.set k (some p')).set l (some q') }) := by
  simp [dCallN, ea, hl, callG, hr, lives, ek, el, eG, PK.putAll, hkl]
theorem cl0f {G : GF} {m : Bool} {n : Nat} {fa : AF} {δ δ' : Dl} {rs : List Vl} {es : List D} (ea : fa δ = some (rs, δ')) (hl : rs.length = n) (hr : refs rs = []) (eG : G (renum 0 rs) [] = some (.fresh es, [])) :
    dCallN m n G fa δ = some (PK.mk m es δ') := by
  simp [dCallN, ea, hl, callG, hr, lives, eG, PK.putAll]
theorem cl1f {G : GF} {m : Bool} {n k : Nat} {fa : AF} {δ δ' : Dl} {rs : List Vl} {p p' es : List D} (ea : fa δ = some (rs, δ')) (hl : rs.length = n) (hr : refs rs = [k]) (ek : δ'.st[k]? = some (some p)) (eG : G (renum 0 rs) [p] = some (.fresh es, [p'])) :
    dCallN m n G fa δ = some (PK.mk m es { δ' with st := δ'.st.set k (some p') }) := by
  simp [dCallN, ea, hl, callG, hr, lives, ek, eG, PK.putAll]
theorem sPar2 {i j : Nat} {fa : AF} {δ δ' : Dl} {x y : Vl} (h : fa δ = some ([x, y], δ')) : sPar [i, j] fa δ = some (.nx, { δ' with sl := (δ'.sl.set i (some x)).set j (some y) }) := by
  rw [sPar, h]
  rfl
theorem aC {f : EF} {g : AF} {δ δ1 δ2 : Dl} {r : Vl} {rs : List Vl} (h : f δ = some (r, δ1)) (h2 : g δ1 = some (rs, δ2)) : aCons f g δ = some (r :: rs, δ2) := by
  simp [aCons, h, h2]
theorem sSet_ {i : Nat} {f : EF} {δ δ1 : Dl} {r : Vl} (h : f δ = some (r, δ1)) : sSet i f δ = some (.nx, { δ1 with sl := δ1.sl.set i (some r) }) := by simp [sSet, h]
theorem sSeq_nx {f g : SF} {δ δ1 : Dl} (h : f δ = some (.nx, δ1)) : sSeq f g δ = g δ1 := by simp [sSeq, h]
theorem eqD_ne {k : Nat} {neg : Bool} {δ : Dl} {acc : List D} (h : acc ≠ []) (hn : ∀ x ∈ acc, Nice k x) (hk : k < 64) : eqD neg δ (.lst acc) (.lst []) = some (.fz (.bl neg), δ) := by
  cases acc with
  | nil => exact absurd rfl h
  | cons d ds => exact eqD_app hn hk
theorem dOp_ {g : OF} {fa fb : EF} {δ δ1 δ2 : Dl} {x y : Vl} {a b : D} (h1 : fa δ = some (x, δ1)) (h2 : fb δ1 = some (y, δ2)) (ha : der δ2 x = some a) (hb : der δ2 y = some b) : dOp g fa fb δ = g δ2 a b := by simp [dOp, h1, h2, ha, hb]
theorem dB_ {f : EF} {δ δ1 : Dl} {b : Bool} (h : f δ = some (.fz (.bl b), δ1)) : dB f δ = some (b, δ1) := by simp [dB, h, der, truD]
theorem sIf_ {t : BF} {f g : SF} {δ δ1 : Dl} {b : Bool} (h : t δ = some (b, δ1)) : sIf t f g δ = if b = true then f δ1 else g δ1 := by simp [sIf, h]
theorem cut_from (xs : List D) (k : Nat) : cutD xs (some (k : Int)) Option.none = xs.drop k := by
  rw [cutD, HT.sIx_nat, HT.sIx_none]
  by_cases h : k ≤ xs.length
  · rw [Nat.min_eq_left h, List.take_of_length_le (by simp)]
  · rw [Nat.min_eq_right (by omega), List.drop_eq_nil_of_le (Nat.le_refl _), List.drop_eq_nil_of_le (by omega)]
    simp
theorem cut_to (xs : List D) (k : Nat) : cutD xs Option.none (some (k : Int)) = xs.take k := by
  rw [cutD, HT.sIx_nat, HT.sIx_none]
  by_cases h : k ≤ xs.length
  · rw [Nat.min_eq_left h]
    simp
  · rw [Nat.min_eq_right (by omega), List.drop_zero, Nat.sub_zero, List.take_of_length_le (Nat.le_refl _), List.take_of_length_le (by omega)]
theorem sl_from {m : Bool} {f fl : EF} {δ δ1 δ2 : Dl} {xs : List D} {k : Nat} (e1 : f δ = some (.fz (.lst xs), δ1)) (e2 : fl δ1 = some (.fz (.int k), δ2)) : dSl m f (oSome fl) oNone δ = some (mk m (xs.drop k) δ2) := by
  simp [dSl, e1, e2, oSome, oNone, der, slD, cut_from]
theorem sl_to {m : Bool} {f fl : EF} {δ δ1 δ2 : Dl} {xs : List D} {k : Nat} (e1 : f δ = some (.fz (.lst xs), δ1)) (e2 : fl δ1 = some (.fz (.int k), δ2)) : dSl m f oNone (oSome fl) δ = some (mk m (xs.take k) δ2) := by
  simp [dSl, e1, e2, oSome, oNone, der, slD, cut_to]
theorem slt_from {m : Bool} {f fl : EF} {δ δ1 δ2 : Dl} {xs : List D} {k : Nat} (e1 : f δ = some (.fz (.tup xs), δ1)) (e2 : fl δ1 = some (.fz (.int k), δ2)) : dSl m f (oSome fl) oNone δ = some (.fz (.tup (xs.drop k)), δ2) := by
  simp [dSl, e1, e2, oSome, oNone, der, slD, cut_from]
theorem slt_to {m : Bool} {f fl : EF} {δ δ1 δ2 : Dl} {xs : List D} {k : Nat} (e1 : f δ = some (.fz (.tup xs), δ1)) (e2 : fl δ1 = some (.fz (.int k), δ2)) : dSl m f oNone (oSome fl) δ = some (.fz (.tup (xs.take k)), δ2) := by
  simp [dSl, e1, e2, oSome, oNone, der, slD, cut_to]
theorem add_t {xs ys : List D} {fa fb : EF} {δ δ1 δ2 : Dl} (e1 : fa δ = some (.fz (.tup xs), δ1)) (e2 : fb δ1 = some (.fz (.tup ys), δ2)) (hl : xs.length + ys.length ≤ 1000) : dOp (addD false) fa fb δ = some (.fz (.tup (xs ++ ys)), δ2) := by
  refine (dOp_ e1 e2 rfl rfl).trans ?_
  have : xs.length + ys.length ≤ small := by simp [small]; omega
  simp only [addD, this, if_true]
theorem lcGo_fil {α : Type} {ck : List (Nat × List D)} {own : List Nat} {test : BF} {elt : EF} {i : Nat} {sl : List (Option Vl)} {st : List (Option (List D))} {en out : α → D} {keep : α → Bool} (hck : CkOk ck ⟨sl, st⟩) : ∀ (xs : List α) (acc : List D), acc.length + xs.length ≤ small →
    (∀ x ∈ xs, ∃ sl', test ⟨sl.set i (some (.fz (en x))), st⟩ = some (keep x, ⟨sl', st⟩) ∧ (keep x = true → ∃ sl2, elt ⟨sl', st⟩ = some (.fz (out x), ⟨sl2, st⟩))) → lcGo ck (.nm i) own test elt sl (xs.map en) acc ⟨sl, st⟩ = some (acc ++ (xs.filter keep).map out, ⟨sl, st⟩)
  | [], acc, _, _ => by simp [lcGo, hck]
  | x :: xs, acc, hl, h => by
    rw [List.length_cons] at hl
    obtain ⟨sl', e, e2⟩ := h x List.mem_cons_self
    have h1 : acc.length < small := by omega
    cases hk : keep x with
    | true =>
      obtain ⟨sl2, e3⟩ := e2 hk
      have ih := lcGo_fil (own := own) hck xs (acc ++ [out x]) (by simp; omega) fun y hy => h y (List.mem_cons_of_mem _ hy)
      rw [List.append_assoc, List.singleton_append] at ih
      rw [List.map_cons, List.filter_cons, if_pos hk, List.map_cons, ← ih, lcGo]
      rw [hk] at e
      simp [h1, asgT, e, e3, frz, hck]
    | false =>
      have ih := lcGo_fil (own := own) hck xs acc (by omega) fun y hy => h y (List.mem_cons_of_mem _ hy)
      rw [List.map_cons, List.filter_cons, if_neg (by rw [hk]; exact Bool.false_ne_true), ← ih, lcGo]
      rw [hk] at e
      simp [h1, asgT, e, frz, hck]
theorem eqD_comm {neg : Bool} {δ : Dl} {a b : D} : eqD neg δ a b = eqD neg δ b a := by
  unfold eqD
  cases toPy a <;> cases toPy b <;> simp [PySem.W.eqv_comm, Bool.and_comm]
theorem eqD_val {k : Nat} {a b : D} (ha : Nice k a) (hb : Nice k b) (hk : k ≤ 64) : ∃ x, ∀ neg δ, eqD neg δ a b = some (.fz (.bl (neg != x)), δ) := by
  obtain ⟨p, h1, h2, h3⟩ := ha
  obtain ⟨q, g1, g2, g3⟩ := hb
  have hp : SeqAt.shaped p = true := by simp [SeqAt.shaped, h2, Nat.le_trans h3 hk]
  have hq : SeqAt.shaped q = true := by simp [SeqAt.shaped, g2, Nat.le_trans g3 hk]
  exact ⟨PyData.eqv p q, fun neg δ => by cases neg <;> simp [eqD, h1, g1, hp, hq]⟩
theorem nice_bl {k : Nat} {b : Bool} : Nice k (.bl b) := ⟨.bool b, rfl, rfl, Nat.zero_le _⟩
theorem eq_bl {neg x : Bool} {δ : Dl} : eqD neg δ (.bl x) (.bl x) = some (.fz (.bl (!neg)), δ) := eqD_self (k := 0) nice_bl (by decide)
theorem eq_same {k : Nat} {d : D} (h : Nice k d) (hk : k ≤ 64) (δ : Dl) (neg : Bool) : eqD neg δ d d = some (.fz (.bl (!neg)), δ) := eqD_self h hk
theorem mt0 {G : GF} {c m : Str} {mm : Bool} {n : Nat} {fo : EF} {fa : AF} {δ δ1 δ2 : Dl} {x : D} {rs : List Vl} {d : D} (e : fo δ = some (.fz x, δ1)) (hr : recvOk c m (.fz x) = true) (ea : fa δ1 = some (rs, δ2)) (hl : (Vl.fz x :: rs).length = n) (hrf : refs (Vl.fz x :: rs) = []) (eG : G (renum 0 (Vl.fz x :: rs)) [] = some (.val d, [])) :
    dMeth mm c m n G fo fa δ = some (.fz d, δ2) := by
  subst hl
  simp only [dMeth, e, Option.bind_some, hr, if_true, ea, if_pos, callG, hrf, List.nodup_nil, lives, eG, List.length_nil, PK.putAll]
theorem mt0f {G : GF} {c m : Str} {mm : Bool} {n : Nat} {fo : EF} {fa : AF} {δ δ1 δ2 : Dl} {x : D} {rs : List Vl} {es : List D} (e : fo δ = some (.fz x, δ1)) (hr : recvOk c m (.fz x) = true) (ea : fa δ1 = some (rs, δ2)) (hl : (Vl.fz x :: rs).length = n) (hrf : refs (Vl.fz x :: rs) = []) (eG : G (renum 0 (Vl.fz x :: rs)) [] = some (.fresh es, [])) :
    dMeth mm c m n G fo fa δ = some (PK.mk mm es δ2) := by
  subst hl
  simp only [dMeth, e, Option.bind_some, hr, if_true, ea, if_pos, callG, hrf, List.nodup_nil, lives, eG, List.length_nil, PK.putAll]
theorem lenI_ {c : Str} {G : GF} {f : EF} {δ δ1 : Dl} {ns : List Str} {ds : List D} {k : Nat} (h : f δ = some (.fz (.ins c ns ds), δ1)) (e : G [.fz (.ins c ns ds)] [] = some (.val (.int k), [])) (hk : k < 1000) : dLenI c G f δ = some (.fz (.int k), δ1) := by
  have h1 : (k : Int) < 2 ^ 62 := by omega
  simp only [dLenI, h, Option.bind_some, if_true, e]
  rw [if_pos ⟨by omega, h1⟩]
theorem bOr_ff {f g : BF} {δ δ1 δ2 : Dl} (h : f δ = some (false, δ1)) (h2 : g δ1 = some (false, δ2)) : bOr f g δ = some (false, δ2) := by simp [bOr, h, h2]
theorem bNot_ {f : BF} {δ δ1 : Dl} {b : Bool} (h : f δ = some (b, δ1)) : bNot f δ = some (!b, δ1) := by simp [bNot, h]
theorem forD_nm {i : Nat} {body : SF} {d : D} {ds : List D} {δ δ2 : Dl} {r : Option (Fl × Dl)} (h : body ⟨δ.sl.set i (some (.fz d)), δ.st⟩ = some (.nx, δ2)) (h2 : forD [] (.nm i) body ds δ2 = r) : forD [] (.nm i) body (d :: ds) δ = r := by
  rw [forD, if_pos (by simp)]
  simp only [asgT, Option.bind_some, h, h2]
theorem forD_nil0 {tg : Tg} {body : SF} {δ : Dl} : forD [] tg body [] δ = some (.nx, δ) := by
  rw [forD, if_pos (by simp)]
theorem bAnd_t {f g : BF} {δ δ1 : Dl} (h : f δ = some (true, δ1)) : bAnd f g δ = g δ1 := by simp [bAnd, h]
theorem bAnd_f {f g : BF} {δ δ1 : Dl} (h : f δ = some (false, δ1)) : bAnd f g δ = some (false, δ1) := by simp [bAnd, h]
theorem lcGo_map {α : Type} {own : List Nat} {elt : EF} {i : Nat} {sl : List (Option Vl)} {st : List (Option (List D))} {en out : α → D} : ∀ (xs : List α) (acc : List D), acc.length + xs.length ≤ small →
    (∀ x ∈ xs, ∃ sl', elt ⟨sl.set i (some (.fz (en x))), st⟩ = some (.fz (out x), ⟨sl', st⟩)) → lcGo [] (.nm i) own bYes elt sl (xs.map en) acc ⟨sl, st⟩ = some (acc ++ xs.map out, ⟨sl, st⟩)
  | [], acc, _, _ => by simp [lcGo]
  | x :: xs, acc, hl, h => by
    rw [List.length_cons] at hl
    obtain ⟨sl', e⟩ := h x List.mem_cons_self
    have ih := lcGo_map (own := own) xs (acc ++ [out x]) (by simp; omega) fun y hy => h y (List.mem_cons_of_mem _ hy)
    have h1 : acc.length < small := by omega
    rw [List.append_assoc, List.singleton_append] at ih
    rw [List.map_cons, List.map_cons, ← ih, lcGo]
    simp [h1, asgT, bYes, e, frz]
theorem atI_last {α : Type} (xs : List α) (x : α) : atI (xs ++ [x]) (-1) = some x := by
  unfold atI ixN
  rw [if_neg (by decide), List.length_append, List.length_singleton, if_pos (by omega), Option.bind_some, show (-1 + ((xs.length + 1 : Nat) : Int)).toNat = xs.length by omega]
  simp
end PK

namespace PK
open PySem L2 PySem.Spec PyProof.Rows
/-! ### while, by so many rounds -/
def whileN (t : BF) (f : SF) : Nat → Dl → Option (Fl × Dl)
  | 0, _ => none
  | m + 1, δ => (t δ).bind fun p => if p.1 then (f p.2).bind fun q => match q.1 with
      | .nx => whileN t f m q.2
      | .ct => whileN t f m q.2
      | .bk => some (.nx, q.2)
      | .rt r => some (.rt r, q.2)
    else some (.nx, p.2)
def sWhile (t : BF) (f : SF) : SF := whileN t f 1000000
theorem whileN_up {t : BF} {f : SF} : ∀ {m n : Nat} {δ : Dl} {r : Fl × Dl}, whileN t f m δ = some r → m ≤ n → whileN t f n δ = some r
  | 0, _, _, _, h, _ => by cases h
  | m + 1, 0, _, _, _, hn => absurd hn (by omega)
  | m + 1, n + 1, δ, r, h, hn => by
    rw [whileN] at h ⊢
    obtain ⟨⟨b, δ1⟩, e1, e⟩ := Option.bind_eq_some_iff.mp h
    rw [e1, Option.bind_some]
    cases b with
    | false => exact e
    | true =>
      rw [if_pos rfl] at e ⊢
      obtain ⟨⟨fl, δ2⟩, e2, e3⟩ := Option.bind_eq_some_iff.mp e
      rw [e2, Option.bind_some]
      cases fl with
      | nx => exact whileN_up e3 (by omega)
      | ct => exact whileN_up e3 (by omega)
      | bk => exact e3
      | rt v => exact e3
theorem sWhile_of {t : BF} {f : SF} {m : Nat} {δ : Dl} {r : Fl × Dl} (h : whileN t f m δ = some r) (hm : m ≤ 1000000) : sWhile t f δ = some r := whileN_up h hm
section
variable {X : Cx} {c : Expr} {ft : BF} {g : SF} {body : List Stmt} {pos : Pos}
theorem pds_while (hc : PDT X c ft) (hb : PDSs X body g) (hp : PassesOwn (model X.prog X.w) X.A X.env X.xe) : PDS X (.While c body [] pos) (sWhile ft g) := PS.weak (ps_while hp hc hb) fun D σ H h => by
  obtain ⟨B, F, ad, δ, r, δ', S, e, k⟩ := h
  unfold sWhile at e
  refine ⟨fun m σ2 H2 => ∃ B2 ad2 δ2, Same B B2 ∧ Pre ad ad2 ∧ SRep X.K X.mg B2 F ad2 σ2 δ2 H2 ∧ whileN ft g m δ2 = some (r, δ'), ⟨_, B, ad, δ, Same.refl _, Pre.refl _, S, e⟩, ?_⟩
  rintro m σ2 H2 ⟨B2, ad2, δ2, s2, p2, S2, e2⟩
  cases m with
  | zero => cases e2
  | succ m =>
    rw [whileN] at e2
    obtain ⟨⟨b, δ3⟩, e3, e4⟩ := Option.bind_eq_some_iff.mp e2
    refine ⟨B2, F, ad2, δ2, b, δ3, S2, e3, fun B3 ad3 H3 s3 p3 S3 => ?_⟩
    cases b with
    | false =>
      rw [if_neg Bool.false_ne_true] at e4 ⊢
      cases e4
      exact k B3 ad3 σ2 H3 (s2.trans s3) (p2.trans p3) S3
    | true =>
      rw [if_pos rfl] at e4 ⊢
      obtain ⟨⟨fl, δ4⟩, e5, e6⟩ := Option.bind_eq_some_iff.mp e4
      refine ⟨fun σ4 H4 => ∃ B4 ad4, Same B B4 ∧ Pre ad ad4 ∧ SRep X.K X.mg B4 F ad4 σ4 δ4 H4 ∧ whileN ft g m δ4 = some (r, δ'), fun σ4 H4 q => ?_, B3, F, ad3, δ3, fl, δ4, S3, e5, fun B4 ad4 σ4 H4 s4 p4 S4 => ?_⟩
      · obtain ⟨B4, ad4, s4, p4, S4, e7⟩ := q
        exact ⟨m, Nat.lt_succ_self m, B4, ad4, δ4, s4, p4, S4, e7⟩
      · cases fl with
        | nx => exact ⟨B4, ad4, (s2.trans s3).trans s4, (p2.trans p3).trans p4, S4, e6⟩
        | ct => exact ⟨B4, ad4, (s2.trans s3).trans s4, (p2.trans p3).trans p4, S4, e6⟩
        | bk =>
          cases e6
          exact k B4 ad4 σ4 H4 ((s2.trans s3).trans s4) ((p2.trans p3).trans p4) S4
        | rt v =>
          cases e6
          exact k B4 ad4 σ4 H4 ((s2.trans s3).trans s4) ((p2.trans p3).trans p4) S4
end
/-! ### gcd -/
def gcdD : CF := g2 fun δ x y => match x, y with
  | .int i, .int j => some (.fz (.int (Nat.gcd i.natAbs j.natAbs : Nat)), δ)
  | _, _ => none
section
variable {X : Cx} {e : Expr} {es : List Expr} {fs : AF} {p pos : Pos}
theorem oc_gcd : CallR X (.builtin "math.gcd") (rDC X.K X.mg gcdD) := by
  intro pins s σ H xs us Q I r h
  obtain ⟨v, w, rfl, B, F, ad, σ', δ, d, d2, r', δ', S, vw, vw2, e, k⟩ := rDC2 h
  refine cr_gcd pins s σ H _ us Q I r ?_
  cases d with
  | int i =>
    cases d2 with
    | int j =>
      cases e
      exact ⟨i, j, by rw [show v = .int i from vw, show w = .int j from vw2], here (d := .int _) S rfl k⟩
    | _ => cases e
  | _ => cases e
theorem pd_cbf {g : CF} {id : String} {x : Str} (hc : CallR X (.builtin id) (rDC X.K X.mg g)) (hg : Gl X x) (hm : X.mg x = some (.builtin id)) (ha : PDA X (e :: es) fs) (hdb : (x == ("__debug__" : Str)) = false := by decide)
    (he : starEach (e :: es) X.env = (false, eval e X.env) :: starEach es X.env := by rfl) (hpl : (backTo pos (starEach es X.env)).any (·.1) = false := by rfl) : PD X (.Call (.Name x p) (e :: es) [] pos) (dCB g fs) :=
  PE.weak (pe_callBfun hc hg hm ha hdb he hpl) fun σ H Q h => dCB_w h
end
end PK

namespace PK
open PySem L2 PySem.Spec PyProof.Rows
/-! ### the rest by a divisor of either sign -/
def modF : OF := fun δ x y => match x, y with
  | .int i, .int j => if j ≠ 0 then some (.fz (.int (i.fmod j)), δ) else none
  | _, _ => none
theorem od_modF {X : Cx} : OpR X (binaryOp .Mod) (rD X.K X.mg modF) := by
  intro pins s σ H x y v u Q I rx ry h
  obtain ⟨B, F, ad, σ', δ, dx, dy, r, δ', S, vx, vy, e, k⟩ := h
  unfold modF at e
  split at e
  · rename_i i j
    split at e
    · rename_i hm
      cases e
      exact op_modN pins s σ H x y v u Q I rx ry ⟨i, j, vx, vy, hm, here (d := .int (i.fmod j)) S rfl k⟩
    · cases e
  · cases e
end PK

namespace PK
open PySem PySem.Spec PyProof.Rows L2 RZ
/-! ### two things walked together: each one's iterator by what it keeps and gives -/
structure Itr (P : Program) (w : World) (it l : Addr) (S : Nat → Heap → Prop) (g : Nat → Option Value) : Prop where
  obj : ∀ k h, S k h → ∃ o, h.get? it = some o ∧ ∀ v, o.data ≠ .cell v
  keep : ∀ k h h', S k h → (∀ o, h.get? it = some o → h'.get? it = some o) → (∀ o, h.get? l = some o → h'.get? l = some o) → S k h'
  next : ∀ (A : Around) (E : Value → Shared → Prop) (sh : Shared) (k : Nat) (x : Value) (Q : Value → Shared → Prop), S k sh.heap → g k = some x → (∀ h', S (k + 1) h' → Heap.SameBut it sh.heap h' → Q x { sh with heap := h' }) → wpAny (model P w) A (Builtin.SmallTypes.nextOf (.ref it)) Q E sh
  stop : ∀ (A : Around) (E : Value → Shared → Prop) (sh : Shared) (k : Nat) (Q : Value → Shared → Prop), A.handled = none → S k sh.heap → g k = none → (∀ h' e, Heap.ExtBut it sh.heap h' → (∃ o, h'.get? e = some o ∧ o.cls = .type "StopIteration") → E (.ref e) { sh with heap := h' }) →
    wpAny (model P w) A (Builtin.SmallTypes.nextOf (.ref it)) Q E sh
theorem itr_list {P : Program} {w : World} {it l : Addr} {its : Array Value} (ne : l ≠ it) : Itr P w it l (fun k h => h.IsListIter it l k ∧ h.IsList l its) (fun k => its[k]?) where
  obj := fun k h a => by
    obtain ⟨⟨o, got, _, dat⟩, _⟩ := a
    exact ⟨o, got, fun v e => by rw [dat] at e; cases e⟩
  keep := fun k h h' a k1 k2 => by
    obtain ⟨⟨o, got, more⟩, o2, got2, more2⟩ := a
    exact ⟨⟨o, k1 o got, more⟩, o2, k2 o2 got2, more2⟩
  next := fun A E sh k x Q a e good => wpAny_nextOf_list_item a.1 a.2 e fun h' a1 sb => good h' ⟨a1, a.2.extBut sb.extBut ne⟩ sb
  stop := fun A E sh k Q hd a e good => wpAny_nextOf_list_end hd a.1 a.2 e good
theorem itr_tup {P : Program} {w : World} {it l : Addr} {its : Array Value} (ne : l ≠ it) : Itr P w it l (fun k h => h.IsTupleIter it l k ∧ h.IsTuple l its) (fun k => its[k]?) where
  obj := fun k h a => by
    obtain ⟨⟨o, got, _, dat⟩, _⟩ := a
    exact ⟨o, got, fun v e => by rw [dat] at e; cases e⟩
  keep := fun k h h' a k1 k2 => by
    obtain ⟨⟨o, got, more⟩, o2, got2, more2⟩ := a
    exact ⟨⟨o, k1 o got, more⟩, o2, k2 o2 got2, more2⟩
  next := fun A E sh k x Q a e good => nextOf_tuple_item a.1 a.2 e fun h' a1 sb => good h' ⟨a1, a.2.extBut sb.extBut ne⟩ sb
  stop := fun A E sh k Q hd a e good => nextOf_tuple_end hd a.1 a.2 e good
section
variable {P : Program} {w : World} {A : Around} {E : Value → Shared → Prop} {sh : Shared} {zo pi po ia ib la lb : Addr} {Sa Sb : Nat → Heap → Prop} {ga gb : Nat → Option Value} {ka kb : Nat} {a0 b0 : Value}
theorem zm_next {x y : Value} {Q : Value → Shared → Prop} (Ia : Itr P w ia la Sa ga) (Ib : Itr P w ib lb Sb gb) (D : ZipApart zo pi po ia ib la lb) (zz : IsZip sh.heap zo pi po .none) (pp : IsPair sh.heap pi (.ref ia) (.ref ib)) (qq : IsPair sh.heap po a0 b0)
    (ha : Sa ka sh.heap) (hb : Sb kb sh.heap) (ex : ga ka = some x) (ey : gb kb = some y)
    (good : ∀ h', IsZip h' zo pi po (rawInt sh.heap.objs.size) → IsPair h' po x y → Sa (ka + 1) h' → Sb (kb + 1) h' → IsPair h' sh.heap.objs.size x y → h'.objs.size = sh.heap.objs.size + 1 → (∀ c o, c ≠ zo → c ≠ po → c ≠ ia → c ≠ ib → sh.heap.get? c = some o → h'.get? c = some o) → Q (.ref sh.heap.objs.size) { sh with heap := h' }) :
    wpAny (model P w) A (Builtin.«zip.__next__» ⟨[.ref zo], []⟩) (fun fin sx => ∃ v, fin = .done (.ret v) ∧ Q v sx) E sh := by
  show wpAny _ _ (field (.ref zo) 2 >>= _) _ _ _; refine wpAny_bind (wpAny_field zz rfl (x := .bool false) rfl ?_)
  show wpAny _ _ (field (.ref zo) 3 >>= _) _ _ _; refine wpAny_bind (wpAny_field zz rfl (x := .ref pi) rfl (wpAny_bind (wpAny_seqItems pp rfl ?_)))
  show wpAny _ _ (Builtin.SmallTypes.ownedTupleIsFree (.ref zo) >>= _) _ _ _; refine wpAny_bind ?_; unfold Builtin.SmallTypes.ownedTupleIsFree
  refine wpAny_bind (wpAny_field zz rfl (x := .none) rfl (wpAny_pure ?_)); simp only [if_true]; refine wpAny_bind (wpAny_rule (wpAny_bind (wpAny_field zz rfl (x := .ref po) rfl (wpAny_bind (wpAny_setField_rec zz (by simp) fun m1 z1 c1 => ?_)))))
  replace z1 : IsZip m1 zo pi po .ellipsis := z1
  refine wpAny_bind ?_; simp only [List.forIn_cons, List.forIn_nil, List.zipIdx_cons, List.zipIdx_nil]; refine wpAny_bind (wpAny_bind (wpAny_onRaise ?_)); show wpAny _ _ (Builtin.SmallTypes.nextOf (.ref ia) >>= _) _ _ _
  have ha1 : Sa ka m1 := Ia.keep _ _ _ ha (fun o e => c1.extBut _ _ D.i1z e) fun o e => c1.extBut _ _ D.l1z e
  refine wpAny_bind (Ia.next _ _ _ _ _ _ ha1 ex fun m2 ha2 c2 => wpAny_pure ?_)
  have q2 : IsPair m2 po a0 b0 := c2.extBut _ _ D.TOi1 (c1.extBut _ _ D.TOz qq)
  refine wpAny_bind (wpAny_seqItems q2 rfl (wpAny_bind (wpAny_updateSeq_pair q2 fun m3 q3 c3 => ?_)))
  replace q3 : IsPair m3 po x b0 := q3
  refine wpAny_bind (wpAny_letGo (wpAny_pure ?_)); refine wpAny_bind (wpAny_bind (wpAny_onRaise ?_)); show wpAny _ _ (Builtin.SmallTypes.nextOf (.ref ib) >>= _) _ _ _
  have to3 : ∀ c o, c ≠ zo → c ≠ ia → c ≠ po → sh.heap.get? c = some o → m3.get? c = some o := fun c o n1 n2 n3 e => c3.extBut _ _ n3 (c2.extBut _ _ n2 (c1.extBut _ _ n1 e))
  have hb3 : Sb kb m3 := Ib.keep _ _ _ hb (fun o e => to3 _ o D.i2z D.i12.symm D.TOi2.symm e) fun o e => to3 _ o D.l2z D.l2i1 D.l2TO e
  refine wpAny_bind (Ib.next _ _ _ _ _ _ hb3 ey fun m4 hb4 c4 => wpAny_pure ?_)
  have q4 : IsPair m4 po x b0 := c4.extBut _ _ D.TOi2 q3
  refine wpAny_bind (wpAny_seqItems q4 rfl (wpAny_bind (wpAny_updateSeq_pair q4 fun m5 q5 c5 => ?_)))
  replace q5 : IsPair m5 po x y := q5
  refine wpAny_bind (wpAny_letGo (wpAny_pure (wpAny_pure (wpAny_bind (wpAny_seqItems q5 rfl (wpAny_bind (wpAny_newTuple ?_)))))))
  have same : m5.objs.size = sh.heap.objs.size := by rw [c5.1, c4.1, c3.1, c2.1, c1.1]
  have to5 : ∀ c o, c ≠ po → c ≠ ib → m3.get? c = some o → m5.get? c = some o := fun c o n1 n2 e => c5.extBut _ _ n1 (c4.extBut _ _ n2 e)
  have z3 : IsZip m3 zo pi po .ellipsis := c3.extBut _ _ D.TOz.symm (c2.extBut _ _ D.i1z.symm z1)
  have z5 : IsZip m5 zo pi po .ellipsis := to5 _ _ D.TOz.symm D.i2z.symm z3
  have ha5 : Sa (ka + 1) m5 := Ia.keep _ _ _ ha2 (fun o e => to5 _ o D.TOi1.symm D.i12 (c3.extBut _ _ D.TOi1.symm e)) fun o e => to5 _ o D.l1TO D.l1i2 (c3.extBut _ _ D.l1TO e)
  have hb5 : Sb (kb + 1) m5 := Ib.keep _ _ _ hb4 (fun o e => c5.extBut _ _ D.TOi2.symm e) fun o e => c5.extBut _ _ D.l2TO e
  have zlt : zo < m5.objs.size := Heap.lt_size z5
  show wpAny _ _ (Builtin.SmallTypes.ownedTupleHandOut (.ref zo) (.ref m5.objs.size) >>= _) _ _ _; refine wpAny_bind ?_; unfold Builtin.SmallTypes.ownedTupleHandOut
  have z6 : IsZip (m5.push { cls := .type "tuple", data := .seq #[x, y] }) zo pi po .ellipsis := Heap.get?_push_of_some _ z5
  refine wpAny_bind (wpAny_setField_rec z6 (by simp) fun m7 z7 c7 => ?_)
  replace z7 : IsZip m7 zo pi po (rawInt m5.objs.size) := z7
  refine wpAny_setField_rec z7 (by simp) fun m8 z8 c8 => ?_
  replace z8 : IsZip m8 zo pi po (rawInt m5.objs.size) := z8
  have up : ∀ c o, c ≠ zo → m5.get? c = some o → m8.get? c = some o := fun c o n e => c8.extBut _ _ n (c7.extBut _ _ n (Heap.get?_push_of_some _ e))
  have t8 : IsPair m8 m5.objs.size x y := c8.extBut _ _ (Nat.ne_of_gt zlt) (c7.extBut _ _ (Nat.ne_of_gt zlt) (Heap.get?_push_size _ rfl))
  have s8 : m8.objs.size = m5.objs.size + 1 := by rw [c8.1, c7.1, Heap.size_push]
  rw [same] at z8 t8 s8
  refine wpAny_pure ⟨_, rfl, ?_⟩; show Q (.ref m5.objs.size) _; rw [same]
  exact good m8 z8 (up _ _ D.TOz q5) (Ia.keep _ _ _ ha5 (fun o e => up _ o D.i1z e) fun o e => up _ o D.l1z e) (Ib.keep _ _ _ hb5 (fun o e => up _ o D.i2z e) fun o e => up _ o D.l2z e) t8 s8 fun c o n1 n2 n3 n4 e => up c o n1 (to5 c o n2 n4 (to3 c o n1 n3 n2 e))
theorem zm_stop {Q : Fin → Shared → Prop} (hd : A.handled = none) (Ia : Itr P w ia la Sa ga) (Ib : Itr P w ib lb Sb gb) (D : ZipApart zo pi po ia ib la lb) (zz : IsZip sh.heap zo pi po .none) (pp : IsPair sh.heap pi (.ref ia) (.ref ib)) (qq : IsPair sh.heap po a0 b0)
    (ha : Sa ka sh.heap) (hb : Sb kb sh.heap) (over : ga ka = none ∨ gb kb = none)
    (good : ∀ h' e, (∀ c o, c ≠ zo → c ≠ po → c ≠ ia → c ≠ ib → sh.heap.get? c = some o → h'.get? c = some o) → (∃ o, h'.get? e = some o ∧ o.cls = .type "StopIteration") → E (.ref e) { sh with heap := h' }) : wpAny (model P w) A (Builtin.«zip.__next__» ⟨[.ref zo], []⟩) Q E sh := by
  show wpAny _ _ (field (.ref zo) 2 >>= _) _ _ _; refine wpAny_bind (wpAny_field zz rfl (x := .bool false) rfl ?_)
  show wpAny _ _ (field (.ref zo) 3 >>= _) _ _ _; refine wpAny_bind (wpAny_field zz rfl (x := .ref pi) rfl (wpAny_bind (wpAny_seqItems pp rfl ?_)))
  show wpAny _ _ (Builtin.SmallTypes.ownedTupleIsFree (.ref zo) >>= _) _ _ _; refine wpAny_bind ?_; unfold Builtin.SmallTypes.ownedTupleIsFree
  refine wpAny_bind (wpAny_field zz rfl (x := .none) rfl (wpAny_pure ?_)); simp only [if_true]; refine wpAny_bind (wpAny_rule (wpAny_bind (wpAny_field zz rfl (x := .ref po) rfl (wpAny_bind (wpAny_setField_rec zz (by simp) fun m1 z1 c1 => ?_)))))
  replace z1 : IsZip m1 zo pi po .ellipsis := z1
  refine wpAny_bind ?_; simp only [List.forIn_cons, List.forIn_nil, List.zipIdx_cons, List.zipIdx_nil]; refine wpAny_bind (wpAny_bind (wpAny_onRaise ?_)); show wpAny _ _ (Builtin.SmallTypes.nextOf (.ref ia) >>= _) _ _ _
  have ha1 : Sa ka m1 := Ia.keep _ _ _ ha (fun o e => c1.extBut _ _ D.i1z e) fun o e => c1.extBut _ _ D.l1z e
  cases ex : ga ka with
  | none =>
    refine wpAny_bind (Ia.stop _ _ _ _ _ hd ha1 ex fun m2 e c2 stops => ?_)
    obtain ⟨oe, goe, cle⟩ := stops
    have z2 : IsZip m2 zo pi po .ellipsis := c2 _ _ D.i1z.symm z1
    have other : e ≠ zo := fun q => by subst q; rw [z2] at goe; cases goe; simp at cle
    refine wpAny_setField_rec z2 (by simp) fun m3 _ c3 => good m3 e (fun c o n1 _ n3 _ q => c3.extBut _ _ n1 (c2 _ _ n3 (c1.extBut _ _ n1 q))) ⟨oe, c3.extBut _ _ other goe, cle⟩
  | some x =>
    have ey : gb kb = none := by
      rcases over with q | q
      · rw [ex] at q; cases q
      · exact q
    refine wpAny_bind (Ia.next _ _ _ _ _ _ ha1 ex fun m2 ha2 c2 => wpAny_pure ?_)
    have q2 : IsPair m2 po a0 b0 := c2.extBut _ _ D.TOi1 (c1.extBut _ _ D.TOz qq)
    refine wpAny_bind (wpAny_seqItems q2 rfl (wpAny_bind (wpAny_updateSeq_pair q2 fun m3 q3 c3 => ?_)))
    refine wpAny_bind (wpAny_letGo (wpAny_pure ?_)); refine wpAny_bind (wpAny_bind (wpAny_onRaise ?_)); show wpAny _ _ (Builtin.SmallTypes.nextOf (.ref ib) >>= _) _ _ _
    have to3 : ∀ c o, c ≠ zo → c ≠ ia → c ≠ po → sh.heap.get? c = some o → m3.get? c = some o := fun c o n1 n2 n3 e => c3.extBut _ _ n3 (c2.extBut _ _ n2 (c1.extBut _ _ n1 e))
    have hb3 : Sb kb m3 := Ib.keep _ _ _ hb (fun o e => to3 _ o D.i2z D.i12.symm D.TOi2.symm e) fun o e => to3 _ o D.l2z D.l2i1 D.l2TO e
    refine wpAny_bind (Ib.stop _ _ _ _ _ hd hb3 ey fun m4 e c4 stops => ?_)
    obtain ⟨oe, goe, cle⟩ := stops
    have z4 : IsZip m4 zo pi po .ellipsis := c4 _ _ D.i2z.symm (c3.extBut _ _ D.TOz.symm (c2.extBut _ _ D.i1z.symm z1))
    have other : e ≠ zo := fun q => by subst q; rw [z4] at goe; cases goe; simp at cle
    refine wpAny_setField_rec z4 (by simp) fun m5 _ c5 => good m5 e (fun c o n1 n2 n3 n4 q => c5.extBut _ _ n1 (c4 _ _ n4 (to3 c o n1 n3 n2 q))) ⟨oe, c5.extBut _ _ other goe, cle⟩
theorem zm_item {x y : Value} {Q : Option Value → Shared → Prop} (Ia : Itr P w ia la Sa ga) (Ib : Itr P w ib lb Sb gb) (D : ZipApart zo pi po ia ib la lb) (zz : IsZip sh.heap zo pi po .none) (pp : IsPair sh.heap pi (.ref ia) (.ref ib)) (qq : IsPair sh.heap po a0 b0)
    (ha : Sa ka sh.heap) (hb : Sb kb sh.heap) (ex : ga ka = some x) (ey : gb kb = some y)
    (good : ∀ h', IsZip h' zo pi po (rawInt sh.heap.objs.size) → IsPair h' po x y → Sa (ka + 1) h' → Sb (kb + 1) h' → IsPair h' sh.heap.objs.size x y → h'.objs.size = sh.heap.objs.size + 1 → (∀ c o, c ≠ zo → c ≠ po → c ≠ ia → c ≠ ib → sh.heap.get? c = some o → h'.get? c = some o) → Q (some (.ref sh.heap.objs.size)) { sh with heap := h' }) :
    wpAny (model P w) A (pyNext (.ref zo)) Q E sh := by
  have ty : sh.TypeIs (.ref zo) "zip" := ⟨_, zz, rfl⟩
  unfold pyNext; exact wpAny_bind (wpAny_attempt (wpAny_callSpecial?_slot (name := Str.ofString "__next__") ty F.slot_zip_next (wpAny_call_entry F.slot_zip_next ty F.entry_zip_next (zm_next Ia Ib D zz pp qq ha hb ex ey fun h' r1 r2 r3 r4 r5 r6 r7 => wpAny_pure (good h' r1 r2 r3 r4 r5 r6 r7)) (F.args_zip_next_1 _))))
theorem zm_end {Q : Option Value → Shared → Prop} (hd : A.handled = none) (Ia : Itr P w ia la Sa ga) (Ib : Itr P w ib lb Sb gb) (D : ZipApart zo pi po ia ib la lb) (zz : IsZip sh.heap zo pi po .none) (pp : IsPair sh.heap pi (.ref ia) (.ref ib)) (qq : IsPair sh.heap po a0 b0)
    (ha : Sa ka sh.heap) (hb : Sb kb sh.heap) (over : ga ka = none ∨ gb kb = none) (good : ∀ h', (∀ c o, c ≠ zo → c ≠ po → c ≠ ia → c ≠ ib → sh.heap.get? c = some o → h'.get? c = some o) → Q none { sh with heap := h' }) : wpAny (model P w) A (pyNext (.ref zo)) Q E sh := by
  have ty : sh.TypeIs (.ref zo) "zip" := ⟨_, zz, rfl⟩
  unfold pyNext; refine wpAny_bind (wpAny_attempt (wpAny_callSpecial?_slot (name := Str.ofString "__next__") ty F.slot_zip_next (wpAny_call_entry F.slot_zip_next ty F.entry_zip_next (zm_stop hd Ia Ib D zz pp qq ha hb over fun h' e kept stops => ?_) (F.args_zip_next_1 _))))
  obtain ⟨oe, goe, cle⟩ := stops
  exact wpAny_bind (wpAny_isInstance (T := "StopIteration") (b := true) ⟨oe, goe, cle⟩ isSubtype_stop (wpAny_pure (good _ kept)))
end
end PK

namespace PK
open PySem PySem.Spec PyProof.Rows L2 RZ
/-- a list and a tuple, turn by turn, the items in new pairs -/
def ItM (K : PySem.W.Frag) (la lb : Addr) : It :=
  ⟨fun k hp => ∃ (xs ys : List V) (x y : V), SqL K hp la xs ∧ SqT K hp lb ys ∧ xs[k]? = some x ∧ ys[k]? = some y,
    fun k hp v hq => ∃ T x y, v = .ref T ∧ hp T = none ∧ hq = upd hp T (.tup [x, y]) ∧ (∀ xs, SqL K hp la xs → xs[k]? = some x) ∧ ∀ ys, SqT K hp lb ys → ys[k]? = some y,
    fun k hp => ∃ xs ys : List V, SqL K hp la xs ∧ SqT K hp lb ys ∧ (xs.length ≤ k ∨ ys.length ≤ k)⟩
def TnM (zo pi po ia ib la lb : Addr) (k : Nat) (h : Heap) : Prop := IsZip h zo pi po .none ∧ IsPair h pi (.ref ia) (.ref ib) ∧ (∃ x y, IsPair h po x y) ∧ h.IsListIter ia la k ∧ h.IsTupleIter ib lb k
theorem fiveM {zo pi po ia ib c : Addr} (h : c ∈ [zo, pi, po, ia, ib]) : c = zo ∨ c = pi ∨ c = po ∨ c = ia ∨ c = ib := by simpa using h
theorem TnM.here {zo pi po ia ib la lb : Addr} {k : Nat} {h : Heap} (t : TnM zo pi po ia ib la lb k h) : ∀ c ∈ [zo, pi, po, ia, ib], ∃ o, h.get? c = some o ∧ ∀ v, o.data ≠ .cell v := by
  obtain ⟨t1, t2, ⟨x, y, t3⟩, ⟨o1, t4, _, d1⟩, o2, t5, _, d2⟩ := t
  intro c hc
  rcases fiveM hc with q | q | q | q | q <;> rw [q]
  · exact ⟨_, t1, fun v e => nomatch e⟩
  · exact ⟨_, t2, fun v e => nomatch e⟩
  · exact ⟨_, t3, fun v e => nomatch e⟩
  · exact ⟨o1, t4, fun v e => by rw [d1] at e; cases e⟩
  · exact ⟨o2, t5, fun v e => by rw [d2] at e; cases e⟩
theorem turnM {P : Program} {w : World} {K : PySem.W.Frag} {elts : List Expr} {kk : Nat} {tpos : Pos} {zo pi po ia ib la lb : Addr} (D : ZipApart zo pi po ia ib la lb) : Turn P w K (.Tuple elts kk tpos) (ItM K la lb) [zo, pi, po, ia, ib] zo (TnM zo pi po ia ib la lb) where
  mem := List.mem_cons_self
  obj := fun k h t => t.here
  keep := fun k h h' t kept => by
    obtain ⟨t1, t2, ⟨x, y, t3⟩, ⟨o1, t4, r4⟩, o2, t5, r5⟩ := t
    exact ⟨kept zo (by simp) _ t1, kept pi (by simp) _ t2, ⟨x, y, kept po (by simp) _ t3⟩, ⟨o1, kept ia (by simp) o1 t4, r4⟩, o2, kept ib (by simp) o2 t5, r5⟩
  item := by
    rintro X rfl rfl rfl calm k pins sh σ hp E inv fps t ⟨xs, ys, x, y, q1, q2, g1, g2⟩
    have here := t.here
    obtain ⟨t1, t2, ⟨x0, y0, t3⟩, t4, t5⟩ := t
    obtain ⟨us, r1, p1, _⟩ := inv.list q1
    obtain ⟨vs, r2, p2, _⟩ := inv.tuple q2
    obtain ⟨u, gu, ru⟩ := r1.get g1
    obtain ⟨v, gv, rv⟩ := r2.get g2
    have low : zo < sh.heap.objs.size := Heap.lt_size t1
    refine zm_item (itr_list (its := us.toArray) D.l1i1) (itr_tup (its := vs.toArray) D.l2i2) D t1 t2 t3 ⟨t4, p1.isList⟩ ⟨t5, p2⟩ (x := u) (y := v) (by simpa using gu) (by simpa using gv) fun h' n1 n2 n3 n4 n5 n6 n7 => ⟨_, rfl, wpAny_letOwnedTupleGo_zip (s := { sh with heap := h' }) n1 fun h2 n8 sb => ?_⟩
    have up : ∀ c o, c ≠ zo → c ≠ po → c ≠ ia → c ≠ ib → sh.heap.get? c = some o → h2.get? c = some o := fun c o a1 a2 a3 a4 e => (sb.2 _ a1).trans (n7 c o a1 a2 a3 a4 e)
    have pair : h2.get? sh.heap.objs.size = some { cls := .type "tuple", data := .seq #[u, v] } := (sb.2 _ (Nat.ne_of_gt low)).trans n5
    have made : ObjOk X.prog X.w (upd hp sh.heap.objs.size (.tup [x, y])) h2 sh.heap.objs.size (.tup [x, y]) := ⟨by show 2 ≤ sizeLine; decide, [u, v], .cons ru (.cons rv .nil), ⟨_, pair, rfl, _, rfl⟩⟩
    have inv2 : Inv X pins σ (upd hp sh.heap.objs.size (.tup [x, y])) { sh with heap := h2 } := inv.turnedNew (t' := sh.toks) (ch := [zo, pi, po, ia, ib]) (fun c o out e => up c o (fun a => out (by simp [a])) (fun a => out (by simp [a])) (fun a => out (by simp [a])) (fun a => out (by simp [a])) e) fps (Nat.le_refl _) made
    refine ⟨.ref sh.heap.objs.size, _, inv2, rfl, ⟨_, x, y, rfl, inv.hok.fresh (Nat.le_refl _), rfl, fun l hl => by rw [inv.list_inj hl q1]; exact g1, fun l hl => by rw [inv.tuple_inj hl q2]; exact g2⟩, ⟨n8, up _ _ D.TIz D.TITO D.TIi1 D.TIi2 t2, ⟨u, v, (sb.2 _ D.TOz).trans n2⟩, ?_, ?_⟩, fun c hc => ?_⟩
    · obtain ⟨⟨o1, e1, m1⟩, _⟩ := n3
      exact ⟨o1, (sb.2 _ D.i1z).trans e1, m1⟩
    · obtain ⟨⟨o2, e2, m2⟩, _⟩ := n4
      exact ⟨o2, (sb.2 _ D.i2z).trans e2, m2⟩
    · obtain ⟨o, e, _⟩ := here c hc
      rw [upd_ne (Nat.ne_of_lt (Heap.lt_size e))]
      exact (fps c hc).1
  done := by
    rintro X rfl rfl rfl calm k pins sh σ hp E inv fps ⟨t1, t2, ⟨x0, y0, t3⟩, t4, t5⟩ ⟨xs, ys, q1, q2, over⟩
    obtain ⟨us, r1, p1, _⟩ := inv.list q1
    obtain ⟨vs, r2, p2, _⟩ := inv.tuple q2
    have n1 := r1.length
    have n2 := r2.length
    have out : us.toArray[k]? = none ∨ vs.toArray[k]? = none := by
      rcases over with a | a
      · exact .inl (by simp; omega)
      · exact .inr (by simp; omega)
    exact zm_end (inv.ok.hd calm) (itr_list (its := us.toArray) D.l1i1) (itr_tup (its := vs.toArray) D.l2i2) D t1 t2 t3 ⟨t4, p1.isList⟩ ⟨t5, p2⟩ out fun h' kept => ⟨rfl, inv.turnedL (t' := sh.toks) (ch := [zo, pi, po, ia, ib]) (fun c o no e => kept c o (fun a => no (by simp [a])) (fun a => no (by simp [a])) (fun a => no (by simp [a])) (fun a => no (by simp [a])) e) fps⟩
  self := fun A k sh Q E t good => wpAny_pyIter_zip t.1 good
/-! zip(xs, ys) is called -/
abbrev hM1 (h : Heap) (la : Addr) : Heap := h.push { cls := .type "list_iterator", data := .fields #[.ref la, .int 0 0] }
abbrev hM2 (h : Heap) (la lb : Addr) : Heap := (hM1 h la).push { cls := .type "tuple_iterator", data := .fields #[.ref lb, .int 0 0] }
abbrev hM3 (h : Heap) (la lb : Addr) : Heap := (hM2 h la lb).push { cls := .type "tuple", data := .seq #[.ref h.objs.size, .ref (hM1 h la).objs.size] }
abbrev hM4 (h : Heap) (la lb : Addr) : Heap := (hM3 h la lb).push { cls := .type "tuple", data := .seq #[.none, .none] }
abbrev hM5 (h : Heap) (la lb : Addr) : Heap := (hM4 h la lb).push { cls := .type "zip", data := .fields #[.none, .bool false, .bool false, .ref (hM2 h la lb).objs.size, .ref (hM3 h la lb).objs.size] }
theorem meetsM (la lb : Addr) (xs ys : Array Value) : Meets (Builtin.«zip.__new__» ⟨[.type "zip", .ref la, .ref lb], []⟩) (fun _ R sh => sh.heap.IsList la xs ∧ sh.heap.IsTuple lb ys ∧ R (.ok (.ret (.ref (hM4 sh.heap la lb).objs.size))) { sh with heap := hM5 sh.heap la lb }) :=
  .of_wp fun prog w A R sh h => by
    obtain ⟨m, g, d, tk, os⟩ := sh; obtain ⟨ia, ib, h⟩ := h
    have sub := sub_zip
    have fst : Heap.IsList (Shared.heap ⟨m, g, d, tk, os⟩) la xs := ia
    have snd : Heap.IsTuple (Shared.heap ⟨m.push { cls := .type "list_iterator", data := .fields #[.ref la, .int 0 0] }, g, d, tk, os⟩) lb ys := Heap.IsTuple.push ib _
    wp_walk using wpAny_pyIter_list fst, wpAny_pyIter_tuple snd
    exact ⟨_, rfl, h⟩
section
variable {P : Program} {w : World} {A : Around} {E : Value → Shared → Prop} {sh : Shared}
theorem callM {la lb : Addr} {xs ys : Array Value} {Q : Value → Shared → Prop} (fst : sh.heap.IsList la xs) (snd : sh.heap.IsTuple lb ys)
    (good : ∀ h', TnM (sh.heap.objs.size + 4) (sh.heap.objs.size + 2) (sh.heap.objs.size + 3) sh.heap.objs.size (sh.heap.objs.size + 1) la lb 0 h' → (∀ c o, sh.heap.get? c = some o → h'.get? c = some o) → Q (.ref (sh.heap.objs.size + 4)) { sh with heap := h' }) :
    wpAny (model P w) A (call (.type "zip") [.ref la, .ref lb]) Q E sh := by
  refine callType_new F.called_zip (by decide) (F.typeCall_zip_2 _ _) (F.newCall_zip_2 _ _) (fun ob => F.args_object_init_3 ob _ _) F.entry_zip_new (meetsM la lb xs ys) ⟨fst, snd, ?_⟩
  have n1 : (hM1 sh.heap la).objs.size = sh.heap.objs.size + 1 := Heap.size_push ..
  have n2 : (hM2 sh.heap la lb).objs.size = sh.heap.objs.size + 2 := by rw [Heap.size_push, n1]
  have n3 : (hM3 sh.heap la lb).objs.size = sh.heap.objs.size + 3 := by rw [Heap.size_push, n2]
  have n4 : (hM4 sh.heap la lb).objs.size = sh.heap.objs.size + 4 := by rw [Heap.size_push, n3]
  have up2 : ∀ c o, (hM3 sh.heap la lb).get? c = some o → (hM5 sh.heap la lb).get? c = some o := fun c o e => Heap.get?_push_of_some _ (Heap.get?_push_of_some _ e)
  have w5 : (hM5 sh.heap la lb).get? (hM4 sh.heap la lb).objs.size = some _ := Heap.get?_push_size _ rfl
  have w4 : (hM5 sh.heap la lb).get? (hM3 sh.heap la lb).objs.size = some _ := Heap.get?_push_of_some _ (Heap.get?_push_size _ rfl)
  have w3 : (hM5 sh.heap la lb).get? (hM2 sh.heap la lb).objs.size = some _ := up2 _ _ (Heap.get?_push_size _ rfl)
  have w2 : (hM5 sh.heap la lb).get? (hM1 sh.heap la).objs.size = some _ := up2 _ _ (Heap.get?_push_of_some _ (Heap.get?_push_size _ rfl))
  have w1 : (hM5 sh.heap la lb).get? sh.heap.objs.size = some _ := up2 _ _ (Heap.get?_push_of_some _ (Heap.get?_push_of_some _ (Heap.get?_push_size _ rfl)))
  rw [n2, n3, n4] at w5
  rw [n1, n2] at w3
  rw [n3] at w4
  rw [n1] at w2
  show _ ∧ _
  rw [n4]
  exact ⟨⟨_, w5, rfl⟩, good _ ⟨w5, w3, ⟨_, _, w4⟩, ⟨_, w1, rfl, rfl⟩, _, w2, rfl, rfl⟩ fun c o e => up2 c o (Heap.get?_push_of_some _ (Heap.get?_push_of_some _ (Heap.get?_push_of_some _ e)))⟩
end
def iZipM (K : PySem.W.Frag) (ta : TA) : TI := fun σ hp R => ta σ hp fun vs hq => ∃ la lb xs ys, vs = [.ref la, .ref lb] ∧ SqL K hq la xs ∧ SqT K hq lb ys ∧ R (ItM K la lb) hq
theorem pi_zipM {X : Cx} {e e2 : Expr} {ta : TA} {p pos tpos : Pos} {elts : List Expr} {kk : Nat} (hg : Gl X "zip") (hm : X.mg "zip" = none) (ha : PA X [e, e2] ta)
    (hs : starEach [e, e2] X.env = (false, eval e X.env) :: starEach [e2] X.env := by rfl) (hpl : (backTo pos (starEach [e2] X.env)).any (·.1) = false := by rfl) : PI X (.Tuple elts kk tpos) (.Call (.Name "zip" p) [e, e2] [] pos) (iZipM X.K ta) :=
  ⟨fun pins sh σ hp R inv asks => Call_ (ld_blt inv hg hm PyProof.Rows.boot_zip (PyProof.Rows.callWith_type1 (thn (ha.run pos pins sh σ hp _ inv asks) fun us s1 got => by
    obtain ⟨vs, hq, inv1, rel, la, lb, xs, ys, rfl, q1, q2, goes⟩ := got
    match us, rel with
    | [_, _], .cons ra (.cons rb .nil) =>
      cases ra
      cases rb
      obtain ⟨us, r1, p1, _⟩ := inv1.list q1
      obtain ⟨ws, r2, p2, _⟩ := inv1.tuple q2
      obtain ⟨o2, got2, _⟩ := id p2
      refine callM p1.isList (show s1.heap.IsTuple lb ws.toArray from p2) fun h' t kept => wpAny_pyIter_zip t.1 ?_
      have inv2 : Inv X pins σ hq { s1 with heap := h' } := inv1.kept (t' := s1.toks) kept
      refine ⟨s1.heap.objs.size + 4, _, _, _, hq, rfl, inv2, turnM (PySem.W.ktu_apart s1.heap.objs.size la lb p1.lt (Heap.lt_size got2)), t, fun c hc => ?_, goes⟩
      have far : s1.heap.objs.size ≤ c := by
        rcases fiveM hc with a | a | a | a | a <;> rw [a] <;> first | exact Nat.le_refl _ | exact Nat.le_add_right _ _
      exact inv1.fpOk far (inv1.hok.fresh far)) hs hpl))⟩
theorem walkM {K : PySem.W.Frag} {la lb : Addr} {xs ys : List V} {n : Nat} (hn : n = min xs.length ys.length) : Walk (ItM K la lb) n (fun hp => SqL K hp la xs ∧ SqT K hp lb ys) (YPair (fun k => xs[k]?) (fun k => ys[k]?)) := by
  subst hn
  refine ⟨fun k _ hk q => ?_, fun _ q => ⟨xs, ys, q.1, q.2, by omega⟩, fun k hp v hq _ q y => ?_⟩
  · have a1 : k < xs.length := by omega
    have a2 : k < ys.length := by omega
    exact ⟨xs, ys, xs[k], ys[k], q.1, q.2, by simp [a1], by simp [a2]⟩
  · obtain ⟨T, x, z, b1, b2, b3, b4, b5⟩ := y
    exact ⟨T, x, z, b1, b2, b3, b4 xs q.1, b5 ys q.2⟩
def iZipMD (f g : EF) : IF := fun δ => (f δ).bind fun p => (g p.2).bind fun q => match q.1 with
  | .fz (.tup ys) => (srcOf q.2 p.1).map fun z => (zipD z.1 ys, z.2, q.2)
  | _ => none
theorem pdi_zipM {X : Cx} {e e2 : Expr} {f g : EF} {p pos tpos : Pos} {elts : List Expr} {kk : Nat} (hg : Gl X "zip") (hm : X.mg "zip" = none) (ha : PD X e f) (hb : PD X e2 g)
    (hs : starEach [e, e2] X.env = (false, eval e X.env) :: starEach [e2] X.env := by rfl) (hs2 : starEach [e2] X.env = (false, eval e2 X.env) :: starEach [] X.env := by rfl) (hpl : (backTo pos (starEach [e2] X.env)).any (·.1) = false := by rfl) :
    PDI X (.Tuple elts kk tpos) (.Call (.Name "zip" p) [e, e2] [] pos) (iZipMD f g) := PI.weak (pi_zipM hg hm (pa_cons ha (pa_cons hb pa_nil hs2) hs) hs hpl) fun σ H R h => by
  obtain ⟨B, F, ad, δ, it, ck, δ', S, e, hck, k⟩ := h
  unfold iZipMD at e
  obtain ⟨⟨r, δ1⟩, e1, e⟩ := Option.bind_eq_some_iff.mp e
  obtain ⟨⟨q, δ2⟩, e2, e⟩ := Option.bind_eq_some_iff.mp e
  refine ⟨B, F, ad, δ, r, δ1, S, e1, fun B1 ad1 v H1 s1 p1 S1 r1 => ?_⟩
  refine ⟨B1, F, ad1, δ1, q, δ2, S1, e2, fun B2 ad2 w H2 s2 p2 S2 r2 => ?_⟩
  have r1' := r1.mono s2 p2
  simp only at e
  split at e
  · rename_i ys
    obtain ⟨⟨xs, c⟩, e3, e4⟩ := Option.map_eq_some_iff.mp e
    cases e4
    obtain ⟨a, as, h1, h2, h3, h4, h5⟩ := src_at S2 r1' e3
    obtain ⟨b, bs, g1, g2, g3⟩ := r2
    subst h1 g1
    refine ⟨a, b, as, bs, rfl, SqL.of h2, SqT.of (S2.exB _ _ g2), ?_⟩
    refine k B2 ad2 H2 (ItM X.K a b) (fun H => ∃ as, as.length = xs.length ∧ H a = some (.lst as) ∧ SqT X.K H b bs) (fun i H v H' => ∃ as, as.length = xs.length ∧ (H a = some (.lst as) ∧ SqT X.K H b bs) ∧ YPair (fun i => as[i]?) (fun i => bs[i]?) i H v H') (s1.trans s2) (p1.trans p2) S2 ?_ ?_ ?_
    · have hw : ∀ as : List V, as.length = xs.length → Walk (ItM X.K a b) (zipD xs ys).length (fun H => H a = some (.lst as) ∧ SqT X.K H b bs) (YPair (fun i => as[i]?) (fun i => bs[i]?)) := fun as hl =>
        (walkM (K := X.K) (la := a) (lb := b) (xs := as) (ys := bs) (by rw [zipD_len, hl, Rps.length g3])).mono (fun H q => ⟨SqL.of q.1, q.2⟩) fun _ _ _ _ _ _ y => y
      exact ⟨fun i H hi ⟨as, hl, q⟩ => (hw as hl).goes i H hi q, fun H ⟨as, hl, q⟩ => (hw as hl).stops H q, fun i H x H' hi ⟨as, hl, q⟩ y => ⟨as, hl, q, (hw as hl).yields i H x H' hi q y⟩⟩
    · intro B3 F3 ad3 σ3 δ3 H3 s3 p3 S3 cc
      obtain ⟨as', q1, q2⟩ := h5 B3 F3 ad3 σ3 δ3 H3 s3 p3 S3 cc
      exact ⟨as', Rps.length q2, q1, SqT.of (S3.exB _ _ (s3 _ _ g2))⟩
    · rintro i x B3 F3 ad3 σ3 δ3 H3 H4 s3 p3 S3 cc hi ⟨as1, hl, ⟨w1, w2⟩, T, y, z, rfl, hT, rfl, hy, hz⟩
      obtain ⟨as', q1, q2⟩ := h5 B3 F3 ad3 σ3 δ3 H3 s3 p3 S3 cc
      rw [q1] at w1
      cases w1
      obtain ⟨d, d1, d2⟩ := Rps.back q2 hy
      obtain ⟨d', d3, d4⟩ := Rps.back g3 hz
      obtain ⟨B4, s4, S4, r4⟩ := pair_new S3 hT d2 (Rp.mono s3 _ _ d4)
      exact ⟨B4, s4, S4, _, zipD_get d1 d3, r4⟩
  · cases e
end PK

namespace PK
open PySem PySem.Spec PyProof.Rows L2 RZ
/-! ### zip of two lists, of two tuples, of a list and a tuple -/
def iZipX (K : PySem.W.Frag) (ta : TA) : TI := fun σ hp R => ta σ hp fun vs hq => ∃ la lb xs ys, vs = [.ref la, .ref lb] ∧ ((SqL K hq la xs ∧ SqL K hq lb ys ∧ R (Itz K la lb) hq) ∨ (SqT K hq la xs ∧ SqT K hq lb ys ∧ R (ItzT K la lb) hq) ∨ (SqL K hq la xs ∧ SqT K hq lb ys ∧ R (ItM K la lb) hq))
theorem pi_zipX {X : Cx} {e e2 : Expr} {ta : TA} {p pos tpos : Pos} {elts : List Expr} {kk : Nat} (hg : Gl X "zip") (hm : X.mg "zip" = none) (ha : PA X [e, e2] ta)
    (hs : starEach [e, e2] X.env = (false, eval e X.env) :: starEach [e2] X.env := by rfl) (hpl : (backTo pos (starEach [e2] X.env)).any (·.1) = false := by rfl) : PI X (.Tuple elts kk tpos) (.Call (.Name "zip" p) [e, e2] [] pos) (iZipX X.K ta) :=
  ⟨fun pins sh σ hp R inv asks => Call_ (ld_blt inv hg hm PyProof.Rows.boot_zip (PyProof.Rows.callWith_type1 (thn (ha.run pos pins sh σ hp _ inv asks) fun us s1 got => by
    obtain ⟨vs, hq, inv1, rel, la, lb, xs, ys, rfl, ways⟩ := got
    match us, rel with
    | [_, _], .cons ra (.cons rb .nil) =>
      cases ra
      cases rb
      have far : ∀ c ∈ [s1.heap.objs.size + 4, s1.heap.objs.size + 2, s1.heap.objs.size + 3, s1.heap.objs.size, s1.heap.objs.size + 1], FpOk X pins hq c := fun c hc => by
        have low : s1.heap.objs.size ≤ c := by
          rcases fiveM hc with a | a | a | a | a <;> rw [a] <;> first | exact Nat.le_refl _ | exact Nat.le_add_right _ _
        exact inv1.fpOk low (inv1.hok.fresh low)
      rcases ways with ⟨q1, q2, goes⟩ | ⟨q1, q2, goes⟩ | ⟨q1, q2, goes⟩
      · obtain ⟨us, r1, p1, _⟩ := inv1.list q1
        obtain ⟨ws, r2, p2, _⟩ := inv1.list q2
        exact call_zip_2 p1.isList p2.isList fun h' t1 t2 t3 t4 t5 _ kept => wpAny_pyIter_zip t1 ⟨s1.heap.objs.size + 4, _, _, _, hq, rfl, inv1.kept (t' := s1.toks) kept, turn_zip (PySem.W.ktu_apart s1.heap.objs.size la lb p1.lt p2.lt), ⟨t1, t2, ⟨_, _, t3⟩, t4, t5⟩, far, goes⟩
      · obtain ⟨us, r1, p1, _⟩ := inv1.tuple q1
        obtain ⟨ws, r2, p2, _⟩ := inv1.tuple q2
        obtain ⟨o1, got1, _⟩ := id p1
        obtain ⟨o2, got2, _⟩ := id p2
        exact call_zipT (show s1.heap.IsTuple la us.toArray from p1) (show s1.heap.IsTuple lb ws.toArray from p2) fun h' t1 t2 t3 t4 t5 _ kept => wpAny_pyIter_zip t1 ⟨s1.heap.objs.size + 4, _, _, _, hq, rfl, inv1.kept (t' := s1.toks) kept, turn_zipT (PySem.W.ktu_apart s1.heap.objs.size la lb (Heap.lt_size got1) (Heap.lt_size got2)), ⟨t1, t2, ⟨_, _, t3⟩, t4, t5⟩, far, goes⟩
      · obtain ⟨us, r1, p1, _⟩ := inv1.list q1
        obtain ⟨ws, r2, p2, _⟩ := inv1.tuple q2
        obtain ⟨o2, got2, _⟩ := id p2
        exact callM p1.isList (show s1.heap.IsTuple lb ws.toArray from p2) fun h' t kept => wpAny_pyIter_zip t.1 ⟨s1.heap.objs.size + 4, _, _, _, hq, rfl, inv1.kept (t' := s1.toks) kept, turnM (PySem.W.ktu_apart s1.heap.objs.size la lb p1.lt (Heap.lt_size got2)), t, far, goes⟩) hs hpl))⟩
def iZipXD (f g : EF) : IF := fun δ => (f δ).bind fun p => (g p.2).bind fun q => match p.1, q.1 with
  | .fz (.tup xs), .fz (.tup ys) => some (zipD xs ys, [], q.2)
  | a, .fz (.tup ys) => (srcOf q.2 a).map fun z => (zipD z.1 ys, z.2, q.2)
  | a, b => match srcOf q.2 a, srcOf q.2 b with
    | some (xs, c), some (ys, d) => some (zipD xs ys, c ++ d, q.2)
    | _, _ => none
theorem pdi_zipX {X : Cx} {e e2 : Expr} {f g : EF} {p pos tpos : Pos} {elts : List Expr} {kk : Nat} (hg : Gl X "zip") (hm : X.mg "zip" = none) (ha : PD X e f) (hb : PD X e2 g)
    (hs : starEach [e, e2] X.env = (false, eval e X.env) :: starEach [e2] X.env := by rfl) (hs2 : starEach [e2] X.env = (false, eval e2 X.env) :: starEach [] X.env := by rfl) (hpl : (backTo pos (starEach [e2] X.env)).any (·.1) = false := by rfl) :
    PDI X (.Tuple elts kk tpos) (.Call (.Name "zip" p) [e, e2] [] pos) (iZipXD f g) := PI.weak (pi_zipX hg hm (pa_cons ha (pa_cons hb pa_nil hs2) hs) hs hpl) fun σ H R h => by
  obtain ⟨B, F, ad, δ, it, ck, δ', S, e, hck, k⟩ := h
  unfold iZipXD at e
  obtain ⟨⟨r, δ1⟩, e1, e⟩ := Option.bind_eq_some_iff.mp e
  obtain ⟨⟨q, δ2⟩, e2, e⟩ := Option.bind_eq_some_iff.mp e
  refine ⟨B, F, ad, δ, r, δ1, S, e1, fun B1 ad1 v H1 s1 p1 S1 r1 => ?_⟩
  refine ⟨B1, F, ad1, δ1, q, δ2, S1, e2, fun B2 ad2 w H2 s2 p2 S2 r2 => ?_⟩
  have r1' := r1.mono s2 p2
  simp only at e
  split at e
  · rename_i xs ys
    cases e
    obtain ⟨a, as, h1, h2, h3⟩ := r1'
    obtain ⟨b, bs, g1, g2, g3⟩ := r2
    subst h1 g1
    refine ⟨a, b, as, bs, rfl, .inr (.inl ⟨SqT.of (S2.exB _ _ h2), SqT.of (S2.exB _ _ g2), ?_⟩)⟩
    refine k B2 ad2 H2 (RZ.ItzT X.K a b) (fun H => SqT X.K H a as ∧ SqT X.K H b bs) _ (s1.trans s2) (p1.trans p2) S2 (walk_zipT (by rw [zipD_len, Rps.length h3, Rps.length g3])) ?_ ?_
    · intro B3 F3 ad3 σ3 δ3 H3 s3 p3 S3 c
      exact ⟨SqT.of (S3.exB _ _ (s3 _ _ h2)), SqT.of (S3.exB _ _ (s3 _ _ g2))⟩
    · rintro i x B3 F3 ad3 σ3 δ3 H3 H4 s3 p3 S3 c hi ⟨T, y, z, rfl, hT, rfl, hy, hz⟩
      obtain ⟨d, d1, d2⟩ := Rps.back h3 hy
      obtain ⟨d', d3, d4⟩ := Rps.back g3 hz
      obtain ⟨B4, s4, S4, r4⟩ := pair_new S3 hT (Rp.mono s3 _ _ d2) (Rp.mono s3 _ _ d4)
      exact ⟨B4, s4, S4, _, zipD_get d1 d3, r4⟩
  · rename_i r0 ys hne
    obtain ⟨⟨xs, c⟩, e3, e4⟩ := Option.map_eq_some_iff.mp e
    cases e4
    obtain ⟨a, as, h1, h2, h3, h4, h5⟩ := src_at S2 r1' e3
    obtain ⟨b, bs, g1, g2, g3⟩ := r2
    subst h1 g1
    refine ⟨a, b, as, bs, rfl, .inr (.inr ⟨SqL.of h2, SqT.of (S2.exB _ _ g2), ?_⟩)⟩
    refine k B2 ad2 H2 (ItM X.K a b) (fun H => ∃ as, as.length = xs.length ∧ H a = some (.lst as) ∧ SqT X.K H b bs) (fun i H v H' => ∃ as, as.length = xs.length ∧ (H a = some (.lst as) ∧ SqT X.K H b bs) ∧ YPair (fun i => as[i]?) (fun i => bs[i]?) i H v H') (s1.trans s2) (p1.trans p2) S2 ?_ ?_ ?_
    · have hw : ∀ as : List V, as.length = xs.length → Walk (ItM X.K a b) (zipD xs ys).length (fun H => H a = some (.lst as) ∧ SqT X.K H b bs) (YPair (fun i => as[i]?) (fun i => bs[i]?)) := fun as hl =>
        (walkM (K := X.K) (la := a) (lb := b) (xs := as) (ys := bs) (by rw [zipD_len, hl, Rps.length g3])).mono (fun H q => ⟨SqL.of q.1, q.2⟩) fun _ _ _ _ _ _ y => y
      exact ⟨fun i H hi ⟨as, hl, q⟩ => (hw as hl).goes i H hi q, fun H ⟨as, hl, q⟩ => (hw as hl).stops H q, fun i H x H' hi ⟨as, hl, q⟩ y => ⟨as, hl, q, (hw as hl).yields i H x H' hi q y⟩⟩
    · intro B3 F3 ad3 σ3 δ3 H3 s3 p3 S3 cc
      obtain ⟨as', q1, q2⟩ := h5 B3 F3 ad3 σ3 δ3 H3 s3 p3 S3 cc
      exact ⟨as', Rps.length q2, q1, SqT.of (S3.exB _ _ (s3 _ _ g2))⟩
    · rintro i x B3 F3 ad3 σ3 δ3 H3 H4 s3 p3 S3 cc hi ⟨as1, hl, ⟨w1, w2⟩, T, y, z, rfl, hT, rfl, hy, hz⟩
      obtain ⟨as', q1, q2⟩ := h5 B3 F3 ad3 σ3 δ3 H3 s3 p3 S3 cc
      rw [q1] at w1
      cases w1
      obtain ⟨d, d1, d2⟩ := Rps.back q2 hy
      obtain ⟨d', d3, d4⟩ := Rps.back g3 hz
      obtain ⟨B4, s4, S4, r4⟩ := pair_new S3 hT d2 (Rp.mono s3 _ _ d4)
      exact ⟨B4, s4, S4, _, zipD_get d1 d3, r4⟩
  · split at e
    · rename_i xs c ys d e3 e4
      cases e
      obtain ⟨a, as, h1, h2, h3, h4, h5⟩ := src_at S2 r1' e3
      obtain ⟨b, bs, g1, g2, g3, g4, g5⟩ := src_at S2 r2 e4
      subst h1 g1
      refine ⟨a, b, as, bs, rfl, .inl ⟨SqL.of h2, SqL.of g2, ?_⟩⟩
      refine k B2 ad2 H2 (Itz X.K a b) (fun H => ∃ as bs, (as.length = xs.length ∧ bs.length = ys.length) ∧ H a = some (.lst as) ∧ H b = some (.lst bs)) (fun i H v H' => ∃ as bs, (as.length = xs.length ∧ bs.length = ys.length) ∧ (H a = some (.lst as) ∧ H b = some (.lst bs)) ∧ YPair (fun i => as[i]?) (fun i => bs[i]?) i H v H') (s1.trans s2) (p1.trans p2) S2 ?_ ?_ ?_
      · have hw : ∀ as bs : List V, as.length = xs.length ∧ bs.length = ys.length → Walk (Itz X.K a b) (zipD xs ys).length (fun H => H a = some (.lst as) ∧ H b = some (.lst bs)) (YPair (fun i => as[i]?) (fun i => bs[i]?)) := fun as bs hl =>
          (walk_zip (K := X.K) (a := a) (b := b) (xs := as) (ys := bs) (by rw [zipD_len, hl.1, hl.2])).mono (fun H q => ⟨SqL.of q.1, SqL.of q.2⟩) fun _ _ _ _ _ _ y => y
        exact ⟨fun i H hi ⟨as, bs, hl, q⟩ => (hw as bs hl).goes i H hi q, fun H ⟨as, bs, hl, q⟩ => (hw as bs hl).stops H q, fun i H x H' hi ⟨as, bs, hl, q⟩ y => ⟨as, bs, hl, q, (hw as bs hl).yields i H x H' hi q y⟩⟩
      · intro B3 F3 ad3 σ3 δ3 H3 s3 p3 S3 cc
        obtain ⟨as', q1, q2⟩ := h5 B3 F3 ad3 σ3 δ3 H3 s3 p3 S3 (ck_app cc).1
        obtain ⟨bs', q3, q4⟩ := g5 B3 F3 ad3 σ3 δ3 H3 s3 p3 S3 (ck_app cc).2
        exact ⟨as', bs', ⟨Rps.length q2, Rps.length q4⟩, q1, q3⟩
      · rintro i x B3 F3 ad3 σ3 δ3 H3 H4 s3 p3 S3 cc hi ⟨as1, bs1, hl, ⟨w1, w2⟩, T, y, z, rfl, hT, rfl, hy, hz⟩
        obtain ⟨as', q1, q2⟩ := h5 B3 F3 ad3 σ3 δ3 H3 s3 p3 S3 (ck_app cc).1
        obtain ⟨bs', q3, q4⟩ := g5 B3 F3 ad3 σ3 δ3 H3 s3 p3 S3 (ck_app cc).2
        rw [q1] at w1
        rw [q3] at w2
        cases w1; cases w2
        obtain ⟨d, d1, d2⟩ := Rps.back q2 hy
        obtain ⟨d', d3, d4⟩ := Rps.back q4 hz
        obtain ⟨B4, s4, S4, r4⟩ := pair_new S3 hT d2 d4
        exact ⟨B4, s4, S4, _, zipD_get d1 d3, r4⟩
    · cases e
end PK

namespace PK
open PySem L2 PySem.Spec PyProof.Rows
/-! ### the floor by a divisor of either sign -/
def divF : OF := fun δ x y => match x, y with
  | .int i, .int j => if j ≠ 0 ∧ j.natAbs.log2 < 9000 then some (.fz (.int (i.fdiv j)), δ) else none
  | _, _ => none
def wideF (_ j : Int) : Prop := j ≠ 0 ∧ j.natAbs.log2 < 9000
theorem op_divF {X : Cx} : OpR X (binaryOp .FloorDiv) (rI wideF fun i j => .int (i.fdiv j)) := opI fun i j _ _ _ _ _ hc q => floordiv_int hc.1 q (.inl (PyProof.noPylong_of_log2 hc.2))
theorem od_divF {X : Cx} : OpR X (binaryOp .FloorDiv) (rD X.K X.mg divF) := by
  intro pins s σ H x y v u Q I rx ry h
  obtain ⟨B, F, ad, σ', δ, dx, dy, r, δ', S, vx, vy, e, k⟩ := h
  unfold divF at e
  split at e
  · rename_i i j
    split at e
    · rename_i hm
      cases e
      exact op_divF pins s σ H x y v u Q I rx ry ⟨i, j, vx, vy, hm, here (d := .int (i.fdiv j)) S rfl k⟩
    · cases e
  · cases e
end PK

namespace PK
open PySem L2 PySem.Spec PyProof.Rows
/-! ### names from a list -/
def hUnl (n : Nat) (g : HsF) : HF := fun d δ => match d with
  | .lst ds => if ds.length = n then g ds δ else none
  | _ => none
section
variable {X : Cx} {es : List Expr} {pos : Pos} {g : HsF}
theorem pgd_unl {k n : Nat} (hc : X.calm = true) (hg : PGs X es (gDs X.K X.mg g)) (hn : (assignEach es X.env).length = n := by rfl) (hst : (assignEach es X.env).findIdx? (·.1) = none := by rfl) : PG X (.Tuple es k pos) (gD X.K X.mg (hUnl n g)) :=
  PG.weak (pg_unl hc hg hn hst) fun v σ H Q h => by
  obtain ⟨B, F, ad, δ, d, δ', S, r, e, k⟩ := h
  cases d with
  | lst ds =>
    have e' : (if ds.length = n then g ds δ else none) = some δ' := e
    split at e'
    · rename_i hl
      obtain ⟨a, xs, rfl, h2, h3⟩ := r
      exact ⟨a, xs, rfl, SqL.of (S.exB _ _ h2), by rw [Rps.length h3]; exact hl, B, F, ad, δ, ds, δ', S, h3, e', k⟩
    · cases e'
  | _ => cases e
end
end PK

namespace PK
open PySem L2 PySem.Spec PyProof.Rows

/-! ### defs called with names, in any order -/
def pick {α : Type} (ix : List Nat) (xs : List α) : List α := ix.filterMap fun i => xs[i]?
theorem vals_get : ∀ {vs : List V} {us : List Value} (i : Nat), Vals vs us → (∃ v u, vs[i]? = some v ∧ us[i]? = some u ∧ RelV v u) ∨ (vs[i]? = none ∧ us[i]? = none) := fun {vs us} i r => by
  cases e : vs[i]? with
  | none => exact .inr ⟨rfl, r.none_of e⟩
  | some v =>
    obtain ⟨u, hu, ru⟩ := r.get e
    exact .inl ⟨v, u, rfl, hu, ru⟩
theorem pick_vals {vs : List V} {us : List Value} (r : Vals vs us) : ∀ ix : List Nat, Vals (pick ix vs) (pick ix us)
  | [] => .nil
  | i :: ix => by
    unfold pick
    rcases vals_get i r with ⟨v, u, e1, e2, ru⟩ | ⟨e1, e2⟩
    · rw [List.filterMap_cons_some e1, List.filterMap_cons_some e2]
      exact .cons ru (pick_vals r ix)
    · rw [List.filterMap_cons_none e1, List.filterMap_cons_none e2]
      exact pick_vals r ix
section
variable {K : PySem.W.Frag} {mg : Str → Option Value} {B : Hp} {ad : List Addr}
theorem rpvs_get : ∀ {rs : List Vl} {vs : List V} (i : Nat), RpVs K mg B ad rs vs → (∃ r v, rs[i]? = some r ∧ vs[i]? = some v ∧ RpV K mg B ad r v) ∨ (rs[i]? = none ∧ vs[i]? = none)
  | [], vs, i, h => by
    have h' : vs = [] := h
    subst h'
    exact .inr ⟨by simp, by simp⟩
  | r :: rs, vs, i, h => by
    obtain ⟨v, ws, rfl, h2, h3⟩ := h
    cases i with
    | zero => exact .inl ⟨r, v, rfl, rfl, h2⟩
    | succ i => simpa using rpvs_get i h3
theorem pick_rpvs {rs : List Vl} {vs : List V} (h : RpVs K mg B ad rs vs) : ∀ ix : List Nat, RpVs K mg B ad (pick ix rs) (pick ix vs)
  | [] => rfl
  | i :: ix => by
    unfold pick
    rcases rpvs_get i h with ⟨r, v, e1, e2, h2⟩ | ⟨e1, e2⟩
    · rw [List.filterMap_cons_some e1, List.filterMap_cons_some e2]
      exact ⟨v, _, rfl, h2, pick_rpvs h ix⟩
    · rw [List.filterMap_cons_none e1, List.filterMap_cons_none e2]
      exact pick_rpvs h ix
theorem rpvs_app : ∀ {rs ss : List Vl} {vs ws : List V}, RpVs K mg B ad rs vs → RpVs K mg B ad ss ws → RpVs K mg B ad (rs ++ ss) (vs ++ ws)
  | [], ss, vs, ws, h, g => by
    have h' : vs = [] := h
    subst h'
    exact g
  | r :: rs, ss, vs, ws, h, g => by
    obtain ⟨v, us, rfl, h2, h3⟩ := h
    exact ⟨v, us ++ ws, rfl, h2, rpvs_app h3 g⟩
end
/-- the values ahead are np, those by names nk; ix tells each parameter's -/
def dCallK (m : Bool) (n np nk : Nat) (ix : List Nat) (G : GF) (fa fk : AF) : EF := fun δ => (fa δ).bind fun p => (fk p.2).bind fun q =>
  if p.1.length = np ∧ q.1.length = nk ∧ (pick ix (p.1 ++ q.1)).length = n then callG m G (pick ix (p.1 ++ q.1)) q.2 else none
abbrev pk2 {α : Type} (ix : List Nat) : List α → List α → List α := fun us ws => pick ix (us ++ ws)
section
variable {X : Cx} {x : Str} {p pos : Pos} {e : Expr} {es : List Expr} {kws : List Keyword} {fa fk : AF}
/-- f(k = v, ..) -/
theorem pe_callN0 {CX : CXT} {k : Nat} {f : Addr} {fd : FuncData} {ps ks : List Str} {sp : Sp} {E : XK} {tk : TA} {g : List Value → List Value → List Value} {gV : List V → List V → List V} (F : FnOk X.prog X.w X.K X.mg X.base CX k f fd ps sp) (hr : Room k X.A) (hg : Gl X x) (hm : X.mg x = some (.ref f)) (hk : PySem.W.keepIn X.K (.ref f) = true) (hb : KBn X.K fd ps 0 ks g gV) (hx : Passes CX X E)
    (hkw : L2.PK X kws tk) (hall : (backToKw pos (keywordEach kws X.env)).all (·.1.isSome) = true := by rfl) (hks : (backToKw pos (keywordEach kws X.env)).filterMap (·.1) = ks := by rfl)
    (hdb : (x == ("__debug__" : Str)) = false := by decide)
    (hpl : ((backTo pos (starEach [] X.env)).any (·.1) || (backToKw pos (keywordEach kws X.env)).any (·.1.isNone)) = false := by rfl) :
    PE X (.Call (.Name x p) [] kws pos) (fun σ H Q => tk σ H fun zs H2 => zs.length = ks.length ∧ sp (gV [] zs) H2 Q E) := by
  refine ⟨fun pins s σ H Q I h => ?_⟩
  refine wpAny_Call_Name_kw (ld_glob I hg hm ?_ hdb)
  refine PySem.W.callWith_KW0 (first := []) (h₀ := X.base) I.ok.mod.kin hk hall ?_ hpl
  refine thn (hkw.run pos pins s σ H _ I h) fun ws s2 ⟨zs, H2, I2, rz, l2, q2⟩ => ⟨I2.kIn, ?_⟩
  rw [hks]
  exact run_fnN (us := []) (vs := []) F hr hb hx I2 .nil rz rfl l2 q2
theorem pd_callK0 {k n nk : Nat} {f : Addr} {fd : FuncData} {ps ks : List Str} {ix : List Nat} {G : GF} (m : Bool) (Fk : FnOk X.prog X.w X.K X.mg X.base CX0 k f fd ps (spD X.K X.mg n G)) (hr : Room k X.A) (hg : Gl X x) (hm : X.mg x = some (.ref f)) (hk : PySem.W.keepIn X.K (.ref f) = true)
    (hb : KBn X.K fd ps 0 ks (pk2 ix) (pk2 ix)) (hl : ks.length = nk) (ha : PDK X kws fk) (hall : (backToKw pos (keywordEach kws X.env)).all (·.1.isSome) = true := by rfl) (hks : (backToKw pos (keywordEach kws X.env)).filterMap (·.1) = ks := by rfl)
    (hdb : (x == ("__debug__" : Str)) = false := by decide)
    (hpl : ((backTo pos (starEach [] X.env)).any (·.1) || (backToKw pos (keywordEach kws X.env)).any (·.1.isNone)) = false := by rfl) :
    PD X (.Call (.Name x p) [] kws pos) (dCallK m n 0 nk ix G aNil fk) := PE.weak (pe_callN0 Fk hr hg hm hk hb pass0 ha hall hks hdb hpl) fun σ H Q h => by
  obtain ⟨B, F, ad, δ, r, δ', S, e, k⟩ := h
  unfold dCallK at e
  obtain ⟨⟨rs, δ1⟩, e1, e⟩ := Option.bind_eq_some_iff.mp e
  unfold aNil at e1
  cases e1
  obtain ⟨⟨ss, δ2⟩, e2, e⟩ := Option.bind_eq_some_iff.mp e
  split at e
  · rename_i hl2
    obtain ⟨h0, h1, h2⟩ := hl2
    refine ⟨B, F, ad, δ, ss, δ2, S, e2, fun B1 ad1 vs H1 s1 p1 S1 r1 => ?_⟩
    have hlen := r1.length
    refine ⟨by rw [hlen]; exact h1.trans hl.symm, ?_⟩
    have rr : RpVs X.K X.mg B1 ad1 (pick ix ([] ++ ss)) (pick ix ([] ++ vs)) := pick_rpvs (by simpa using r1) ix
    exact call_w S1 rr (by rw [rr.length]; exact h2) e fun B' ad' v H' s2 p2 S' r' => k B' ad' v H' (s1.trans s2) (p1.trans p2) S' r'
  · cases e
/-- f(e, .., k = v, ..) -/
theorem pd_callKN {k n np nk : Nat} {f : Addr} {fd : FuncData} {ps ks : List Str} {ix : List Nat} {G : GF} (m : Bool) (Fk : FnOk X.prog X.w X.K X.mg X.base CX0 k f fd ps (spD X.K X.mg n G)) (hr : Room k X.A) (hg : Gl X x) (hm : X.mg x = some (.ref f)) (hk : PySem.W.keepIn X.K (.ref f) = true)
    (hb : KBn X.K fd ps np ks (pk2 ix) (pk2 ix)) (hl : ks.length = nk) (ha : PDA X (e :: es) fa) (hkw : PDK X kws fk) (hall : (backToKw pos (keywordEach kws X.env)).all (·.1.isSome) = true := by rfl) (hks : (backToKw pos (keywordEach kws X.env)).filterMap (·.1) = ks := by rfl)
    (hdb : (x == ("__debug__" : Str)) = false := by decide) (he : starEach (e :: es) X.env = (false, eval e X.env) :: starEach es X.env := by rfl)
    (hpl : ((backTo pos (starEach (e :: es) X.env)).any (·.1) || (backToKw pos (keywordEach kws X.env)).any (·.1.isNone)) = false := by rfl) :
    PD X (.Call (.Name x p) (e :: es) kws pos) (dCallK m n np nk ix G fa fk) := PE.weak (pe_callN (E := E0) Fk hr hg hm hk hb pass0 ha hkw hall hks hdb he hpl) fun σ H Q h => by
  obtain ⟨B, F, ad, δ, r, δ', S, e, k⟩ := h
  unfold dCallK at e
  obtain ⟨⟨rs, δ1⟩, e1, e⟩ := Option.bind_eq_some_iff.mp e
  obtain ⟨⟨ss, δ2⟩, e2, e⟩ := Option.bind_eq_some_iff.mp e
  split at e
  · rename_i hl2
    obtain ⟨h0, h1, h2⟩ := hl2
    refine ⟨B, F, ad, δ, rs, δ1, S, e1, fun B1 ad1 vs H1 s1 p1 S1 r1 => ?_⟩
    refine ⟨B1, F, ad1, δ1, ss, δ2, S1, e2, fun B2 ad2 ws H2 s2 p2 S2 r2 => ?_⟩
    refine ⟨by rw [r1.length]; exact h0, by rw [r2.length]; exact h1.trans hl.symm, ?_⟩
    have rr : RpVs X.K X.mg B2 ad2 (pick ix (rs ++ ss)) (pick ix (vs ++ ws)) := pick_rpvs (rpvs_app (r1.mono s2 p2) r2) ix
    exact call_w S2 rr (by rw [rr.length]; exact h2) e fun B' ad' v H' s3 p3 S' r' => k B' ad' v H' ((s1.trans s2).trans s3) ((p1.trans p2).trans p3) S' r'
  · cases e
end

/-! ### an item of a displayed dict of written texts -/
def kvD : List (Str × EF) → Dl → Option (List (Str × D) × Dl)
  | [], δ => some ([], δ)
  | (x, f) :: r, δ => (f δ).bind fun p => match p.1 with
    | .fz d => (kvD r p.2).map fun q => ((x, d) :: q.1, q.2)
    | _ => none
def dDix (kfs : List (Str × EF)) (fi : EF) : EF := fun δ => (kvD kfs δ).bind fun p => (fi p.2).bind fun q => match q.1 with
  | .fz (.str x) => (p.1.lookup x).map fun d => (.fz d, q.2)
  | _ => none
section
variable {X : Cx} {pos : Pos}
def tKvs (K : PySem.W.Frag) (mg : Str → Option Value) : List (Str × EF) → List (TE × TE)
  | [] => []
  | (x, f) :: r => (tD K mg (dC (.str x)), tD K mg f) :: tKvs K mg r
theorem ppd_nil : PPs X pos [] [] (tKvs X.K X.mg []) := pps_nil
theorem ppd_cons {k v : Expr} {ks : List (Option Expr)} {vs : List Expr} {x : Str} {f : EF} {r : List (Str × EF)} (hk : PD X k (dC (.str x))) (hv : PD X v f) (hr : PPs X pos ks vs (tKvs X.K X.mg r)) : PPs X pos (some k :: ks) (v :: vs) (tKvs X.K X.mg ((x, f) :: r)) := pps_cons hk hv hr
inductive RKv (K : PySem.W.Frag) (mg : Str → Option Value) (B : Hp) : List (Str × D) → List (Key × V) → Prop
  | nil : RKv K mg B [] []
  | cons {x : Str} {d : D} {v : V} {r : List (Str × D)} {s : List (Key × V)} (h : Rp K mg B d v) (t : RKv K mg B r s) : RKv K mg B ((x, d) :: r) ((.inr x, v) :: s)
theorem RKv.mono {K : PySem.W.Frag} {mg : Str → Option Value} {B B' : Hp} (e : Same B B') {r : List (Str × D)} {s : List (Key × V)} (h : RKv K mg B r s) : RKv K mg B' r s := by
  induction h with
  | nil => exact .nil
  | cons h t ih => exact .cons (Rp.mono e _ _ h) ih
theorem RKv.length {K : PySem.W.Frag} {mg : Str → Option Value} {B : Hp} {r : List (Str × D)} {s : List (Key × V)} (h : RKv K mg B r s) : s.length = r.length := by
  induction h with
  | nil => rfl
  | cons h t ih => rw [List.length_cons, List.length_cons, ih]
theorem RKv.keys {K : PySem.W.Frag} {mg : Str → Option Value} {B : Hp} {r : List (Str × D)} {s : List (Key × V)} (h : RKv K mg B r s) : s.map (·.1) = r.map fun p => Sum.inr p.1 := by
  induction h with
  | nil => rfl
  | cons h t ih => rw [List.map_cons, List.map_cons, ih]
theorem RKv.get {K : PySem.W.Frag} {mg : Str → Option Value} {B : Hp} {r : List (Str × D)} {s : List (Key × V)} {x : Str} {d : D} (h : RKv K mg B r s) (e : r.lookup x = some d) : ∃ v, valV s (Sum.inr x : Key) = some v ∧ Rp K mg B d v := by
  induction h with
  | nil => cases e
  | @cons y d2 v r s h t ih =>
    rw [List.lookup_cons] at e
    by_cases q : x = y
    · subst q
      simp at e
      subst e
      exact ⟨v, valV_pos rfl, h⟩
    · have q2 : (x == y) = false := by simpa using q
      rw [q2] at e
      obtain ⟨w, h1, h2⟩ := ih e
      refine ⟨w, ?_, h2⟩
      unfold valV at h1 ⊢
      rw [List.find?_cons]
      have : decide ((Sum.inr y : Key) = Sum.inr x) = false := by
        simp
        exact fun z => q z.symm
      simp only [this]
      exact h1
theorem merge_app : ∀ (s acc : List (Key × V)), ((acc ++ s).map (·.1)).Nodup → mergeK acc s = acc ++ s
  | [], acc, _ => by simp [mergeK]
  | kv :: s, acc, h => by
    have h1 : putK acc kv.1 kv.2 = acc ++ [kv] := by
      unfold putK
      rw [if_neg]
      intro z
      rw [List.any_eq_true] at z
      obtain ⟨y, hy, e⟩ := z
      rw [List.map_append, List.map_cons, List.nodup_append] at h
      exact h.2.2 _ (List.mem_map_of_mem hy) _ List.mem_cons_self (of_decide_eq_true e)
    show mergeK (putK acc kv.1 kv.2) s = _
    rw [h1, merge_app s (acc ++ [kv]) (by simpa using h)]
    simp
theorem kvs_w {K : PySem.W.Frag} {mg : Str → Option Value} {Q : List (V × V) → Hp → Prop} {σ : L2.St} {F : Hp} : ∀ {kfs : List (Str × EF)} {B : Hp} {ad : List Addr} {δ δ' : Dl} {H : Hp} {kds : List (Str × D)}, SRep K mg B F ad σ δ H → kvD kfs δ = some (kds, δ') →
    (∀ B' ad' kvs H', Same B B' → Pre ad ad' → SRep K mg B' F ad' σ δ' H' → RKv K mg B' kds kvs → Q (kvs.map fun kv => (kV kv.1, kv.2)) H') → tPairs (tKvs K mg kfs) σ H Q
  | [], B, ad, δ, δ', H, kds, S, e, k => by
    unfold kvD at e
    cases e
    exact k B ad [] H (Same.refl _) (Pre.refl _) S .nil
  | (x, f) :: r, B, ad, δ, δ', H, kds, S, e, k => by
    unfold kvD at e
    obtain ⟨⟨v, δ1⟩, e1, e⟩ := Option.bind_eq_some_iff.mp e
    dsimp only at e
    split at e
    · rename_i d
      obtain ⟨⟨ks, δ2⟩, e2, e3⟩ := Option.map_eq_some_iff.mp e
      cases e3
      refine ⟨B, F, ad, δ, .fz (.str x), δ, S, rfl, fun B1 ad1 u H1 s1 p1 S1 r1 => ?_⟩
      have r1' : u = .str x := r1
      subst r1'
      refine ⟨B1, F, ad1, δ, .fz d, δ1, S1, e1, fun B2 ad2 w H2 s2 p2 S2 r2 => ?_⟩
      refine kvs_w S2 e2 fun B3 ad3 kvs H3 s3 p3 S3 r3 => ?_
      exact k B3 ad3 ((.inr x, w) :: kvs) H3 ((s1.trans s2).trans s3) ((p1.trans p2).trans p3) S3 (.cons (Rp.mono s3 _ _ r2) r3)
    · cases e
theorem pd_dix {keys : List (Option Expr)} {values : List Expr} {kfs : List (Str × EF)} {i : Expr} {fi : EF} {pos2 : Pos} (hu : X.A.units + 1 < cLine) (h : PPs X pos keys values (tKvs X.K X.mg kfs)) (hi : PD X i fi) (hnd : (kfs.map (·.1)).Nodup) (h15k : kfs.length ≤ 15) (hall : keys.all (·.isSome) = true := by rfl) (hl : keys.length = values.length := by rfl) (h0 : keys ≠ [] := by simp)
    (h15 : keys.length ≤ 15 := by decide) (hs : NoSl i := by exact fun _ _ => rfl) : PD X (.Subscript (.Dict keys values pos) i pos2) (dDix kfs fi) := PE.weak (pe_dget hu (pe_disp h hall hl h0 h15) hi hs) fun σ H Q h => by
  obtain ⟨B, F, ad, δ, r, δ', S, e, k⟩ := h
  unfold dDix at e
  obtain ⟨⟨kds, δ1⟩, e1, e⟩ := Option.bind_eq_some_iff.mp e
  obtain ⟨⟨y, δ2⟩, e2, e⟩ := Option.bind_eq_some_iff.mp e
  dsimp only at e
  split at e
  · rename_i x
    obtain ⟨d, e3, e4⟩ := Option.map_eq_some_iff.mp e
    cases e4
    intro p hp
    have hF : F p = none := S.exF.free hp
    refine kvs_w (S.allocF (o := .dK []) hp) e1 fun B1 ad1 kvs H1 s1 p1 S1 r1 => ?_
    have hkn : kds.map (·.1) = kfs.map (·.1) := by
      have go : ∀ (kfs : List (Str × EF)) (δ δ' : Dl) (kds : List (Str × D)), kvD kfs δ = some (kds, δ') → kds.map (·.1) = kfs.map (·.1) := by
        intro kfs
        induction kfs with
        | nil =>
          intro δ δ' kds e
          unfold kvD at e
          cases e
          rfl
        | cons kf r ih =>
          intro δ δ' kds e
          obtain ⟨x, f⟩ := kf
          unfold kvD at e
          obtain ⟨⟨v, δ1⟩, e1, e⟩ := Option.bind_eq_some_iff.mp e
          dsimp only at e
          split at e
          · obtain ⟨⟨ks, δ2⟩, e2, e3⟩ := Option.map_eq_some_iff.mp e
            cases e3
            rw [List.map_cons, List.map_cons, ih _ _ _ e2]
          · cases e
      exact go _ _ _ _ e1
    have hnd2 : (kvs.map (·.1)).Nodup := by
      rw [r1.keys, show (kds.map fun p => (Sum.inr p.1 : Key)) = (kds.map (·.1)).map Sum.inr by simp, hkn]
      exact List.Pairwise.map _ (fun a b hab z => hab (Sum.inr.inj z)) hnd
    have hkl : kvs.length ≤ 15 := by
      rw [r1.length]
      have := congrArg List.length hkn
      simp at this
      omega
    refine ⟨S1.exF p _ upd_same, kvs, rfl, hkl, ?_⟩
    rw [merge_app kvs [] (by simpa using hnd2), List.nil_append]
    have S2 := S1.setF (u := .dK kvs)
    refine ⟨B1, upd F p (.dK kvs), ad1, δ1, .fz (.str x), _, S2, e2, fun B2 ad2 u H2 s2 p2 S3 r2 => ?_⟩
    have r2' : u = .str x := r2
    subst r2'
    obtain ⟨v, g1, g2⟩ := r1.get e3
    refine ⟨p, v, rfl, ?_, ?_⟩
    · have h1 : H2 p = some (.dK kvs) := S3.exF p _ upd_same
      have h2 := DGet.k (k := Sum.inr x) h1
      rw [g1] at h2
      exact h2
    · exact k B2 ad2 v H2 (s1.trans s2) (p1.trans p2) (S3.weakF (same_new hF)) (Rp.mono s2 _ _ g2)
  · cases e
end
/-- an integer of less than a hundred and twenty-eight weighs little -/
theorem shw_few {i : Int} (h : i.natAbs < 128) : Shw 8 0 (.int i) := by
  obtain ⟨p, h1, h2, h3, h4, _, h6⟩ := shw_int (i := i) (Nat.lt_of_lt_of_le h (by decide))
  cases h1
  refine ⟨.int i, rfl, h2, h3, h4, ?_, h6⟩
  have hl : i.natAbs.log2 < 7 := by
    rcases Nat.eq_zero_or_pos i.natAbs with e | e
    · rw [e]; decide
    · exact (Nat.log2_lt (by omega)).mpr h
  simp only [PyData.weight]
  split <;> omega
theorem u1_of {k : Nat} {A : Around} (hr : Room k A) : A.units + 1 < cLine := by have := hr.units; omega
end PK

namespace PK
open PySem PySem.Spec PyProof.Rows L2 RZ
/-! ### zip of any number of things: its call -/
theorem zn1 : builtinKind "zip.__new__" = some .builtinFn := by decide +kernel
theorem zn2 : splitId "zip.__new__" = some ("zip", "__new__") := by decide +kernel
theorem zn_check (f sh full short : String) (r : Manifest.Receiver) (n : Nat) : Bind.check ⟨.keywordsApart, f, sh, r, [⟨"iterables", .varPos, false⟩, ⟨"strict", .kwOnly, false⟩]⟩ full short n [] = pure () := by
  have h1 : Bind.checkCount short [⟨"iterables", .varPos, false⟩, ⟨"strict", .kwOnly, false⟩] n = pure () := by
    unfold Bind.checkCount
    simp [Bind.isPositional]
    intro _ h
    exact absurd h (by decide)
  have h2 : Bind.checkKeywords short [⟨"strict", .kwOnly, false⟩] 0 [] = pure () := by kernel_rfl
  unfold Bind.check
  dsimp only
  rw [h1]
  show Bind.checkKeywords short [⟨"strict", .kwOnly, false⟩] 0 [] = _
  exact h2
theorem zn_sig : Manifest.signature? "zip.__new__" = some ⟨.keywordsApart, "zip", "zip", .cls, [⟨"iterables", .varPos, false⟩, ⟨"strict", .kwOnly, false⟩]⟩ := by
  kernel_rfl
theorem zn_init (obj : Value) (args : List Value) : argsOk "object.__init__" ⟨obj :: args, []⟩ := by
  unfold argsOk; rw [signature?_of (id := "object.__init__") (n := ['_', '_', 't', 'i', 'n', 'i', '_', '_']) (o := ['t', 'c', 'e', 'j', 'b', 'o']) (by kernel_rfl) F.owner_object]; kernel_rfl
theorem zn_args (args : List Value) : Bind.checkArgs "zip.__new__" ⟨.keywordsApart, "zip", "zip", .cls, [⟨"iterables", .varPos, false⟩, ⟨"strict", .kwOnly, false⟩]⟩ ⟨.type "zip" :: args, []⟩ = pure () := by
  unfold Bind.checkArgs
  simp only [List.map_nil, zn_check]
  kernel_rfl
theorem zn_call (args : List Value) : checkBuiltinCall "zip.__new__" ⟨.type "zip" :: args, []⟩ = pure () := by
  unfold checkBuiltinCall
  rw [zn1, zn2, zn_sig]
  dsimp only
  rw [zn_args]
  kernel_rfl
theorem zn_type (args : List Value) : checkTypeCall "zip" ⟨args, []⟩ = pure () := by kernel_rfl
/-! ### a loop over a list, within the model -/
theorem forIn_wp {α β : Type} {M : Model} {A : Around} {E : Value → Shared → Prop} {f : α → β → Sem (ForInStep β)} {Q : β → Shared → Prop} (P : List α → β → Shared → Prop)
    (hs : ∀ x xs b s, P (x :: xs) b s → wpAny M A (f x b) (fun r s' => match r with | .done b' => Q b' s' | .yield b' => P xs b' s') E s) (h0 : ∀ b s, P [] b s → Q b s) : ∀ (xs : List α) (b : β) (s : Shared), P xs b s → wpAny M A (forIn xs b f) Q E s
  | [], b, s, h => by
    rw [List.forIn_nil]
    exact wpAny_pure (h0 b s h)
  | x :: xs, b, s, h => by
    rw [List.forIn_cons]
    refine wpAny_bind (wpAny_mono (hs x xs b s h) (fun r s' h' => ?_) fun _ _ z => z)
    cases r with
    | done b' => exact wpAny_pure h'
    | yield b' => exact forIn_wp P hs h0 xs b' s' h'
/-! ### the things that are walked -/
structure Ent (P : Program) (w : World) where
  it : Nat
  l : Nat
  S : Nat → Heap → Prop
  g : Nat → Option Value
  I : Itr P w it l S g
section
variable {P : Program} {w : World} {A : Around} {E : Value → Shared → Prop} {sh : Shared} {z TI TO : Nat} {es : List (Ent P w)} {k : Nat} {f0 : Value} {f1 : Bool}
abbrev zObj (TI TO : Nat) (f0 : Value) (f1 : Bool) : Obj := { cls := .type "zip", dict := none, data := .fields #[f0, .bool f1, .bool false, .ref TI, .ref TO], slots := #[] }
abbrev tObj (xs : List Value) : Obj := { cls := .type "tuple", data := .seq xs.toArray }
abbrev refsE (es : List (Ent P w)) : List Value := es.map fun e => .ref e.it
structure ZAp (z TI TO : Nat) (es : List (Ent P w)) : Prop where
  nd : (z :: TI :: TO :: es.map (·.it)).Nodup
  ls : ∀ e ∈ es, e.l ∉ (z :: TI :: TO :: es.map (·.it))
/-- the items of the turn -/
def ItemsOf (es : List (Ent P w)) (k : Nat) (xs : List Value) : Prop := es.map (fun e => e.g k) = xs.map some
theorem ItemsOf.len {xs : List Value} (h : ItemsOf es k xs) : xs.length = es.length := by
  have := congrArg List.length h
  simpa using this.symm
/-- what one thing keeps while another place turns -/
theorem ZAp.keepS (D : ZAp z TI TO es) {e : Ent P w} (he : e ∈ es) {j : Nat} {h h' : Heap} {a : Nat} (ha : a ∈ (z :: TI :: TO :: es.map (·.it))) (hne : e.it ≠ a) (hk : ∀ c o, c ≠ a → h.get? c = some o → h'.get? c = some o) (hS : e.S j h) : e.S j h' :=
  e.I.keep _ _ _ hS (fun o q => hk _ o hne q) fun o q => hk _ o (fun y => D.ls e he (by rw [y]; exact ha)) q
theorem ZAp.it_ne (D : ZAp z TI TO es) {e : Ent P w} (he : e ∈ es) : e.it ≠ z ∧ e.it ≠ TI ∧ e.it ≠ TO := by
  have h := D.nd
  have hm : e.it ∈ es.map (·.it) := List.mem_map_of_mem he
  simp only [List.nodup_cons, List.mem_cons, not_or] at h
  exact ⟨fun y => h.1.2.2 (y ▸ hm), fun y => h.2.1.2 (y ▸ hm), fun y => h.2.2.1 (y ▸ hm)⟩
/-- in the middle of a turn -/
structure Mid (es done todo : List (Ent P w)) (k : Nat) (ys zs : List Value) (ex : Nat → Prop) (h₁ h : Heap) : Prop where
  eq : es = done ++ todo
  yd : ItemsOf done k ys
  zd : ItemsOf todo k zs
  sd : ∀ e ∈ done, e.S (k + 1) h
  st : ∀ e ∈ todo, e.S k h
  sz : h.objs.size = h₁.objs.size
  kp : ∀ c o, ¬ ex c → c ∉ es.map (·.it) → h₁.get? c = some o → h.get? c = some o
theorem Mid.next {ex : Nat → Prop} {done todo : List (Ent P w)} {e : Ent P w} {ys zs : List Value} {h₁ h h' : Heap} {x : Value} (D : ZAp z TI TO es) (m : Mid es done (e :: todo) k ys zs ex h₁ h) (hx : e.g k = some x) (hS : e.S (k + 1) h') (sb : Heap.SameBut e.it h h') : Mid es (done ++ [e]) todo k (ys ++ [x]) zs.tail ex h₁ h' := by
  have hnd : (done.map (·.it) ++ e.it :: todo.map (·.it)).Nodup := by
    have h1 := D.nd
    rw [m.eq] at h1
    simp only [List.map_append, List.map_cons, List.nodup_cons] at h1
    exact h1.2.2.2
  rw [List.nodup_append] at hnd
  obtain ⟨_, n2, n3⟩ := hnd
  have he : e ∈ es := by rw [m.eq]; simp
  have hfp : e.it ∈ (z :: TI :: TO :: es.map (·.it)) := by
    have : e.it ∈ es.map (·.it) := List.mem_map_of_mem he
    simp [this]
  have hkp : ∀ c o, c ≠ e.it → h.get? c = some o → h'.get? c = some o := fun c o hc q => sb.extBut _ _ hc q
  refine ⟨by rw [m.eq]; simp, ?_, ?_, fun e' h1 => ?_, fun e' h1 => ?_, sb.1.trans m.sz, fun c o hx hc q => hkp c o (fun y => hc (y ▸ List.mem_map_of_mem he)) (m.kp c o hx hc q)⟩
  · have := m.yd
    unfold ItemsOf at this ⊢
    rw [List.map_append, this, List.map_append]
    simp [hx]
  · have := m.zd
    unfold ItemsOf at this ⊢
    cases zs with
    | nil => simp at this
    | cons a b =>
      simp at this
      simpa using this.2
  · rcases List.mem_append.mp h1 with h2 | h2
    · exact D.keepS (by rw [m.eq]; exact List.mem_append_left _ h2) hfp (fun y => n3 _ (List.mem_map_of_mem h2) _ List.mem_cons_self y) hkp (m.sd e' h2)
    · rw [List.mem_singleton.mp h2]; exact hS
  · refine D.keepS (by rw [m.eq]; exact List.mem_append_right _ (List.mem_cons_of_mem _ h1)) hfp (fun y => ?_) hkp (m.st e' (List.mem_cons_of_mem _ h1))
    rw [List.nodup_cons] at n2
    exact n2.1 (y ▸ List.mem_map_of_mem h1)
theorem Mid.item {ex : Nat → Prop} {done todo : List (Ent P w)} {e : Ent P w} {ys zs : List Value} {h₁ h : Heap} (m : Mid es done (e :: todo) k ys zs ex h₁ h) : ∃ x r, zs = x :: r ∧ e.g k = some x := by
  have := m.zd
  unfold ItemsOf at this
  cases zs with
  | nil => simp at this
  | cons a b =>
    simp at this
    exact ⟨a, b, rfl, this.1⟩
theorem zn_held {T : Nat} {oT : Obj} {xs : List Value} {Q : Value → Shared → Prop} (D : ZAp z TI TO es) (hne : es ≠ []) (hl : es.length ≤ sizeLine) (hz : sh.heap.get? z = some (zObj TI TO (rawInt T) f1)) (hT : sh.heap.get? T = some oT) (hTI : sh.heap.get? TI = some (tObj (refsE es)))
    (hS : ∀ e ∈ es, e.S k sh.heap) (hx : ItemsOf es k xs)
    (good : ∀ h', h'.get? z = some (zObj TI TO (rawInt T) true) → (∀ e ∈ es, e.S (k + 1) h') → h'.get? sh.heap.objs.size = some (tObj xs) → h'.objs.size = sh.heap.objs.size + 1 → (∀ c o, c ≠ z → c ∉ es.map (·.it) → sh.heap.get? c = some o → h'.get? c = some o) → Q (.ref sh.heap.objs.size) { sh with heap := h' }) :
    wpAny (model P w) A (Builtin.«zip.__next__» ⟨[.ref z], []⟩) (fun fin sx => ∃ v, fin = .done (.ret v) ∧ Q v sx) E sh := by
  show wpAny _ _ (field (.ref z) 2 >>= _) _ _ _
  refine wpAny_bind (wpAny_field hz rfl (x := .bool false) rfl ?_)
  show wpAny _ _ (field (.ref z) 3 >>= _) _ _ _
  refine wpAny_bind (wpAny_field hz rfl (x := .ref TI) rfl ?_)
  refine wpAny_bind (wpAny_seqItems hTI rfl ?_)
  have he : (refsE es).toArray.isEmpty = false := by
    cases es with
    | nil => exact absurd rfl hne
    | cons _ _ => rfl
  simp only [he, Bool.false_eq_true, if_false]
  show wpAny _ _ (Builtin.SmallTypes.ownedTupleIsFree (.ref z) >>= _) _ _ _
  refine wpAny_bind (wpAny_tupleHeld_zip hz hT fun h₁ hz₁ hs₁ => ?_)
  simp only [Bool.false_eq_true, if_false]
  refine wpAny_bind ?_
  rw [← Array.forIn_toList]
  have hz1n : z ∉ es.map (·.it) := fun hm => by
    obtain ⟨e, h1, h2⟩ := List.mem_map.mp hm
    exact (D.it_ne h1).1 h2
  refine forIn_wp (P := fun rest b s => ∃ done todo ys zs h', rest = refsE todo ∧ b = (Option.none, ys.toArray) ∧ s = { sh with heap := h' } ∧ ys ++ zs = xs ∧ Mid es done todo k ys zs (fun _ => False) h₁ h') ?_ ?_ _ _ _ ?_
  · rintro x rest b s ⟨done, todo, ys, zs, h', e1, rfl, rfl, e4, m⟩
    cases todo with
    | nil => cases e1
    | cons e todo =>
      obtain ⟨rfl, rfl⟩ := List.cons.inj e1
      obtain ⟨x, r, rfl, hx⟩ := m.item
      refine wpAny_bind (wpAny_holding ?_)
      show wpAny _ _ (Builtin.SmallTypes.nextOf (.ref e.it) >>= _) _ _ _
      refine wpAny_bind (e.I.next _ _ _ _ _ _ (m.st e List.mem_cons_self) hx fun h2 hS2 sb => wpAny_pure ?_)
      refine wpAny_pure ⟨done ++ [e], todo, ys ++ [x], r, h2, rfl, by simp, rfl, by simpa using e4, m.next D hx hS2 sb⟩
  · rintro b s ⟨done, todo, ys, zs, h', e1, rfl, rfl, e4, m⟩
    have ht : todo = [] := by
      cases todo with
      | nil => rfl
      | cons _ _ => cases e1
    subst ht
    have hzs : zs = [] := by
      have := m.zd.len
      exact List.length_eq_zero_iff.mp (by simpa using this)
    subst hzs
    rw [List.append_nil] at e4
    subst e4
    have hd : es = done := by rw [m.eq, List.append_nil]
    show wpAny _ _ (newTuple ys.toArray.toList >>= _) _ _ _
    have hsz : h'.objs.size = sh.heap.objs.size := m.sz.trans hs₁.1
    refine wpAny_bind (wpAny_newTuple (wpAny_pure ⟨_, rfl, ?_⟩) (by rw [List.toList_toArray, m.yd.len, ← hd]; exact hl))
    show Q (.ref h'.objs.size) _
    rw [hsz]
    have up : ∀ c o, h'.get? c = some o → (h'.push { cls := .type "tuple", data := .seq ys.toArray }).get? c = some o := fun c o q => Heap.get?_push_of_some _ q
    have zk : h'.get? z = some (zObj TI TO (rawInt T) true) := m.kp _ _ id hz1n hz₁
    have hp : (h'.push { cls := .type "tuple", data := .seq ys.toArray }).get? h'.objs.size = some (tObj ys) := Heap.get?_push_size _ rfl
    rw [hsz] at hp
    refine good _ (up _ _ zk) (fun e h1 => ?_) hp (by rw [Heap.size_push, hsz]) fun c o c1 c2 q => up _ _ (m.kp c o id c2 (hs₁.extBut _ _ c1 q))
    have := m.sd e (hd ▸ h1)
    exact e.I.keep _ _ _ this (fun o q => up _ _ q) fun o q => up _ _ q
  · refine ⟨[], es, [], xs, h₁, by simp, rfl, rfl, rfl, ⟨rfl, rfl, hx, fun _ h => (by cases h), fun e h1 => ?_, rfl, fun _ _ _ _ q => q⟩⟩
    exact D.keepS h1 (a := z) (by simp) (D.it_ne h1).1 (fun c o hc q => hs₁.extBut _ _ hc q) (hS e h1)

theorem zn_held_stop {T : Nat} {oT : Obj} {e : Ent P w} {Q : Fin → Shared → Prop} (hd : A.handled = Option.none) (D : ZAp z TI TO (e :: es)) (hz : sh.heap.get? z = some (zObj TI TO (rawInt T) f1)) (hT : sh.heap.get? T = some oT) (hTI : sh.heap.get? TI = some (tObj (refsE (e :: es))))
    (hS : e.S k sh.heap) (hx : e.g k = Option.none)
    (good : ∀ h' x, (∀ c o, c ≠ z → c ∉ (e :: es).map (·.it) → sh.heap.get? c = some o → h'.get? c = some o) → (∃ o, h'.get? x = some o ∧ o.cls = .type "StopIteration") → E (.ref x) { sh with heap := h' }) :
    wpAny (model P w) A (Builtin.«zip.__next__» ⟨[.ref z], []⟩) Q E sh := by
  show wpAny _ _ (field (.ref z) 2 >>= _) _ _ _
  refine wpAny_bind (wpAny_field hz rfl (x := .bool false) rfl ?_)
  show wpAny _ _ (field (.ref z) 3 >>= _) _ _ _
  refine wpAny_bind (wpAny_field hz rfl (x := .ref TI) rfl ?_)
  refine wpAny_bind (wpAny_seqItems hTI rfl ?_)
  have he : (refsE (e :: es)).toArray.isEmpty = false := rfl
  simp only [he, Bool.false_eq_true, if_false]
  show wpAny _ _ (Builtin.SmallTypes.ownedTupleIsFree (.ref z) >>= _) _ _ _
  refine wpAny_bind (wpAny_tupleHeld_zip hz hT fun h₁ hz₁ hs₁ => ?_)
  simp only [Bool.false_eq_true, if_false]
  refine wpAny_bind ?_
  rw [← Array.forIn_toList]
  show wpAny _ _ (forIn (Value.ref e.it :: refsE es) _ _) _ _ _
  rw [List.forIn_cons]
  have hS1 : e.S k h₁ := D.keepS List.mem_cons_self (a := z) (by simp) (D.it_ne List.mem_cons_self).1 (fun c o hc q => hs₁.extBut _ _ hc q) hS
  refine wpAny_bind (wpAny_bind (wpAny_holding ?_))
  show wpAny _ _ (Builtin.SmallTypes.nextOf (.ref e.it) >>= _) _ _ _
  refine wpAny_bind (e.I.stop _ _ _ _ _ hd hS1 hx fun h2 x sb hc => ?_)
  exact good h2 x (fun c o c1 c2 q => sb _ _ (fun y => c2 (by rw [y]; simp)) (hs₁.extBut _ _ c1 q)) hc
/-- its own tuple is free: it was never out, or it is gone -/
def FreeF (h : Heap) (f0 : Value) : Prop := f0 = .none ∨ ∃ T : Nat, f0 = rawInt T ∧ h.get? T = Option.none
theorem zn_isFree {Q : Bool → Shared → Prop} (hz : sh.heap.get? z = some (zObj TI TO f0 f1)) (hf : FreeF sh.heap f0) (h : Q true sh) : wpAny (model P w) A (Builtin.SmallTypes.ownedTupleIsFree (.ref z)) Q E sh := by
  unfold Builtin.SmallTypes.ownedTupleIsFree
  rcases hf with rfl | ⟨T, rfl, hT⟩
  · exact wpAny_bind (wpAny_field hz rfl (x := .none) rfl (wpAny_pure h))
  · refine wpAny_bind (wpAny_field hz rfl (x := rawInt T) rfl ?_)
    show wpAny _ _ (loadIfAlive ((T : Int).toNat) >>= _) _ _ _
    rw [Int.toNat_natCast]
    have hl : wpAny (model P w) A (loadIfAlive T) (fun o s => o = Option.none ∧ s = sh) E sh := by
      have h' : (fun (o : Option Obj) (s : Shared) => o = Option.none ∧ s = sh) (sh.heap.get? T) sh := ⟨hT, rfl⟩
      exact fun _ _ _ => h'
    refine wpAny_bind (wpAny_mono hl (fun o s hh => ?_) fun _ _ y => y)
    obtain ⟨rfl, rfl⟩ := hh
    simp only [Option.isNone_none, if_true]
    exact wpAny_pure h
theorem zn_free {xs us : List Value} {Q : Value → Shared → Prop} (D : ZAp z TI TO es) (hne : es ≠ []) (hl : es.length ≤ sizeLine) (hf : FreeF sh.heap f0) (hz : sh.heap.get? z = some (zObj TI TO f0 f1)) (hTI : sh.heap.get? TI = some (tObj (refsE es))) (hTO : sh.heap.get? TO = some (tObj us)) (hul : us.length = es.length)
    (hS : ∀ e ∈ es, e.S k sh.heap) (hx : ItemsOf es k xs)
    (good : ∀ h', h'.get? z = some (zObj TI TO (rawInt sh.heap.objs.size) false) → h'.get? TO = some (tObj xs) → (∀ e ∈ es, e.S (k + 1) h') → h'.get? sh.heap.objs.size = some (tObj xs) → h'.objs.size = sh.heap.objs.size + 1 → (∀ c o, c ≠ z → c ≠ TO → c ∉ es.map (·.it) → sh.heap.get? c = some o → h'.get? c = some o) → Q (.ref sh.heap.objs.size) { sh with heap := h' }) :
    wpAny (model P w) A (Builtin.«zip.__next__» ⟨[.ref z], []⟩) (fun fin sx => ∃ v, fin = .done (.ret v) ∧ Q v sx) E sh := by
  show wpAny _ _ (field (.ref z) 2 >>= _) _ _ _
  refine wpAny_bind (wpAny_field hz rfl (x := .bool false) rfl ?_)
  show wpAny _ _ (field (.ref z) 3 >>= _) _ _ _
  refine wpAny_bind (wpAny_field hz rfl (x := .ref TI) rfl ?_)
  refine wpAny_bind (wpAny_seqItems hTI rfl ?_)
  have he : (refsE es).toArray.isEmpty = false := by
    cases es with
    | nil => exact absurd rfl hne
    | cons _ _ => rfl
  simp only [he, Bool.false_eq_true, if_false]
  show wpAny _ _ (Builtin.SmallTypes.ownedTupleIsFree (.ref z) >>= _) _ _ _
  refine wpAny_bind (zn_isFree hz hf ?_)
  simp only [if_true]
  refine wpAny_bind (wpAny_rule (wpAny_bind (wpAny_field hz rfl (x := .ref TO) rfl (wpAny_bind (wpAny_setField_rec hz (by simp) fun m1 z1 c1 => ?_)))))
  replace z1 : m1.get? z = some (zObj TI TO .ellipsis f1) := z1
  refine wpAny_bind ?_
  have hz1n : z ∉ es.map (·.it) := fun hm => by
    obtain ⟨e, h1, h2⟩ := List.mem_map.mp hm
    exact (D.it_ne h1).1 h2
  have hTOz : TO ≠ z := fun y => by
    have := D.nd
    simp only [List.nodup_cons, List.mem_cons, not_or] at this
    exact this.1.2.1 y.symm
  have hTOn : TO ∉ es.map (·.it) := fun hm => by
    obtain ⟨e, h1, h2⟩ := List.mem_map.mp hm
    exact (D.it_ne h1).2.2 h2
  refine forIn_wp (P := fun rest b s => ∃ done todo ys zs ws h', rest = (refsE todo).zipIdx done.length ∧ b = (Option.none, ()) ∧ s = { sh with heap := h' } ∧ ys ++ zs = xs ∧ Mid es done todo k ys zs (· = TO) m1 h' ∧ h'.get? TO = some (tObj (ys ++ ws)) ∧ ws.length = todo.length) ?_ ?_ _ _ _ ?_
  · rintro x rest b s ⟨done, todo, ys, zs, ws, h', e1, rfl, rfl, e4, m, hto, hw⟩
    cases todo with
    | nil => cases e1
    | cons e todo =>
      have e1' : x = (Value.ref e.it, done.length) ∧ rest = (refsE todo).zipIdx (done.length + 1) := by
        have h1 : (refsE (e :: todo)).zipIdx done.length = (Value.ref e.it, done.length) :: (refsE todo).zipIdx (done.length + 1) := by simp [refsE, List.zipIdx_cons]
        rw [h1] at e1
        exact List.cons.inj e1
      obtain ⟨rfl, rfl⟩ := e1'
      obtain ⟨x, r, rfl, hx⟩ := m.item
      cases ws with
      | nil => cases hw
      | cons u ws =>
        have heo := D.it_ne (show e ∈ es by rw [m.eq]; simp)
        refine wpAny_bind (wpAny_onRaise ?_)
        show wpAny _ _ (Builtin.SmallTypes.nextOf (.ref e.it) >>= _) _ _ _
        refine wpAny_bind (e.I.next _ _ _ _ _ _ (m.st e List.mem_cons_self) hx fun h2 hS2 sb => wpAny_pure ?_)
        have m2 := m.next D hx hS2 sb
        have q2 : h2.get? TO = some (tObj (ys ++ u :: ws)) := sb.extBut _ _ heo.2.2.symm hto
        have hl2 : ys.length = done.length := m.yd.len
        have hlen : ys.length + (ws.length + 1) = es.length := by
          rw [hl2, m.eq]
          have : ws.length + 1 = todo.length + 1 := hw
          simp
          omega
        have hset : (ys ++ u :: ws).toArray.setIfInBounds done.length x = (ys ++ [x] ++ ws).toArray := by
          rw [← hl2]
          simp [List.set_append]
        have hto3 : (h2.update TO (Obj.mapSeq fun y => y.setIfInBounds done.length x)).get? TO = some (tObj (ys ++ [x] ++ ws)) := by
          rw [Heap.get?_update_self _ q2 rfl]
          unfold Obj.mapSeq tObj
          dsimp only
          rw [hset]
          simp
        have sb2 : Heap.SameBut TO h2 (h2.update TO (Obj.mapSeq fun y => y.setIfInBounds done.length x)) := Heap.SameBut.update ..
        refine wpAny_bind (wpAny_seqItems q2 rfl (wpAny_bind (wpAny_updateSeq q2 rfl ?_ (by rw [List.size_toArray, List.length_append, List.length_cons]; omega) (by rw [Array.size_setIfInBounds, List.size_toArray, List.length_append, List.length_cons]; omega))))
        refine wpAny_bind (wpAny_letGo (wpAny_pure ⟨done ++ [e], todo, ys ++ [x], r, ws, _, by simp, rfl, rfl, by simpa using e4, ?_, hto3, by simpa using hw⟩))
        have hfp : TO ∈ (z :: TI :: TO :: es.map (·.it)) := by simp
        exact ⟨m2.eq, m2.yd, m2.zd, fun e' h1 => D.keepS (by rw [m2.eq]; exact List.mem_append_left _ h1) hfp (D.it_ne (by rw [m2.eq]; exact List.mem_append_left _ h1)).2.2 (fun c o hc q => sb2.extBut _ _ hc q) (m2.sd e' h1),
          fun e' h1 => D.keepS (by rw [m2.eq]; exact List.mem_append_right _ h1) hfp (D.it_ne (by rw [m2.eq]; exact List.mem_append_right _ h1)).2.2 (fun c o hc q => sb2.extBut _ _ hc q) (m2.st e' h1), sb2.1.trans m2.sz, fun c o hx hc q => sb2.extBut _ _ hx (m2.kp c o hx hc q)⟩
  · rintro b s ⟨done, todo, ys, zs, ws, h', e1, rfl, rfl, e4, m, hto, hw⟩
    have ht : todo = [] := by
      cases todo with
      | nil => rfl
      | cons _ _ =>
        have := congrArg List.length e1
        simp [refsE] at this
    subst ht
    have hzs : zs = [] := by
      have := m.zd.len
      exact List.length_eq_zero_iff.mp (by simpa using this)
    subst hzs
    have hws : ws = [] := List.length_eq_zero_iff.mp (by simpa using hw)
    subst hws
    rw [List.append_nil] at e4 hto
    subst e4
    have hd : es = done := by rw [m.eq, List.append_nil]
    have hsz : h'.objs.size = sh.heap.objs.size := m.sz.trans c1.1
    have hyl : ys.length ≤ sizeLine := by rw [m.yd.len, ← hd]; exact hl
    show wpAny _ _ (seqItems? (.ref TO) >>= _) _ _ _
    refine wpAny_bind (wpAny_seqItems hto rfl ?_)
    show wpAny _ _ (newTuple ys.toArray.toList >>= _) _ _ _
    refine wpAny_bind (wpAny_newTuple ?_ (by rw [List.toList_toArray]; exact hyl))
    have zk : h'.get? z = some (zObj TI TO .ellipsis f1) := m.kp _ _ (fun y => hTOz y.symm) hz1n z1
    have zlt : z < h'.objs.size := Heap.lt_size zk
    have up0 : ∀ c o, h'.get? c = some o → (h'.push { cls := .type "tuple", data := .seq ys.toArray }).get? c = some o := fun c o q => Heap.get?_push_of_some _ q
    show wpAny _ _ (Builtin.SmallTypes.ownedTupleHandOut (.ref z) (.ref h'.objs.size) >>= _) _ _ _
    refine wpAny_bind ?_
    unfold Builtin.SmallTypes.ownedTupleHandOut
    refine wpAny_bind (wpAny_setField_rec (up0 _ _ zk) (by simp) fun m7 z7 c7 => ?_)
    replace z7 : m7.get? z = some (zObj TI TO (rawInt h'.objs.size) f1) := z7
    refine wpAny_setField_rec z7 (by simp) fun m8 z8 c8 => ?_
    replace z8 : m8.get? z = some (zObj TI TO (rawInt h'.objs.size) false) := z8
    have up : ∀ c o, c ≠ z → h'.get? c = some o → m8.get? c = some o := fun c o n q => c8.extBut _ _ n (c7.extBut _ _ n (up0 c o q))
    have t8 : m8.get? h'.objs.size = some (tObj ys) := c8.extBut _ _ (Nat.ne_of_gt zlt) (c7.extBut _ _ (Nat.ne_of_gt zlt) (Heap.get?_push_size _ rfl))
    have s8 : m8.objs.size = h'.objs.size + 1 := by rw [c8.1, c7.1, Heap.size_push]
    refine wpAny_pure ⟨_, rfl, ?_⟩
    show Q (.ref h'.objs.size) _
    rw [hsz] at z8 t8 s8 ⊢
    refine good m8 z8 (up _ _ hTOz hto) (fun e h1 => ?_) t8 s8 fun c o c1' c2 c3 q => up c o c1' (m.kp c o c2 c3 (c1.extBut _ _ c1' q))
    have := m.sd e (hd ▸ h1)
    have h9 := D.it_ne h1
    exact e.I.keep _ _ _ this (fun o q => up _ o h9.1 q) fun o q => up _ o (fun y => D.ls e h1 (by rw [y]; simp)) q
  · refine ⟨[], es, [], xs, us, m1, by simp, rfl, rfl, rfl, ⟨rfl, rfl, hx, fun _ h => (by cases h), fun e h1 => ?_, rfl, fun _ _ _ _ q => q⟩, c1.extBut _ _ hTOz hTO, hul⟩
    exact D.keepS h1 (a := z) (by simp) (D.it_ne h1).1 (fun c o hc q => c1.extBut _ _ hc q) (hS e h1)
theorem zn_free_stop {e : Ent P w} {Q : Fin → Shared → Prop} (hd : A.handled = Option.none) (D : ZAp z TI TO (e :: es)) (hf : FreeF sh.heap f0) (hz : sh.heap.get? z = some (zObj TI TO f0 f1)) (hTI : sh.heap.get? TI = some (tObj (refsE (e :: es)))) 
    (hS : e.S k sh.heap) (hx : e.g k = Option.none)
    (good : ∀ h' x, (∀ c o, c ≠ z → c ∉ (e :: es).map (·.it) → sh.heap.get? c = some o → h'.get? c = some o) → (∃ o, h'.get? x = some o ∧ o.cls = .type "StopIteration") → E (.ref x) { sh with heap := h' }) :
    wpAny (model P w) A (Builtin.«zip.__next__» ⟨[.ref z], []⟩) Q E sh := by
  show wpAny _ _ (field (.ref z) 2 >>= _) _ _ _
  refine wpAny_bind (wpAny_field hz rfl (x := .bool false) rfl ?_)
  show wpAny _ _ (field (.ref z) 3 >>= _) _ _ _
  refine wpAny_bind (wpAny_field hz rfl (x := .ref TI) rfl ?_)
  refine wpAny_bind (wpAny_seqItems hTI rfl ?_)
  have he : (refsE (e :: es)).toArray.isEmpty = false := rfl
  simp only [he, Bool.false_eq_true, if_false]
  show wpAny _ _ (Builtin.SmallTypes.ownedTupleIsFree (.ref z) >>= _) _ _ _
  refine wpAny_bind (zn_isFree hz hf ?_)
  simp only [if_true]
  refine wpAny_bind (wpAny_rule (wpAny_bind (wpAny_field hz rfl (x := .ref TO) rfl (wpAny_bind (wpAny_setField_rec hz (by simp) fun m1 z1 c1 => ?_)))))
  replace z1 : m1.get? z = some (zObj TI TO .ellipsis f1) := z1
  refine wpAny_bind ?_
  show wpAny _ _ (forIn ((Value.ref e.it, 0) :: (refsE es).zipIdx 1) _ _) _ _ _
  rw [List.forIn_cons]
  have heo := D.it_ne (show e ∈ e :: es by simp)
  have hS1 : e.S k m1 := D.keepS List.mem_cons_self (a := z) (by simp) heo.1 (fun c o hc q => c1.extBut _ _ hc q) hS
  refine wpAny_bind (wpAny_bind (wpAny_onRaise ?_))
  show wpAny _ _ (Builtin.SmallTypes.nextOf (.ref e.it) >>= _) _ _ _
  refine wpAny_bind (e.I.stop _ _ _ _ _ hd hS1 hx fun h2 x sb hc => ?_)
  have z2 : h2.get? z = some (zObj TI TO .ellipsis f1) := sb _ _ heo.1.symm z1
  obtain ⟨oe, goe, cle⟩ := hc
  have other : x ≠ z := fun q => by subst q; rw [z2] at goe; cases goe; simp at cle
  refine wpAny_setField_rec z2 (by simp) fun m3 _ c3 => good m3 x (fun c o n1 n2 q => c3.extBut _ _ n1 (sb _ _ (fun y => n2 (by rw [y]; simp)) (c1.extBut _ _ n1 q))) ⟨oe, c3.extBut _ _ other goe, cle⟩
end
end PK

namespace PK
open PySem PySem.Spec PyProof.Rows L2 RZ
section
variable {P : Program} {w : World} {A : Around} {E : Value → Shared → Prop} {sh : Shared} {z TI TO : Nat} {es : List (Ent P w)} {k : Nat}
structure ZSt (z TI TO : Nat) (es : List (Ent P w)) (k : Nat) (h : Heap) : Prop where
  zz : ∃ f0 f1, h.get? z = some (zObj TI TO f0 f1) ∧ (f0 = .none ∨ ∃ T : Nat, f0 = rawInt T)
  ti : h.get? TI = some (tObj (refsE es))
  to : ∃ us, us.length = es.length ∧ h.get? TO = some (tObj us)
  ss : ∀ e ∈ es, e.S k h
theorem zn_item {xs : List Value} {Q : Option Value → Shared → Prop} (D : ZAp z TI TO es) (hne : es ≠ []) (hl : es.length ≤ sizeLine) (st : ZSt z TI TO es k sh.heap) (hx : ItemsOf es k xs)
    (good : ∀ h', ZSt z TI TO es (k + 1) h' → h'.get? sh.heap.objs.size = some (tObj xs) → h'.objs.size = sh.heap.objs.size + 1 → (∀ c o, c ≠ z → c ≠ TO → c ∉ es.map (·.it) → sh.heap.get? c = some o → h'.get? c = some o) → Q (some (.ref sh.heap.objs.size)) { sh with heap := h' }) :
    wpAny (model P w) A (pyNext (.ref z)) Q E sh := by
  obtain ⟨⟨f0, f1, hz, hf⟩, hTI, ⟨us, hul, hTO⟩, hS⟩ := st
  have ty : sh.TypeIs (.ref z) "zip" := ⟨_, hz, rfl⟩
  have hxl : xs.length = es.length := hx.len
  have hz1n : z ∉ es.map (·.it) := fun hm => by
    obtain ⟨e, h1, h2⟩ := List.mem_map.mp hm
    exact (D.it_ne h1).1 h2
  have nd := D.nd
  simp only [List.nodup_cons, List.mem_cons, not_or] at nd
  obtain ⟨⟨n1, n2, n3⟩, ⟨n4, n5⟩, n6, n7⟩ := nd
  unfold pyNext
  by_cases hd : FreeF sh.heap f0
  · exact wpAny_bind (wpAny_attempt (wpAny_callSpecial?_slot (name := Str.ofString "__next__") ty F.slot_zip_next (wpAny_call_entry F.slot_zip_next ty F.entry_zip_next (zn_free D hne hl hd hz hTI hTO hul hS hx fun h' r1 r2 r3 r4 r5 r6 =>
      wpAny_pure (good h' ⟨⟨_, _, r1, .inr ⟨_, rfl⟩⟩, r6 _ _ (Ne.symm n1) n4 n5 hTI, ⟨xs, hxl, r2⟩, r3⟩ r4 r5 r6)) (F.args_zip_next_1 _))))
  · obtain ⟨T, rfl⟩ : ∃ T : Nat, f0 = rawInt T := by
      rcases hf with rfl | h
      · exact absurd (.inl rfl) hd
      · exact h
    cases e : sh.heap.get? T with
    | none => exact absurd (.inr ⟨T, rfl, e⟩) hd
    | some oT =>
      exact wpAny_bind (wpAny_attempt (wpAny_callSpecial?_slot (name := Str.ofString "__next__") ty F.slot_zip_next (wpAny_call_entry F.slot_zip_next ty F.entry_zip_next (zn_held D hne hl hz e hTI hS hx fun h' r1 r2 r3 r4 r5 =>
        wpAny_pure (good h' ⟨⟨_, _, r1, .inr ⟨_, rfl⟩⟩, r5 _ _ (Ne.symm n1) n5 hTI, ⟨us, hul, r5 _ _ (Ne.symm n2) n6 hTO⟩, r2⟩ r3 r4 fun c o c1 c2 c3 => r5 c o c1 c3)) (F.args_zip_next_1 _))))
theorem zn_end {e : Ent P w} {Q : Option Value → Shared → Prop} (hd : A.handled = Option.none) (D : ZAp z TI TO (e :: es)) (st : ZSt z TI TO (e :: es) k sh.heap) (hx : e.g k = Option.none)
    (good : ∀ h', (∀ c o, c ≠ z → c ∉ (e :: es).map (·.it) → sh.heap.get? c = some o → h'.get? c = some o) → Q Option.none { sh with heap := h' }) : wpAny (model P w) A (pyNext (.ref z)) Q E sh := by
  obtain ⟨⟨f0, f1, hz, hf⟩, hTI, ⟨us, hul, hTO⟩, hS⟩ := st
  have ty : sh.TypeIs (.ref z) "zip" := ⟨_, hz, rfl⟩
  have fin : ∀ (h' : Heap) (x : Nat), (∀ c o, c ≠ z → c ∉ (e :: es).map (·.it) → sh.heap.get? c = some o → h'.get? c = some o) → (∃ o, h'.get? x = some o ∧ o.cls = .type "StopIteration") →
      wpAny (model P w) A (isInstance (.ref x) (.type "StopIteration") >>= fun b => if b = true then pure Option.none else throw (.ref x)) Q E { sh with heap := h' } := fun h' x kept stops => by
    obtain ⟨oe, goe, cle⟩ := stops
    exact wpAny_bind (wpAny_isInstance (T := "StopIteration") (b := true) ⟨oe, goe, cle⟩ isSubtype_stop (wpAny_pure (good _ kept)))
  unfold pyNext
  by_cases hfr : FreeF sh.heap f0
  · refine wpAny_bind (wpAny_attempt (wpAny_callSpecial?_slot (name := Str.ofString "__next__") ty F.slot_zip_next (wpAny_call_entry F.slot_zip_next ty F.entry_zip_next (zn_free_stop hd D hfr hz hTI (hS e List.mem_cons_self) hx fun h' x kept stops => ?_) (F.args_zip_next_1 _))))
    obtain ⟨oe, goe, cle⟩ := stops
    exact wpAny_bind (wpAny_isInstance (T := "StopIteration") (b := true) ⟨oe, goe, cle⟩ isSubtype_stop (wpAny_pure (good _ kept)))
  · obtain ⟨T, rfl⟩ : ∃ T : Nat, f0 = rawInt T := by
      rcases hf with rfl | h
      · exact absurd (.inl rfl) hfr
      · exact h
    cases e' : sh.heap.get? T with
    | none => exact absurd (.inr ⟨T, rfl, e'⟩) hfr
    | some oT =>
      refine wpAny_bind (wpAny_attempt (wpAny_callSpecial?_slot (name := Str.ofString "__next__") ty F.slot_zip_next (wpAny_call_entry F.slot_zip_next ty F.entry_zip_next (zn_held_stop hd D hz e' hTI (hS e List.mem_cons_self) hx fun h' x kept stops => ?_) (F.args_zip_next_1 _))))
      obtain ⟨oe, goe, cle⟩ := stops
      exact wpAny_bind (wpAny_isInstance (T := "StopIteration") (b := true) ⟨oe, goe, cle⟩ isSubtype_stop (wpAny_pure (good _ kept)))
end
/-! ### the things that are zipped: lists and tuples -/
structure Src where
  l : Nat
  tp : Bool
  its : Array Value
def SrcOk (s : Src) (h : Heap) : Prop := if s.tp = true then h.IsTuple s.l s.its else h.IsList s.l s.its
def itObj (s : Src) : Obj := { cls := .type (if s.tp = true then "tuple_iterator" else "list_iterator"), data := .fields #[.ref s.l, .int 0 0] }
def srcS (s : Src) (it : Nat) (k : Nat) (h : Heap) : Prop := s.l ≠ it ∧ SrcOk s h ∧ (if s.tp = true then h.IsTupleIter it s.l k else h.IsListIter it s.l k)
theorem src_itr {P : Program} {w : World} (s : Src) (it : Nat) : Itr P w it s.l (srcS s it) (fun k => s.its[k]?) := by
  obtain ⟨l, tp, its⟩ := s
  cases tp with
  | true =>
    exact ⟨fun k h a => (itr_tup (P := P) (w := w) (its := its) a.1).obj k h ⟨a.2.2, a.2.1⟩, fun k h h' a k1 k2 => by
        have := (itr_tup (P := P) (w := w) (its := its) a.1).keep k h h' ⟨a.2.2, a.2.1⟩ k1 k2
        exact ⟨a.1, this.2, this.1⟩,
      fun A E sh k x Q a e good => (itr_tup (P := P) (w := w) (its := its) a.1).next A E sh k x Q ⟨a.2.2, a.2.1⟩ e fun h' b sb => good h' ⟨a.1, b.2, b.1⟩ sb,
      fun A E sh k Q hd a e good => (itr_tup (P := P) (w := w) (its := its) a.1).stop A E sh k Q hd ⟨a.2.2, a.2.1⟩ e good⟩
  | false =>
    exact ⟨fun k h a => (itr_list (P := P) (w := w) (its := its) a.1).obj k h ⟨a.2.2, a.2.1⟩, fun k h h' a k1 k2 => by
        have := (itr_list (P := P) (w := w) (its := its) a.1).keep k h h' ⟨a.2.2, a.2.1⟩ k1 k2
        exact ⟨a.1, this.2, this.1⟩,
      fun A E sh k x Q a e good => (itr_list (P := P) (w := w) (its := its) a.1).next A E sh k x Q ⟨a.2.2, a.2.1⟩ e fun h' b sb => good h' ⟨a.1, b.2, b.1⟩ sb,
      fun A E sh k Q hd a e good => (itr_list (P := P) (w := w) (its := its) a.1).stop A E sh k Q hd ⟨a.2.2, a.2.1⟩ e good⟩
def entOf (P : Program) (w : World) (s : Src) (it : Nat) : Ent P w := ⟨it, s.l, srcS s it, fun k => s.its[k]?, src_itr s it⟩
def entsOf (P : Program) (w : World) : List Src → Nat → List (Ent P w)
  | [], _ => []
  | s :: r, a => entOf P w s a :: entsOf P w r (a + 1)
theorem entsOf_len {P : Program} {w : World} : ∀ (ss : List Src) (a : Nat), (entsOf P w ss a).length = ss.length
  | [], _ => rfl
  | _ :: r, a => by rw [entsOf, List.length_cons, List.length_cons, entsOf_len r]
theorem entsOf_it {P : Program} {w : World} : ∀ (ss : List Src) (a : Nat) (c : Nat), c ∈ (entsOf P w ss a).map (·.it) ↔ a ≤ c ∧ c < a + ss.length
  | [], a, c => by simp [entsOf]
  | s :: r, a, c => by
    rw [entsOf, List.map_cons, List.mem_cons, entsOf_it r (a + 1) c, List.length_cons]
    show c = a ∨ _ ↔ _
    constructor
    · rintro (h | h)
      · rw [h]; exact ⟨Nat.le_refl _, by omega⟩
      · omega
    · intro h
      rcases Nat.lt_or_ge a c with h2 | h2
      · right; omega
      · left; exact Nat.le_antisymm h2 h.1
theorem entsOf_nd {P : Program} {w : World} : ∀ (ss : List Src) (a : Nat), ((entsOf P w ss a).map (·.it)).Nodup
  | [], _ => List.nodup_nil
  | s :: r, a => by
    rw [entsOf, List.map_cons, List.nodup_cons]
    refine ⟨fun h => ?_, entsOf_nd r (a + 1)⟩
    have := (entsOf_it r (a + 1) a).mp h
    omega
theorem entsOf_l {P : Program} {w : World} {B : Nat} : ∀ (ss : List Src) (a : Nat), (∀ s ∈ ss, s.l < B) → ∀ e ∈ entsOf P w ss a, e.l < B
  | [], _, _, e, he => by cases he
  | s :: r, a, h, e, he => by
    rcases List.mem_cons.mp he with q | q
    · rw [q]; exact h s List.mem_cons_self
    · exact entsOf_l r (a + 1) (fun x hx => h x (List.mem_cons_of_mem _ hx)) e q
theorem entsOf_zap {P : Program} {w : World} {ss : List Src} {a : Nat} (h : ∀ s ∈ ss, s.l < a) : ZAp (a + ss.length + 2) (a + ss.length) (a + ss.length + 1) (entsOf P w ss a) where
  nd := by
    have n0 := entsOf_nd (P := P) (w := w) ss a
    simp only [List.nodup_cons, List.mem_cons, not_or, entsOf_it]
    exact ⟨⟨by omega, by omega, by omega⟩, ⟨by omega, by omega⟩, by omega, n0⟩
  ls := fun e he => by
    have := entsOf_l ss a h e he
    simp only [List.mem_cons, not_or, entsOf_it]
    omega
theorem SrcOk.lt {s : Src} {h : Heap} (a : SrcOk s h) : s.l < h.objs.size := by
  unfold SrcOk at a
  split at a
  · obtain ⟨o, e, _⟩ := a
    exact Heap.lt_size e
  · obtain ⟨o, e, _⟩ := a
    exact Heap.lt_size e
theorem SrcOk.keep {s : Src} {h h' : Heap} (a : SrcOk s h) (k : ∀ c o, h.get? c = some o → h'.get? c = some o) : SrcOk s h' := by
  unfold SrcOk at a ⊢
  split at a
  · rename_i q
    rw [if_pos q]
    obtain ⟨o, e, m⟩ := a
    exact ⟨o, k _ _ e, m⟩
  · rename_i q
    rw [if_neg q]
    obtain ⟨o, e, m⟩ := a
    exact ⟨o, k _ _ e, m⟩
/-- the heap behind the making of the iterators -/
def pushI : Heap → List Src → Heap
  | h, [] => h
  | h, s :: r => pushI (h.push (itObj s)) r
theorem pushI_keep : ∀ (ss : List Src) (h : Heap) c o, h.get? c = some o → (pushI h ss).get? c = some o
  | [], h, c, o, e => e
  | s :: r, h, c, o, e => pushI_keep r _ c o (Heap.get?_push_of_some _ e)
theorem pushI_size : ∀ (ss : List Src) (h : Heap), (pushI h ss).objs.size = h.objs.size + ss.length
  | [], h => rfl
  | s :: r, h => by
    rw [pushI, pushI_size r, Heap.size_push, List.length_cons]
    omega
theorem itObj_get {s : Src} {h : Heap} : (h.push (itObj s)).get? h.objs.size = some (itObj s) := by
  obtain ⟨l, tp, its⟩ := s
  cases tp <;> exact Heap.get?_push_size _ rfl
theorem pushI_st {P : Program} {w : World} : ∀ (ss : List Src) (h : Heap), (∀ s ∈ ss, SrcOk s h) → ∀ e ∈ entsOf P w ss h.objs.size, e.S 0 (pushI h ss)
  | [], h, _, e, he => by cases he
  | s :: r, h, hs, e, he => by
    have hk : ∀ c o, h.get? c = some o → (h.push (itObj s)).get? c = some o := fun c o q => Heap.get?_push_of_some _ q
    rcases List.mem_cons.mp he with q | q
    · subst q
      have h1 := hs s List.mem_cons_self
      have e1 : (pushI h (s :: r)).get? h.objs.size = some (itObj s) := pushI_keep r _ _ _ itObj_get
      refine ⟨Nat.ne_of_lt h1.lt, h1.keep fun c o z => pushI_keep r _ c o (hk c o z), ?_⟩
      show if s.tp = true then _ else _
      obtain ⟨l, tp, its⟩ := s
      cases tp
      · exact ⟨_, e1, rfl, rfl⟩
      · exact ⟨_, e1, rfl, rfl⟩
    · have z : (h.push (itObj s)).objs.size = h.objs.size + 1 := Heap.size_push ..
      rw [← z] at q
      exact pushI_st r (h.push (itObj s)) (fun x hx => (hs x (List.mem_cons_of_mem _ hx)).keep hk) e q
theorem refs_ents {P : Program} {w : World} : ∀ (ss : List Src) (a : Nat), refsE (entsOf P w ss a) = (List.range ss.length).map fun i => Value.ref (a + i)
  | [], _ => rfl
  | s :: r, a => by
    show Value.ref a :: refsE (entsOf P w r (a + 1)) = _
    rw [refs_ents r (a + 1), List.length_cons, List.range_succ_eq_map, List.map_cons, List.map_map]
    congr 1
    refine List.map_congr_left fun i _ => ?_
    show Value.ref (a + 1 + i) = Value.ref (a + (i + 1))
    rw [Nat.add_assoc, Nat.add_comm 1 i]
/-- zip(*srcs) is made -/
def NewZ (P : Program) (w : World) (ss : List Src) (h h' : Heap) : Prop := ZSt (h.objs.size + ss.length + 2) (h.objs.size + ss.length) (h.objs.size + ss.length + 1) (entsOf P w ss h.objs.size) 0 h' ∧ ∀ c o, h.get? c = some o → h'.get? c = some o
theorem meetsN (P : Program) (w : World) (ss : List Src) : Meets (Builtin.«zip.__new__» ⟨.type "zip" :: ss.map fun s => .ref s.l, []⟩) (fun _ R sh => (∀ s ∈ ss, SrcOk s sh.heap) ∧ ss.length ≤ sizeLine ∧ ∀ h', NewZ P w ss sh.heap h' → R (.ok (.ret (.ref (sh.heap.objs.size + ss.length + 2)))) { sh with heap := h' }) :=
  .of_wp fun prog w' A R sh h => by
    obtain ⟨hs, hl, hR⟩ := h
    have sub := sub_zip
    have main : wpAny (model prog w') A.in1 (forIn (ss.map fun s => Value.ref s.l) (#[] : Array Value) fun x its => do let d ← holding its.toList (pyIter x); pure (ForInStep.yield (its.push d)))
        (fun its s' => its.toList = refsE (entsOf P w ss sh.heap.objs.size) ∧ s' = { sh with heap := pushI sh.heap ss }) (fun e s' => R (Except.error e) s') sh := by
      refine forIn_wp (P := fun rest its s' => ∃ done todo h', ss = done ++ todo ∧ rest = (todo.map fun s => Value.ref s.l) ∧ its.toList = (List.range done.length).map (fun i => Value.ref (sh.heap.objs.size + i)) ∧ s' = { sh with heap := h' } ∧ pushI h' todo = pushI sh.heap ss ∧ (∀ c o, sh.heap.get? c = some o → h'.get? c = some o) ∧ h'.objs.size = sh.heap.objs.size + done.length) ?_ ?_ _ _ _ ?_
      · rintro x rest its s' ⟨done, todo, h', e1, e2, e3, rfl, e5, e6, e7⟩
        cases todo with
        | nil => cases e2
        | cons s todo =>
          obtain ⟨rfl, rfl⟩ := List.cons.inj e2
          have hso : SrcOk s h' := (hs s (by rw [e1]; simp)).keep e6
          have goal : ∀ (h2 : Heap), h2 = h'.push (itObj s) → ∃ done' todo' h3, ss = done' ++ todo' ∧ (todo.map fun s => Value.ref s.l) = (todo'.map fun s => Value.ref s.l) ∧ (its.push (.ref h'.objs.size)).toList = (List.range done'.length).map (fun i => Value.ref (sh.heap.objs.size + i)) ∧ ({ sh with heap := h2 } : Shared) = { sh with heap := h3 } ∧ pushI h3 todo' = pushI sh.heap ss ∧ (∀ c o, sh.heap.get? c = some o → h3.get? c = some o) ∧ h3.objs.size = sh.heap.objs.size + done'.length := by
            rintro h2 rfl
            refine ⟨done ++ [s], todo, _, by rw [e1]; simp, rfl, ?_, rfl, e5, fun c o q => Heap.get?_push_of_some _ (e6 c o q), by rw [Heap.size_push, e7, List.length_append]; rfl⟩
            rw [Array.toList_push, e3, e7, List.length_append, List.length_singleton, List.range_succ, List.map_append]
            rfl
          obtain ⟨l, tp, itsv⟩ := s
          cases tp with
          | true => exact wpAny_bind (wpAny_holding (wpAny_pyIter_tuple (show Heap.IsTuple h' l itsv from hso) (wpAny_pure (goal _ rfl))))
          | false => exact wpAny_bind (wpAny_holding (wpAny_pyIter_list (show Heap.IsList h' l itsv from hso) (wpAny_pure (goal _ rfl))))
      · rintro its s' ⟨done, todo, h', e1, e2, e3, rfl, e5, e6, e7⟩
        have ht : todo = [] := by
          cases todo with
          | nil => rfl
          | cons _ _ => cases e2
        subst ht
        rw [List.append_nil] at e1
        refine ⟨by rw [e3, refs_ents, e1], ?_⟩
        rw [← e5]
        rfl
      · exact ⟨[], ss, sh.heap, rfl, rfl, rfl, rfl, rfl, fun _ _ q => q, rfl⟩
    obtain ⟨m, g, d, tk, os⟩ := sh
    wp_walk
    show wpAny _ _ (forIn (ss.map fun s => Value.ref s.l) (#[] : Array Value) fun x its => do let d ← holding its.toList (pyIter x); pure (ForInStep.yield (its.push d))) _ _ _
    refine wpAny_mono main (fun its s' hh => ?_) fun _ _ q => q
    obtain ⟨e1, rfl⟩ := hh
    refine wpAny_pure ?_
    rw [e1]
    have hln : (refsE (entsOf P w ss m.objs.size)).length = ss.length := by rw [refs_ents]; simp
    refine wpAny_bind (wpAny_newTuple ?_ (by rw [hln]; exact hl))
    refine wpAny_bind (wpAny_newTuple ?_ (by rw [List.length_map, hln]; exact hl))
    have sz1 : (pushI m ss).objs.size = m.objs.size + ss.length := pushI_size ss m
    unfold Builtin.SmallTypes.newRecord
    wp_walk
    refine ⟨_, rfl, ?_⟩
    have sz3 : ((pushI m ss).push (tObj (refsE (entsOf P w ss m.objs.size)))).objs.size = m.objs.size + ss.length + 1 := by rw [Heap.size_push, sz1]
    have sz4 : (((pushI m ss).push (tObj (refsE (entsOf P w ss m.objs.size)))).push (tObj ((refsE (entsOf P w ss m.objs.size)).map fun _ => Value.none))).objs.size = m.objs.size + ss.length + 2 := by rw [Heap.size_push, sz3]
    have fin := hR ((((pushI m ss).push (tObj (refsE (entsOf P w ss m.objs.size)))).push (tObj ((refsE (entsOf P w ss m.objs.size)).map fun _ => Value.none))).push (zObj (pushI m ss).objs.size ((pushI m ss).push (tObj (refsE (entsOf P w ss m.objs.size)))).objs.size .none false)) ?_
    · have z : R (.ok (.ret (.ref (((pushI m ss).push (tObj (refsE (entsOf P w ss m.objs.size)))).push (tObj ((refsE (entsOf P w ss m.objs.size)).map fun _ => Value.none))).objs.size))) ⟨(((pushI m ss).push (tObj (refsE (entsOf P w ss m.objs.size)))).push (tObj ((refsE (entsOf P w ss m.objs.size)).map fun _ => Value.none))).push (zObj (pushI m ss).objs.size ((pushI m ss).push (tObj (refsE (entsOf P w ss m.objs.size)))).objs.size .none false), g, d, tk, os⟩ := by
        rw [sz4]
        exact fin
      exact z
    · have up5 : ∀ c o, (((pushI m ss).push (tObj (refsE (entsOf P w ss m.objs.size)))).push (tObj ((refsE (entsOf P w ss m.objs.size)).map fun _ => Value.none))).get? c = some o → ((((pushI m ss).push (tObj (refsE (entsOf P w ss m.objs.size)))).push (tObj ((refsE (entsOf P w ss m.objs.size)).map fun _ => Value.none))).push (zObj (pushI m ss).objs.size ((pushI m ss).push (tObj (refsE (entsOf P w ss m.objs.size)))).objs.size .none false)).get? c = some o := fun c o q => Heap.get?_push_of_some _ q
      have up4 : ∀ c o, ((pushI m ss).push (tObj (refsE (entsOf P w ss m.objs.size)))).get? c = some o → _ := fun c o q => up5 c o (Heap.get?_push_of_some _ q)
      have up3 : ∀ c o, (pushI m ss).get? c = some o → _ := fun c o q => up4 c o (Heap.get?_push_of_some _ q)
      have g5 := Heap.get?_push_size (((pushI m ss).push (tObj (refsE (entsOf P w ss m.objs.size)))).push (tObj ((refsE (entsOf P w ss m.objs.size)).map fun _ => Value.none))) (o := zObj (pushI m ss).objs.size ((pushI m ss).push (tObj (refsE (entsOf P w ss m.objs.size)))).objs.size .none false) rfl
      have g4 := up5 _ _ (Heap.get?_push_size ((pushI m ss).push (tObj (refsE (entsOf P w ss m.objs.size)))) (o := tObj ((refsE (entsOf P w ss m.objs.size)).map fun _ => Value.none)) rfl)
      have g3 := up4 _ _ (Heap.get?_push_size (pushI m ss) (o := tObj (refsE (entsOf P w ss m.objs.size))) rfl)
      have hst := pushI_st (P := P) (w := w) ss m hs
      refine ⟨⟨⟨.none, false, ?_, .inl rfl⟩, ?_, ⟨(refsE (entsOf P w ss m.objs.size)).map fun _ => Value.none, by rw [List.length_map, hln, entsOf_len], ?_⟩, fun e he => e.I.keep _ _ _ (hst e he) (fun o q => up3 _ o q) fun o q => up3 _ o q⟩, fun c o q => up3 c o (pushI_keep ss m c o q)⟩
      · rw [sz4, sz3, sz1] at g5
        rw [sz1, sz3]
        exact g5
      · show Heap.get? _ (m.objs.size + ss.length) = _
        rw [← sz1]
        exact g3
      · show Heap.get? _ (m.objs.size + ss.length + 1) = _
        rw [← sz3]
        exact g4
section
variable {P : Program} {w : World} {A : Around} {E : Value → Shared → Prop} {sh : Shared}
theorem callN {ss : List Src} {Q : Value → Shared → Prop} (hs : ∀ s ∈ ss, SrcOk s sh.heap) (hl : ss.length ≤ sizeLine)
    (good : ∀ h', NewZ P w ss sh.heap h' → Q (.ref (sh.heap.objs.size + ss.length + 2)) { sh with heap := h' }) : wpAny (model P w) A (call (.type "zip") (ss.map fun s => .ref s.l)) Q E sh := by
  refine callType_new F.called_zip (by decide) (zn_type _) (zn_call _) (fun ob => zn_init ob _) F.entry_zip_new (meetsN P w ss) ⟨hs, hl, fun h' n => ?_⟩
  obtain ⟨f0, f1, hz, _⟩ := n.1.zz
  exact ⟨⟨_, hz, rfl⟩, good h' n⟩
end
end PK

namespace PK
open PySem PySem.Spec PyProof.Rows L2 RZ
/-! ### zip of any number of things: its turns -/
def itsN : Nat → Nat → List Nat
  | 0, _ => []
  | n + 1, a => a :: itsN n (a + 1)
theorem entsOf_its {P : Program} {w : World} : ∀ (ss : List Src) (a : Nat), (entsOf P w ss a).map (·.it) = itsN ss.length a
  | [], _ => rfl
  | s :: r, a => by
    rw [entsOf, List.map_cons, entsOf_its r]
    rfl
def posOk : List (Nat × Bool) → Nat → Nat → Heap → Prop
  | [], _, _, _ => True
  | k :: r, a, i, h => (k.1 ≠ a ∧ (if k.2 = true then h.IsTupleIter a k.1 i else h.IsListIter a k.1 i)) ∧ posOk r (a + 1) i h
theorem posOk_to {P : Program} {w : World} : ∀ (ss : List Src) (a i : Nat) (h : Heap), (∀ s ∈ ss, SrcOk s h) → posOk (ss.map fun s => (s.l, s.tp)) a i h → ∀ e ∈ entsOf P w ss a, e.S i h
  | [], _, _, _, _, _, e, he => by cases he
  | s :: r, a, i, h, hs, hp, e, he => by
    rcases List.mem_cons.mp he with q | q
    · subst q
      exact ⟨hp.1.1, hs s List.mem_cons_self, hp.1.2⟩
    · exact posOk_to r (a + 1) i h (fun x hx => hs x (List.mem_cons_of_mem _ hx)) hp.2 e q
theorem posOk_of {P : Program} {w : World} : ∀ (ss : List Src) (a i : Nat) (h : Heap), (∀ e ∈ entsOf P w ss a, e.S i h) → posOk (ss.map fun s => (s.l, s.tp)) a i h
  | [], _, _, _, _ => trivial
  | s :: r, a, i, h, hs => by
    have h1 : srcS s a i h := hs _ List.mem_cons_self
    exact ⟨⟨h1.1, h1.2.2⟩, posOk_of r (a + 1) i h fun e he => hs e (List.mem_cons_of_mem _ he)⟩
theorem posOk_obj : ∀ (ks : List (Nat × Bool)) (a i : Nat) (h : Heap), posOk ks a i h → ∀ c ∈ itsN ks.length a, ∃ o, h.get? c = some o ∧ ∀ v, o.data ≠ .cell v
  | [], _, _, _, _, c, hc => by cases hc
  | k :: r, a, i, h, hp, c, hc => by
    rcases List.mem_cons.mp hc with q | q
    · subst q
      have h2 := hp.1.2
      split at h2
      · obtain ⟨o, e, _, d⟩ := h2
        exact ⟨o, e, fun v z => by rw [d] at z; cases z⟩
      · obtain ⟨o, e, _, d⟩ := h2
        exact ⟨o, e, fun v z => by rw [d] at z; cases z⟩
    · exact posOk_obj r (a + 1) i h hp.2 c q
theorem posOk_keep : ∀ (ks : List (Nat × Bool)) (a i : Nat) (h h' : Heap), posOk ks a i h → (∀ c ∈ itsN ks.length a, ∀ o, h.get? c = some o → h'.get? c = some o) → posOk ks a i h'
  | [], _, _, _, _, _, _ => trivial
  | k :: r, a, i, h, h', hp, kk => by
    refine ⟨⟨hp.1.1, ?_⟩, posOk_keep r (a + 1) i h h' hp.2 fun c hc => kk c (List.mem_cons_of_mem _ hc)⟩
    have h2 := hp.1.2
    split at h2
    · rename_i q
      rw [if_pos q]
      obtain ⟨o, e, m⟩ := h2
      exact ⟨o, kk a List.mem_cons_self o e, m⟩
    · rename_i q
      rw [if_neg q]
      obtain ⟨o, e, m⟩ := h2
      exact ⟨o, kk a List.mem_cons_self o e, m⟩
/-- what stands in the things -/
def SrcV (K : PySem.W.Frag) (H : Hp) : List (Nat × Bool) → List (List V) → Prop
  | [], vss => vss = []
  | k :: r, vss => ∃ vs q, vss = vs :: q ∧ (if k.2 = true then SqT K H k.1 vs else SqL K H k.1 vs) ∧ SrcV K H r q
def RelS : List (List V) → List Src → Prop
  | [], ss => ss = []
  | vs :: r, ss => ∃ s q, ss = s :: q ∧ Vals vs s.its.toList ∧ RelS r q
section
variable {X : Cx} {pins : List (Nat × Obj)} {σ : L2.St} {H : Hp} {s : Shared}
theorem srcV_src (I : Inv X pins σ H s) : ∀ (ks : List (Nat × Bool)) (vss : List (List V)), SrcV X.K H ks vss → ∃ ss : List Src, (ss.map fun s => (s.l, s.tp)) = ks ∧ (∀ q ∈ ss, SrcOk q s.heap) ∧ RelS vss ss
  | [], vss, h => by
    have h' : vss = [] := h
    subst h'
    exact ⟨[], rfl, fun _ h => (by cases h), rfl⟩
  | k :: r, vss, h => by
    obtain ⟨vs, q, rfl, h1, h2⟩ := h
    obtain ⟨ss, e1, e2, e3⟩ := srcV_src I r q h2
    obtain ⟨l, tp⟩ := k
    cases tp with
    | true =>
      obtain ⟨its, rv, p, _⟩ := I.tuple (show SqT X.K H l vs from h1)
      exact ⟨⟨l, true, its.toArray⟩ :: ss, by rw [List.map_cons, e1], fun x hx => by
        rcases List.mem_cons.mp hx with z | z
        · rw [z]; exact p
        · exact e2 x z, _, _, rfl, by simpa using rv, e3⟩
    | false =>
      obtain ⟨its, rv, p, _⟩ := I.list (show SqL X.K H l vs from h1)
      exact ⟨⟨l, false, its.toArray⟩ :: ss, by rw [List.map_cons, e1], fun x hx => by
        rcases List.mem_cons.mp hx with z | z
        · rw [z]; exact p.isList
        · exact e2 x z, _, _, rfl, by simpa using rv, e3⟩
theorem srcV_inj (I : Inv X pins σ H s) : ∀ (ks : List (Nat × Bool)) (vss wss : List (List V)), SrcV X.K H ks vss → SrcV X.K H ks wss → vss = wss
  | [], vss, wss, h, g => by
    have h' : vss = [] := h
    have g' : wss = [] := g
    rw [h', g']
  | k :: r, vss, wss, h, g => by
    obtain ⟨vs, q, rfl, h1, h2⟩ := h
    obtain ⟨ws, q', rfl, g1, g2⟩ := g
    rw [srcV_inj I r q q' h2 g2]
    obtain ⟨l, tp⟩ := k
    cases tp with
    | true => rw [I.tuple_inj (show SqT X.K H l vs from h1) (show SqT X.K H l ws from g1)]
    | false => rw [I.list_inj (show SqL X.K H l vs from h1) (show SqL X.K H l ws from g1)]
end
theorem relS_items {P : Program} {w : World} {i : Nat} : ∀ (vss : List (List V)) (ss : List Src) (a : Nat), RelS vss ss → (∀ vs ∈ vss, i < vs.length) → ∃ (xs : List V) (us : List Value), vss.map (·[i]?) = xs.map some ∧ ItemsOf (entsOf P w ss a) i us ∧ Vals xs us
  | [], ss, a, h, _ => by
    have h' : ss = [] := h
    subst h'
    exact ⟨[], [], rfl, rfl, .nil⟩
  | vs :: r, ss, a, h, hl => by
    obtain ⟨s, q, rfl, h1, h2⟩ := h
    obtain ⟨xs, us, e1, e2, e3⟩ := relS_items (P := P) (w := w) r q (a + 1) h2 fun x hx => hl x (List.mem_cons_of_mem _ hx)
    have hi := hl vs List.mem_cons_self
    obtain ⟨u, hu, ru⟩ := h1.get (List.getElem?_eq_getElem hi)
    refine ⟨vs[i] :: xs, u :: us, by rw [List.map_cons, e1, List.getElem?_eq_getElem hi]; rfl, ?_, .cons ru e3⟩
    unfold ItemsOf at e2 ⊢
    rw [entsOf, List.map_cons, e2, List.map_cons]
    congr 1
    show s.its[i]? = some u
    rw [← Array.getElem?_toList]
    exact hu
theorem relS_len : ∀ (vss : List (List V)) (ss : List Src), RelS vss ss → vss.length = ss.length
  | [], ss, h => by
    have h' : ss = [] := h
    subst h'
    rfl
  | vs :: r, ss, h => by
    obtain ⟨s, q, rfl, _, h2⟩ := h
    rw [List.length_cons, List.length_cons, relS_len r q h2]
/-- the things that are walked together, given by where they are -/
def ItN (K : PySem.W.Frag) (ks : List (Nat × Bool)) : It :=
  ⟨fun i H => ∃ vss, SrcV K H ks vss ∧ ∀ vs ∈ vss, i < vs.length,
    fun i H v H' => ∃ T xs, v = .ref T ∧ H T = none ∧ H' = upd H T (.tup xs) ∧ ∀ vss, SrcV K H ks vss → vss.map (·[i]?) = xs.map some,
    fun i H => ∃ vss, SrcV K H ks vss ∧ ∀ vs ∈ vss, vs.length ≤ i⟩
def TnN (ks : List (Nat × Bool)) (a : Nat) (i : Nat) (h : Heap) : Prop :=
  (∃ f0 f1, h.get? (a + ks.length + 2) = some (zObj (a + ks.length) (a + ks.length + 1) f0 f1) ∧ (f0 = .none ∨ ∃ T : Nat, f0 = rawInt T)) ∧ h.get? (a + ks.length) = some (tObj ((itsN ks.length a).map Value.ref)) ∧
    (∃ us, us.length = ks.length ∧ h.get? (a + ks.length + 1) = some (tObj us)) ∧ posOk ks a i h
abbrev fpN (n a : Nat) : List Nat := (a + n + 2) :: (a + n) :: (a + n + 1) :: itsN n a
theorem refs_its {P : Program} {w : World} (ss : List Src) (a : Nat) : refsE (entsOf P w ss a) = (itsN ss.length a).map Value.ref := by
  rw [← entsOf_its (P := P) (w := w), List.map_map]
  rfl
theorem TnN.st {P : Program} {w : World} {ss : List Src} {a i : Nat} {h : Heap} (t : TnN (ss.map fun s => (s.l, s.tp)) a i h) (hs : ∀ s ∈ ss, SrcOk s h) : ZSt (a + ss.length + 2) (a + ss.length) (a + ss.length + 1) (entsOf P w ss a) i h := by
  obtain ⟨t1, t2, ⟨us, u1, t3⟩, t4⟩ := t
  rw [List.length_map] at t1 t2 t3 u1
  exact ⟨t1, by rw [refs_its]; exact t2, ⟨us, by rw [entsOf_len]; exact u1, t3⟩, posOk_to ss a i h hs t4⟩
theorem TnN.of {P : Program} {w : World} {ss : List Src} {a i : Nat} {h : Heap} (st : ZSt (a + ss.length + 2) (a + ss.length) (a + ss.length + 1) (entsOf P w ss a) i h) : TnN (ss.map fun s => (s.l, s.tp)) a i h := by
  unfold TnN
  rw [List.length_map]
  obtain ⟨us, u1, u2⟩ := st.to
  exact ⟨st.zz, by rw [← refs_its (P := P) (w := w)]; exact st.ti, ⟨us, by rw [← entsOf_len (P := P) (w := w) ss a]; exact u1, u2⟩, posOk_of ss a i h st.ss⟩
theorem TnN.here {ks : List (Nat × Bool)} {a i : Nat} {h : Heap} (t : TnN ks a i h) : ∀ c ∈ fpN ks.length a, ∃ o, h.get? c = some o ∧ ∀ v, o.data ≠ .cell v := by
  obtain ⟨⟨f0, f1, t1, _⟩, t2, ⟨us, _, t3⟩, t4⟩ := t
  intro c hc
  rcases List.mem_cons.mp hc with q | hc
  · rw [q]; exact ⟨_, t1, fun v e => nomatch e⟩
  · rcases List.mem_cons.mp hc with q | hc
    · rw [q]; exact ⟨_, t2, fun v e => nomatch e⟩
    · rcases List.mem_cons.mp hc with q | hc
      · rw [q]; exact ⟨_, t3, fun v e => nomatch e⟩
      · exact posOk_obj ks a i h t4 c hc
theorem zip_self {P : Program} {w : World} {A : Around} {E : Value → Shared → Prop} {sh : Shared} {z TI TO : Nat} {f0 : Value} {f1 : Bool} {Q : Value → Shared → Prop} (hz : sh.heap.get? z = some (zObj TI TO f0 f1)) (h : Q (.ref z) sh) : wpAny (model P w) A (pyIter (.ref z)) Q E sh := by
  have hT : sh.TypeIs (.ref z) "zip" := ⟨_, hz, rfl⟩
  refine wpAny_pyIter_slot hT F.slot_zip_iter (wpAny_call_entry F.slot_zip_iter hT F.entry_zip_iter ?_ (F.args_zip_iter_1 _))
  show wpAny _ _ (ret (.ref z)) _ _ _
  exact wpAny_pure ⟨_, rfl, "zip", _, hT, F.slot_zip_next.lookup, h⟩
theorem turnN {P : Program} {w : World} {K : PySem.W.Frag} {y : Str} {ypos : Pos} {ks : List (Nat × Bool)} {a : Nat} (hne : ks ≠ []) (hl : ks.length ≤ 100000) (hlt : ∀ k ∈ ks, k.1 < a) : Turn P w K (.Name y ypos) (ItN K ks) (fpN ks.length a) (a + ks.length + 2) (TnN ks a) where
  mem := List.mem_cons_self
  obj := fun i h t => t.here
  keep := fun i h h' t kept => by
    obtain ⟨⟨f0, f1, t1, f⟩, t2, ⟨us, u, t3⟩, t4⟩ := t
    exact ⟨⟨f0, f1, kept _ (by simp) _ t1, f⟩, kept _ (by simp) _ t2, ⟨us, u, kept _ (by simp) _ t3⟩, posOk_keep ks a i h h' t4 fun c hc => kept c (List.mem_cons_of_mem _ (List.mem_cons_of_mem _ (List.mem_cons_of_mem _ hc)))⟩
  item := by
    rintro X rfl rfl rfl calm i pins sh σ hp E inv fps t ⟨vss, hv, hlen⟩
    have here := t.here
    obtain ⟨ss, e1, e2, e3⟩ := srcV_src inv ks vss hv
    subst e1
    rw [List.length_map] at fps here hl ⊢
    have D := entsOf_zap (P := X.prog) (w := X.w) (ss := ss) (a := a) fun s hs => hlt (s.l, s.tp) (List.mem_map.mpr ⟨s, hs, rfl⟩)
    obtain ⟨xs, us, g1, g2, g3⟩ := relS_items (P := X.prog) (w := X.w) (i := i) vss ss a e3 hlen
    have hne2 : entsOf X.prog X.w ss a ≠ [] := fun z => hne (by
      have := entsOf_len (P := X.prog) (w := X.w) ss a
      rw [z] at this
      have h0 : ss = [] := List.length_eq_zero_iff.mp this.symm
      rw [h0]; rfl)
    have hls : ss.length ≤ sizeLine := Nat.le_trans hl (by decide)
    refine zn_item D hne2 (by rw [entsOf_len]; exact hls) (t.st e2) g2 fun h' n1 n2 n3 n4 => ⟨_, rfl, wpAny_pure ?_⟩
    have hxl : xs.length = ss.length := by
      have := congrArg List.length g1
      simp at this
      rw [← this, relS_len vss ss e3]
    have keep : ∀ c o, c ∉ fpN ss.length a → sh.heap.get? c = some o → h'.get? c = some o := fun c o out q => n4 c o (fun z => out (by rw [z]; simp)) (fun z => out (by rw [z]; simp)) (fun z => out (by rw [entsOf_its] at z; simp [z])) q
    have made : ObjOk X.prog X.w (upd hp sh.heap.objs.size (.tup xs)) h' sh.heap.objs.size (.tup xs) := ⟨by rw [hxl]; exact hls, us, g3, ⟨_, n2, rfl, _, rfl⟩⟩
    have inv2 : Inv X pins σ (upd hp sh.heap.objs.size (.tup xs)) { sh with heap := h' } := inv.turnedNew (t' := sh.toks) (ch := fpN ss.length a) keep fps (Nat.le_refl _) made
    refine ⟨.ref sh.heap.objs.size, _, inv2, rfl, ⟨_, xs, rfl, inv.hok.fresh (Nat.le_refl _), rfl, fun wss hw => by rw [srcV_inj inv _ _ _ hw hv]; exact g1⟩, TnN.of n1, fun c hc => ?_⟩
    obtain ⟨o, e, _⟩ := here c hc
    rw [upd_ne (Nat.ne_of_lt (Heap.lt_size e))]
    exact (fps c hc).1
  done := by
    rintro X rfl rfl rfl calm i pins sh σ hp E inv fps t ⟨vss, hv, hlen⟩
    obtain ⟨ss, e1, e2, e3⟩ := srcV_src inv ks vss hv
    subst e1
    rw [List.length_map] at fps ⊢
    have D := entsOf_zap (P := X.prog) (w := X.w) (ss := ss) (a := a) fun s hs => hlt (s.l, s.tp) (List.mem_map.mpr ⟨s, hs, rfl⟩)
    have st := t.st (P := X.prog) (w := X.w) e2
    cases ss with
    | nil => exact absurd rfl hne
    | cons s r =>
      cases vss with
      | nil => exact absurd e3 (by intro z; cases z)
      | cons vs q =>
        obtain ⟨s', q', e4, e5, e6⟩ := e3
        obtain ⟨rfl, rfl⟩ := List.cons.inj e4
        have hx : s.its[i]? = Option.none := by
          have h1 := hlen vs List.mem_cons_self
          have h2 := e5.length
          rw [← Array.getElem?_toList]
          exact List.getElem?_eq_none (by omega)
        refine zn_end (inv.ok.hd calm) D st hx fun h' kept => ⟨rfl, inv.turnedL (t' := sh.toks) (ch := fpN (s :: r).length a) (fun c o no e => kept c o (fun z => no (by rw [z]; simp)) (fun z => no ?_) e) fps⟩
        have : c ∈ (entsOf X.prog X.w (s :: r) a).map (·.it) := z
        rw [entsOf_its] at this
        exact List.mem_cons_of_mem _ (List.mem_cons_of_mem _ (List.mem_cons_of_mem _ this))
  self := fun A i sh Q E t good => by
    obtain ⟨⟨f0, f1, t1, _⟩, _⟩ := t
    exact zip_self t1 good
end PK

namespace PK
open PySem PySem.Spec PyProof.Rows L2 RZ
def iZipN (K : PySem.W.Frag) (te : TE) : TI := fun σ H R => te σ H fun x H1 => ∃ (p : Nat) (ks : List (Nat × Bool)), x = V.ref p ∧ (SqT K H1 p (ks.map fun k => V.ref k.1) ∨ SqL K H1 p (ks.map fun k => V.ref k.1)) ∧ ks ≠ [] ∧ ks.length ≤ 100000 ∧ (∃ vss, SrcV K H1 ks vss) ∧ R (ItN K ks) H1
theorem vals_refs : ∀ {ks : List (Nat × Bool)} {us : List Value}, Vals (ks.map fun k => V.ref k.1) us → us = ks.map fun k => Value.ref k.1
  | [], us, h => by cases h; rfl
  | k :: r, us, h => by
    cases h with
    | cons a b =>
      cases a
      rw [vals_refs b]
      rfl
theorem srcV_lt {X : Cx} {pins : List (Nat × Obj)} {σ : L2.St} {H : Hp} {s : Shared} (I : Inv X pins σ H s) {ks : List (Nat × Bool)} {vss : List (List V)} (h : SrcV X.K H ks vss) : ∀ k ∈ ks, k.1 < s.heap.objs.size := fun k hk => by
  obtain ⟨ss, e1, e2, _⟩ := srcV_src I ks vss h
  rw [← e1] at hk
  obtain ⟨q, hq, rfl⟩ := List.mem_map.mp hk
  exact (e2 q hq).lt
theorem pi_zipN {X : Cx} {e : Expr} {te : TE} {p sp pos ypos : Pos} {y : Str} (hg : Gl X "zip") (hm : X.mg "zip" = none) (he : PE X e te)
    (hst : starEach [.Starred e sp] X.env = [(true, eval e X.env)] := by rfl) : PI X (.Name y ypos) (.Call (.Name "zip" p) [.Starred e sp] [] pos) (iZipN X.K te) :=
  ⟨fun pins sh σ hp R inv asks => Call_ (ld_blt inv hg hm PyProof.Rows.boot_zip (by
    show wpAny _ _ (callWith pos (.type "zip") [] (backTo pos (starEach [.Starred e sp] X.env)) []) _ _ _
    rw [hst]
    refine PySem.W.ks_call (P := fun _ => True) rfl (fun h _ => ⟨.machine, .inr (.inl rfl), PySem.W.Looks.now⟩) ?_
    refine PySem.W.ks_lone (thn (he.run pins sh σ hp _ inv asks) fun v s1 got => ?_)
    obtain ⟨x, H1, I1, rx, a, ks, rfl, hxs, hne, hl, ⟨vss, hv⟩, goes⟩ := got
    obtain rfl : v = Value.ref a := rx
    refine StX.star_any I1 hxs fun us s2 I2 rv => ⟨trivial, ?_⟩
    have hus := vals_refs rv
    subst hus
    obtain ⟨ss, e1, e2, e3⟩ := srcV_src I2 ks vss hv
    have hmap : ([] ++ ks.map fun k => Value.ref k.1) = ss.map fun s => Value.ref s.l := by
      rw [← e1, List.map_map, List.nil_append]
      rfl
    show wpAny _ _ (call (.type "zip") ([] ++ ks.map fun k => Value.ref k.1) []) _ _ _
    rw [hmap]
    have hkl : ss.length = ks.length := by rw [← e1, List.length_map]
    refine callN (P := X.prog) (w := X.w) e2 (Nat.le_trans (by rw [hkl]; exact hl) (by decide)) fun h' nz => ?_
    obtain ⟨st, kept⟩ := nz
    obtain ⟨f0, f1, hz, _⟩ := st.zz
    refine zip_self hz ?_
    have inv2 : Inv X pins σ H1 { s2 with heap := h' } := I2.kept (t' := s2.toks) kept
    have tn := TnN.of st
    rw [e1] at tn
    rw [hkl]
    refine ⟨s2.heap.objs.size + ks.length + 2, fpN ks.length s2.heap.objs.size, TnN ks s2.heap.objs.size, ItN X.K ks, H1, rfl, inv2, turnN hne hl (srcV_lt I2 hv), tn, fun c hc => ?_, goes⟩
    have far : s2.heap.objs.size ≤ c := by
      simp only [List.mem_cons] at hc
      rcases hc with q | q | q | q
      · rw [q]; exact Nat.le_trans (Nat.le_add_right _ _) (Nat.le_add_right _ _)
      · rw [q]; exact Nat.le_add_right _ _
      · rw [q]; exact Nat.le_trans (Nat.le_add_right _ _) (Nat.le_add_right _ _)
      · have h1 := (entsOf_it (P := X.prog) (w := X.w) ss s2.heap.objs.size c).mp (by rw [entsOf_its, hkl]; exact q)
        exact h1.1
    exact I2.fpOk far (I2.hok.fresh far)))⟩
/-! ### .. for data -/
/-- the items of a tuple or a list, which way it is -/
def seqD : D → Option (Bool × List D)
  | .tup xs => some (true, xs)
  | .lst xs => some (false, xs)
  | _ => none
def seqsD : List D → Option (List (Bool × List D))
  | [] => some []
  | d :: ds => match seqD d, seqsD ds with
    | some x, some xs => some (x :: xs)
    | _, _ => none
def colN (xss : List (List D)) (i : Nat) : List D := xss.filterMap (·[i]?)
/-- all of one length -/
def zipNd (xss : List (List D)) : Option (List D) := match xss with
  | [] => none
  | x :: r => if (x :: r).all (fun y => y.length == x.length) ∧ (x :: r).length ≤ 100000 then some ((List.range x.length).map fun i => .tup (colN (x :: r) i)) else none
def iZipNd (f : EF) : IF := fun δ => (f δ).bind fun p => (der p.2 p.1).bind fun d => (itemsD d).bind fun ds => (seqsD ds).bind fun xs => match p.1 with
  | .fz _ => (zipNd (xs.map (·.2))).map fun r => (r, [], p.2)
  | _ => none
theorem seqs_src {K : PySem.W.Frag} {mg : Str → Option Value} {B : Hp} : ∀ {ds : List D} {vs : List V} {xs : List (Bool × List D)}, Rps K mg B ds vs → seqsD ds = some xs → ∃ (ks : List (Nat × Bool)) (vss : List (List V)), vs = (ks.map fun k => V.ref k.1) ∧ ks.length = xs.length ∧ (∀ H, Same B H → SrcV K H ks vss) ∧ vss.length = xs.length ∧
    (∀ (j : Nat) (x : Bool × List D) (us : List V), xs[j]? = some x → vss[j]? = some us → Rps K mg B x.2 us)
  | [], vs, xs, h, e => by
    have h' : vs = [] := h
    subst h'
    simp only [seqsD] at e
    cases e
    exact ⟨[], [], rfl, rfl, fun _ _ => rfl, rfl, fun j x us h => by simp at h⟩
  | d :: ds, vs, xs, h, e => by
    obtain ⟨v, r, rfl, h1, h2⟩ := h
    simp only [seqsD] at e
    split at e
    · rename_i x xs' e1 e2
      cases e
      obtain ⟨ks, vss, g1, g2, g3, g4, g5⟩ := seqs_src h2 e2
      cases d with
      | tup ys =>
        simp only [seqD] at e1
        cases e1
        obtain ⟨a, us, rfl, b1, b2⟩ := h1
        refine ⟨(a, true) :: ks, us :: vss, by rw [g1]; rfl, by simp [g2], fun H hH => ⟨us, vss, rfl, SqT.of (hH _ _ b1), g3 H hH⟩, by simp [g4], fun j y ws hj hw => ?_⟩
        cases j with
        | zero =>
          simp at hj hw
          subst hj hw
          exact b2
        | succ j => exact g5 j y ws (by simpa using hj) (by simpa using hw)
      | lst ys =>
        simp only [seqD] at e1
        cases e1
        obtain ⟨a, us, rfl, b1, b2⟩ := h1
        refine ⟨(a, false) :: ks, us :: vss, by rw [g1]; rfl, by simp [g2], fun H hH => ⟨us, vss, rfl, SqL.of (hH _ _ b1), g3 H hH⟩, by simp [g4], fun j y ws hj hw => ?_⟩
        cases j with
        | zero =>
          simp at hj hw
          subst hj hw
          exact b2
        | succ j => exact g5 j y ws (by simpa using hj) (by simpa using hw)
      | _ => cases e1
    · cases e
theorem col_rps {K : PySem.W.Frag} {mg : Str → Option Value} {B : Hp} {i n : Nat} : ∀ {xss : List (List D)} {vss : List (List V)} {us : List V}, xss.length = vss.length → (∀ (j : Nat) (x : List D) (ws : List V), xss[j]? = some x → vss[j]? = some ws → Rps K mg B x ws) → (∀ x ∈ xss, i < x.length) → vss.map (·[i]?) = us.map some → Rps K mg B (colN xss i) us
  | [], vss, us, hl, _, _, e => by
    have : vss = [] := List.length_eq_zero_iff.mp hl.symm
    subst this
    have : us = [] := by simpa using e.symm
    subst this
    exact rfl
  | x :: xss, [], us, hl, _, _, e => by cases hl
  | x :: xss, ws :: vss, us, hl, h, hi, e => by
    cases us with
    | nil => simp at e
    | cons u us =>
      rw [List.map_cons, List.map_cons] at e
      obtain ⟨e1, e2⟩ := List.cons.inj e
      have hx := hi x List.mem_cons_self
      obtain ⟨v, h1, h2⟩ := Rps.get (h 0 x ws rfl rfl) (List.getElem?_eq_getElem hx)
      rw [e1] at h1
      cases h1
      have h3 : colN (x :: xss) i = x[i] :: colN xss i := by
        simp [colN, List.filterMap_cons, List.getElem?_eq_getElem hx]
      rw [h3]
      exact ⟨u, us, rfl, h2, col_rps (n := n) (by simpa using hl) (fun j y zs hj hz => h (j + 1) y zs (by simpa using hj) (by simpa using hz)) (fun y hy => hi y (List.mem_cons_of_mem _ hy)) e2⟩
theorem tup_new {K : PySem.W.Frag} {mg : Str → Option Value} {B F : Hp} {ad : List Addr} {σ : L2.St} {δ : Dl} {H : Hp} {T : Addr} {us : List V} {ds : List D} (S : SRep K mg B F ad σ δ H) (hT : H T = none) (h1 : Rps K mg B ds us) :
    ∃ B2, Same B B2 ∧ SRep K mg B2 F ad σ δ (upd H T (.tup us)) ∧ Rp K mg B2 (.tup ds) (.ref T) := by
  have s1 : Same B (upd B T (.tup us)) := same_new (S.exB.free hT)
  exact ⟨_, s1, S.alloc hT, T, us, rfl, upd_same, Rps.mono s1 _ _ h1⟩
theorem walkN {K : PySem.W.Frag} {ks : List (Nat × Bool)} {vss : List (List V)} {n : Nat} (hn : ∀ vs ∈ vss, vs.length = n) : Walk (ItN K ks) n (fun H => SrcV K H ks vss) (fun i H v H' => ∃ T us, v = .ref T ∧ H T = none ∧ H' = upd H T (.tup us) ∧ vss.map (·[i]?) = us.map some) :=
  ⟨fun i H hi q => ⟨vss, q, fun vs h => by rw [hn vs h]; exact hi⟩, fun H q => ⟨vss, q, fun vs h => by rw [hn vs h]; exact Nat.le_refl _⟩, fun i H x H' hi q y => by
    obtain ⟨T, us, h1, h2, h3, h4⟩ := y
    exact ⟨T, us, h1, h2, h3, h4 vss q⟩⟩
theorem pdi_zipN {X : Cx} {e : Expr} {f : EF} {p sp pos ypos : Pos} {y : Str} (hg : Gl X "zip") (hm : X.mg "zip" = none) (he : PD X e f)
    (hst : starEach [.Starred e sp] X.env = [(true, eval e X.env)] := by rfl) : PDI X (.Name y ypos) (.Call (.Name "zip" p) [.Starred e sp] [] pos) (iZipNd f) := PI.weak (pi_zipN hg hm he hst) fun σ H R h => by
  obtain ⟨B, F, ad, δ, it, ck, δ', S, e, hck, k⟩ := h
  unfold iZipNd at e
  obtain ⟨⟨r, δ1⟩, e1, e⟩ := Option.bind_eq_some_iff.mp e
  obtain ⟨d, e2, e⟩ := Option.bind_eq_some_iff.mp e
  obtain ⟨ds, e3, e⟩ := Option.bind_eq_some_iff.mp e
  obtain ⟨xs, e4, e⟩ := Option.bind_eq_some_iff.mp e
  refine ⟨B, F, ad, δ, r, δ1, S, e1, fun B1 ad1 v H1 s1 p1 S1 r1 => ?_⟩
  dsimp only at e e2
  split at e
  · rename_i d0
    obtain ⟨its, e5, e6⟩ := Option.map_eq_some_iff.mp e
    cases e6
    simp only [der] at e2
    cases e2
    have hseq : ∃ (a : Nat) (vs : List V), v = .ref a ∧ (SqT X.K H1 a vs ∨ SqL X.K H1 a vs) ∧ Rps X.K X.mg B1 ds vs := by
      cases d with
      | lst ys =>
        simp only [itemsD] at e3
        cases e3
        obtain ⟨a, vs, h1, h2, h3⟩ := r1
        exact ⟨a, vs, h1, .inr (SqL.of (S1.exB _ _ h2)), h3⟩
      | tup ys =>
        simp only [itemsD] at e3
        cases e3
        obtain ⟨a, vs, h1, h2, h3⟩ := r1
        exact ⟨a, vs, h1, .inl (SqT.of (S1.exB _ _ h2)), h3⟩
      | _ => simp [itemsD] at e3
    obtain ⟨a, vs, rfl, hsq, hr⟩ := hseq
    obtain ⟨ks, vss, g1, g2, g3, g4, g5⟩ := seqs_src hr e4
    have hx : ∃ x rest, xs = x :: rest := by
      cases xs with
      | nil => simp [zipNd] at e5
      | cons x rest => exact ⟨x, rest, rfl⟩
    obtain ⟨x0, rest, rfl⟩ := hx
    simp only [List.map_cons, zipNd] at e5
    split at e5
    · rename_i hc
      obtain ⟨hall, hlen⟩ := hc
      have hits := Option.some.inj e5
      have hall' : ∀ y ∈ (x0 :: rest).map (·.2), y.length = x0.2.length := fun y hy => by
        have := List.all_eq_true.mp hall y hy
        simpa using this
      have hvl : ∀ ws ∈ vss, ws.length = x0.2.length := fun ws hw => by
        obtain ⟨j, hj⟩ := List.getElem?_of_mem hw
        have hjl : j < (x0 :: rest).length := by rw [← g4]; exact (List.getElem?_eq_some_iff.mp hj).1
        have h1 := g5 j _ ws (List.getElem?_eq_getElem hjl) hj
        rw [Rps.length h1]
        exact hall' _ (List.mem_map_of_mem (List.getElem_mem hjl))
      have hil : it.length = x0.2.length := by rw [← hits]; simp
      refine ⟨a, ks, rfl, by rw [← g1]; exact hsq, fun z => by rw [z] at g2; simp at g2, by rw [g2]; simpa using hlen, ⟨vss, g3 _ S1.exB⟩, ?_⟩
      refine k B1 ad1 H1 (ItN X.K ks) (fun H => SrcV X.K H ks vss) _ s1 p1 S1 (by rw [hil]; exact walkN hvl) ?_ ?_
      · intro B3 F3 ad3 σ3 δ3 H3 s3 p3 S3 c
        exact g3 _ fun b o q => S3.exB _ _ (s3 _ _ q)
      · rintro i x B3 F3 ad3 σ3 δ3 H3 H4 s3 p3 S3 c hi ⟨T, us, rfl, hT, rfl, hu⟩
        rw [hil] at hi
        have hcol : Rps X.K X.mg B1 (colN ((x0 :: rest).map (·.2)) i) us := col_rps (n := 0) (by rw [List.length_map, g4]) (fun j y ws hj hw => by
            rw [List.getElem?_map] at hj
            obtain ⟨q, hq, rfl⟩ := Option.map_eq_some_iff.mp hj
            exact g5 j q ws hq hw) (fun y hy => by rw [hall' y hy]; exact hi) hu
        obtain ⟨B4, s4, S4, r4⟩ := tup_new S3 hT (Rps.mono s3 _ _ hcol)
        refine ⟨B4, s4, S4, _, ?_, r4⟩
        rw [← hits, List.getElem?_map, List.getElem?_range hi]
        rfl
    · cases e5
  · cases e
end PK

namespace PK
open PySem PySem.Spec PyProof.Rows L2 RZ
/-- a tuple and a list, turn by turn, the items in new pairs -/
def ItY (K : PySem.W.Frag) (la lb : Addr) : It :=
  ⟨fun k hp => ∃ (xs ys : List V) (x y : V), SqT K hp la xs ∧ SqL K hp lb ys ∧ xs[k]? = some x ∧ ys[k]? = some y,
    fun k hp v hq => ∃ T x y, v = .ref T ∧ hp T = none ∧ hq = upd hp T (.tup [x, y]) ∧ (∀ xs, SqT K hp la xs → xs[k]? = some x) ∧ ∀ ys, SqL K hp lb ys → ys[k]? = some y,
    fun k hp => ∃ xs ys : List V, SqT K hp la xs ∧ SqL K hp lb ys ∧ (xs.length ≤ k ∨ ys.length ≤ k)⟩
def TnY (zo pi po ia ib la lb : Addr) (k : Nat) (h : Heap) : Prop := IsZip h zo pi po .none ∧ IsPair h pi (.ref ia) (.ref ib) ∧ (∃ x y, IsPair h po x y) ∧ h.IsTupleIter ia la k ∧ h.IsListIter ib lb k
theorem TnY.here {zo pi po ia ib la lb : Addr} {k : Nat} {h : Heap} (t : TnY zo pi po ia ib la lb k h) : ∀ c ∈ [zo, pi, po, ia, ib], ∃ o, h.get? c = some o ∧ ∀ v, o.data ≠ .cell v := by
  obtain ⟨t1, t2, ⟨x, y, t3⟩, ⟨o1, t4, _, d1⟩, o2, t5, _, d2⟩ := t
  intro c hc
  rcases fiveM hc with q | q | q | q | q <;> rw [q]
  · exact ⟨_, t1, fun v e => nomatch e⟩
  · exact ⟨_, t2, fun v e => nomatch e⟩
  · exact ⟨_, t3, fun v e => nomatch e⟩
  · exact ⟨o1, t4, fun v e => by rw [d1] at e; cases e⟩
  · exact ⟨o2, t5, fun v e => by rw [d2] at e; cases e⟩
theorem turnY {P : Program} {w : World} {K : PySem.W.Frag} {elts : List Expr} {kk : Nat} {tpos : Pos} {zo pi po ia ib la lb : Addr} (D : ZipApart zo pi po ia ib la lb) : Turn P w K (.Tuple elts kk tpos) (ItY K la lb) [zo, pi, po, ia, ib] zo (TnY zo pi po ia ib la lb) where
  mem := List.mem_cons_self
  obj := fun k h t => t.here
  keep := fun k h h' t kept => by
    obtain ⟨t1, t2, ⟨x, y, t3⟩, ⟨o1, t4, r4⟩, o2, t5, r5⟩ := t
    exact ⟨kept zo (by simp) _ t1, kept pi (by simp) _ t2, ⟨x, y, kept po (by simp) _ t3⟩, ⟨o1, kept ia (by simp) o1 t4, r4⟩, o2, kept ib (by simp) o2 t5, r5⟩
  item := by
    rintro X rfl rfl rfl calm k pins sh σ hp E inv fps t ⟨xs, ys, x, y, q1, q2, g1, g2⟩
    have here := t.here
    obtain ⟨t1, t2, ⟨x0, y0, t3⟩, t4, t5⟩ := t
    obtain ⟨us, r1, p1, _⟩ := inv.tuple q1
    obtain ⟨vs, r2, p2, _⟩ := inv.list q2
    obtain ⟨u, gu, ru⟩ := r1.get g1
    obtain ⟨v, gv, rv⟩ := r2.get g2
    have low : zo < sh.heap.objs.size := Heap.lt_size t1
    refine zm_item (itr_tup (its := us.toArray) D.l1i1) (itr_list (its := vs.toArray) D.l2i2) D t1 t2 t3 ⟨t4, p1⟩ ⟨t5, p2.isList⟩ (x := u) (y := v) (by simpa using gu) (by simpa using gv) fun h' n1 n2 n3 n4 n5 n6 n7 => ⟨_, rfl, wpAny_letOwnedTupleGo_zip (s := { sh with heap := h' }) n1 fun h2 n8 sb => ?_⟩
    have up : ∀ c o, c ≠ zo → c ≠ po → c ≠ ia → c ≠ ib → sh.heap.get? c = some o → h2.get? c = some o := fun c o a1 a2 a3 a4 e => (sb.2 _ a1).trans (n7 c o a1 a2 a3 a4 e)
    have pair : h2.get? sh.heap.objs.size = some { cls := .type "tuple", data := .seq #[u, v] } := (sb.2 _ (Nat.ne_of_gt low)).trans n5
    have made : ObjOk X.prog X.w (upd hp sh.heap.objs.size (.tup [x, y])) h2 sh.heap.objs.size (.tup [x, y]) := ⟨by show 2 ≤ sizeLine; decide, [u, v], .cons ru (.cons rv .nil), ⟨_, pair, rfl, _, rfl⟩⟩
    have inv2 : Inv X pins σ (upd hp sh.heap.objs.size (.tup [x, y])) { sh with heap := h2 } := inv.turnedNew (t' := sh.toks) (ch := [zo, pi, po, ia, ib]) (fun c o out e => up c o (fun a => out (by simp [a])) (fun a => out (by simp [a])) (fun a => out (by simp [a])) (fun a => out (by simp [a])) e) fps (Nat.le_refl _) made
    refine ⟨.ref sh.heap.objs.size, _, inv2, rfl, ⟨_, x, y, rfl, inv.hok.fresh (Nat.le_refl _), rfl, fun l hl => by rw [inv.tuple_inj hl q1]; exact g1, fun l hl => by rw [inv.list_inj hl q2]; exact g2⟩, ⟨n8, up _ _ D.TIz D.TITO D.TIi1 D.TIi2 t2, ⟨u, v, (sb.2 _ D.TOz).trans n2⟩, ?_, ?_⟩, fun c hc => ?_⟩
    · obtain ⟨⟨o1, e1, m1⟩, _⟩ := n3
      exact ⟨o1, (sb.2 _ D.i1z).trans e1, m1⟩
    · obtain ⟨⟨o2, e2, m2⟩, _⟩ := n4
      exact ⟨o2, (sb.2 _ D.i2z).trans e2, m2⟩
    · obtain ⟨o, e, _⟩ := here c hc
      rw [upd_ne (Nat.ne_of_lt (Heap.lt_size e))]
      exact (fps c hc).1
  done := by
    rintro X rfl rfl rfl calm k pins sh σ hp E inv fps ⟨t1, t2, ⟨x0, y0, t3⟩, t4, t5⟩ ⟨xs, ys, q1, q2, over⟩
    obtain ⟨us, r1, p1, _⟩ := inv.tuple q1
    obtain ⟨vs, r2, p2, _⟩ := inv.list q2
    have n1 := r1.length
    have n2 := r2.length
    have out : us.toArray[k]? = none ∨ vs.toArray[k]? = none := by
      rcases over with a | a
      · exact .inl (by simp; omega)
      · exact .inr (by simp; omega)
    exact zm_end (inv.ok.hd calm) (itr_tup (its := us.toArray) D.l1i1) (itr_list (its := vs.toArray) D.l2i2) D t1 t2 t3 ⟨t4, p1⟩ ⟨t5, p2.isList⟩ out fun h' kept => ⟨rfl, inv.turnedL (t' := sh.toks) (ch := [zo, pi, po, ia, ib]) (fun c o no e => kept c o (fun a => no (by simp [a])) (fun a => no (by simp [a])) (fun a => no (by simp [a])) (fun a => no (by simp [a])) e) fps⟩
  self := fun A k sh Q E t good => wpAny_pyIter_zip t.1 good
/-! zip(xs, ys) is called -/
abbrev hY1 (h : Heap) (la : Addr) : Heap := h.push { cls := .type "tuple_iterator", data := .fields #[.ref la, .int 0 0] }
abbrev hY2 (h : Heap) (la lb : Addr) : Heap := (hY1 h la).push { cls := .type "list_iterator", data := .fields #[.ref lb, .int 0 0] }
abbrev hY3 (h : Heap) (la lb : Addr) : Heap := (hY2 h la lb).push { cls := .type "tuple", data := .seq #[.ref h.objs.size, .ref (hY1 h la).objs.size] }
abbrev hY4 (h : Heap) (la lb : Addr) : Heap := (hY3 h la lb).push { cls := .type "tuple", data := .seq #[.none, .none] }
abbrev hY5 (h : Heap) (la lb : Addr) : Heap := (hY4 h la lb).push { cls := .type "zip", data := .fields #[.none, .bool false, .bool false, .ref (hY2 h la lb).objs.size, .ref (hY3 h la lb).objs.size] }
theorem meetsY (la lb : Addr) (xs ys : Array Value) : Meets (Builtin.«zip.__new__» ⟨[.type "zip", .ref la, .ref lb], []⟩) (fun _ R sh => sh.heap.IsTuple la xs ∧ sh.heap.IsList lb ys ∧ R (.ok (.ret (.ref (hY4 sh.heap la lb).objs.size))) { sh with heap := hY5 sh.heap la lb }) :=
  .of_wp fun prog w A R sh h => by
    obtain ⟨m, g, d, tk, os⟩ := sh; obtain ⟨ia, ib, h⟩ := h
    have sub := sub_zip
    have fst : Heap.IsTuple (Shared.heap ⟨m, g, d, tk, os⟩) la xs := ia
    have snd : Heap.IsList (Shared.heap ⟨m.push { cls := .type "tuple_iterator", data := .fields #[.ref la, .int 0 0] }, g, d, tk, os⟩) lb ys := Heap.IsList.push ib _
    wp_walk using wpAny_pyIter_tuple fst, wpAny_pyIter_list snd
    exact ⟨_, rfl, h⟩
section
variable {P : Program} {w : World} {A : Around} {E : Value → Shared → Prop} {sh : Shared}
theorem callY {la lb : Addr} {xs ys : Array Value} {Q : Value → Shared → Prop} (fst : sh.heap.IsTuple la xs) (snd : sh.heap.IsList lb ys)
    (good : ∀ h', TnY (sh.heap.objs.size + 4) (sh.heap.objs.size + 2) (sh.heap.objs.size + 3) sh.heap.objs.size (sh.heap.objs.size + 1) la lb 0 h' → (∀ c o, sh.heap.get? c = some o → h'.get? c = some o) → Q (.ref (sh.heap.objs.size + 4)) { sh with heap := h' }) :
    wpAny (model P w) A (call (.type "zip") [.ref la, .ref lb]) Q E sh := by
  refine callType_new F.called_zip (by decide) (F.typeCall_zip_2 _ _) (F.newCall_zip_2 _ _) (fun ob => F.args_object_init_3 ob _ _) F.entry_zip_new (meetsY la lb xs ys) ⟨fst, snd, ?_⟩
  have n1 : (hY1 sh.heap la).objs.size = sh.heap.objs.size + 1 := Heap.size_push ..
  have n2 : (hY2 sh.heap la lb).objs.size = sh.heap.objs.size + 2 := by rw [Heap.size_push, n1]
  have n3 : (hY3 sh.heap la lb).objs.size = sh.heap.objs.size + 3 := by rw [Heap.size_push, n2]
  have n4 : (hY4 sh.heap la lb).objs.size = sh.heap.objs.size + 4 := by rw [Heap.size_push, n3]
  have up2 : ∀ c o, (hY3 sh.heap la lb).get? c = some o → (hY5 sh.heap la lb).get? c = some o := fun c o e => Heap.get?_push_of_some _ (Heap.get?_push_of_some _ e)
  have w5 : (hY5 sh.heap la lb).get? (hY4 sh.heap la lb).objs.size = some _ := Heap.get?_push_size _ rfl
  have w4 : (hY5 sh.heap la lb).get? (hY3 sh.heap la lb).objs.size = some _ := Heap.get?_push_of_some _ (Heap.get?_push_size _ rfl)
  have w3 : (hY5 sh.heap la lb).get? (hY2 sh.heap la lb).objs.size = some _ := up2 _ _ (Heap.get?_push_size _ rfl)
  have w2 : (hY5 sh.heap la lb).get? (hY1 sh.heap la).objs.size = some _ := up2 _ _ (Heap.get?_push_of_some _ (Heap.get?_push_size _ rfl))
  have w1 : (hY5 sh.heap la lb).get? sh.heap.objs.size = some _ := up2 _ _ (Heap.get?_push_of_some _ (Heap.get?_push_of_some _ (Heap.get?_push_size _ rfl)))
  rw [n2, n3, n4] at w5
  rw [n1, n2] at w3
  rw [n3] at w4
  rw [n1] at w2
  show _ ∧ _
  rw [n4]
  exact ⟨⟨_, w5, rfl⟩, good _ ⟨w5, w3, ⟨_, _, w4⟩, ⟨_, w1, rfl, rfl⟩, _, w2, rfl, rfl⟩ fun c o e => up2 c o (Heap.get?_push_of_some _ (Heap.get?_push_of_some _ (Heap.get?_push_of_some _ e)))⟩
end
theorem walkY {K : PySem.W.Frag} {la lb : Addr} {xs ys : List V} {n : Nat} (hn : n = min xs.length ys.length) : Walk (ItY K la lb) n (fun hp => SqT K hp la xs ∧ SqL K hp lb ys) (YPair (fun k => xs[k]?) (fun k => ys[k]?)) := by
  subst hn
  refine ⟨fun k _ hk q => ?_, fun _ q => ⟨xs, ys, q.1, q.2, by omega⟩, fun k hp v hq _ q y => ?_⟩
  · have a1 : k < xs.length := by omega
    have a2 : k < ys.length := by omega
    exact ⟨xs, ys, xs[k], ys[k], q.1, q.2, by simp [a1], by simp [a2]⟩
  · obtain ⟨T, x, z, b1, b2, b3, b4, b5⟩ := y
    exact ⟨T, x, z, b1, b2, b3, b4 xs q.1, b5 ys q.2⟩
/-! ### zip of two lists, of two tuples, of a list and a tuple, of a tuple and a list -/
def iZipW (K : PySem.W.Frag) (ta : TA) : TI := fun σ hp R => ta σ hp fun vs hq => ∃ la lb xs ys, vs = [.ref la, .ref lb] ∧ ((SqL K hq la xs ∧ SqL K hq lb ys ∧ R (Itz K la lb) hq) ∨ (SqT K hq la xs ∧ SqT K hq lb ys ∧ R (ItzT K la lb) hq) ∨ (SqL K hq la xs ∧ SqT K hq lb ys ∧ R (ItM K la lb) hq) ∨ (SqT K hq la xs ∧ SqL K hq lb ys ∧ R (ItY K la lb) hq))
theorem pi_zipW {X : Cx} {e e2 : Expr} {ta : TA} {p pos tpos : Pos} {elts : List Expr} {kk : Nat} (hg : Gl X "zip") (hm : X.mg "zip" = none) (ha : PA X [e, e2] ta)
    (hs : starEach [e, e2] X.env = (false, eval e X.env) :: starEach [e2] X.env := by rfl) (hpl : (backTo pos (starEach [e2] X.env)).any (·.1) = false := by rfl) : PI X (.Tuple elts kk tpos) (.Call (.Name "zip" p) [e, e2] [] pos) (iZipW X.K ta) :=
  ⟨fun pins sh σ hp R inv asks => Call_ (ld_blt inv hg hm PyProof.Rows.boot_zip (PyProof.Rows.callWith_type1 (thn (ha.run pos pins sh σ hp _ inv asks) fun us s1 got => by
    obtain ⟨vs, hq, inv1, rel, la, lb, xs, ys, rfl, ways⟩ := got
    match us, rel with
    | [_, _], .cons ra (.cons rb .nil) =>
      cases ra
      cases rb
      have far : ∀ c ∈ [s1.heap.objs.size + 4, s1.heap.objs.size + 2, s1.heap.objs.size + 3, s1.heap.objs.size, s1.heap.objs.size + 1], FpOk X pins hq c := fun c hc => by
        have low : s1.heap.objs.size ≤ c := by
          rcases fiveM hc with a | a | a | a | a <;> rw [a] <;> first | exact Nat.le_refl _ | exact Nat.le_add_right _ _
        exact inv1.fpOk low (inv1.hok.fresh low)
      rcases ways with ⟨q1, q2, goes⟩ | ⟨q1, q2, goes⟩ | ⟨q1, q2, goes⟩ | ⟨q1, q2, goes⟩
      · obtain ⟨us, r1, p1, _⟩ := inv1.list q1
        obtain ⟨ws, r2, p2, _⟩ := inv1.list q2
        exact call_zip_2 p1.isList p2.isList fun h' t1 t2 t3 t4 t5 _ kept => wpAny_pyIter_zip t1 ⟨s1.heap.objs.size + 4, _, _, _, hq, rfl, inv1.kept (t' := s1.toks) kept, turn_zip (PySem.W.ktu_apart s1.heap.objs.size la lb p1.lt p2.lt), ⟨t1, t2, ⟨_, _, t3⟩, t4, t5⟩, far, goes⟩
      · obtain ⟨us, r1, p1, _⟩ := inv1.tuple q1
        obtain ⟨ws, r2, p2, _⟩ := inv1.tuple q2
        obtain ⟨o1, got1, _⟩ := id p1
        obtain ⟨o2, got2, _⟩ := id p2
        exact call_zipT (show s1.heap.IsTuple la us.toArray from p1) (show s1.heap.IsTuple lb ws.toArray from p2) fun h' t1 t2 t3 t4 t5 _ kept => wpAny_pyIter_zip t1 ⟨s1.heap.objs.size + 4, _, _, _, hq, rfl, inv1.kept (t' := s1.toks) kept, turn_zipT (PySem.W.ktu_apart s1.heap.objs.size la lb (Heap.lt_size got1) (Heap.lt_size got2)), ⟨t1, t2, ⟨_, _, t3⟩, t4, t5⟩, far, goes⟩
      · obtain ⟨us, r1, p1, _⟩ := inv1.list q1
        obtain ⟨ws, r2, p2, _⟩ := inv1.tuple q2
        obtain ⟨o2, got2, _⟩ := id p2
        exact callM p1.isList (show s1.heap.IsTuple lb ws.toArray from p2) fun h' t kept => wpAny_pyIter_zip t.1 ⟨s1.heap.objs.size + 4, _, _, _, hq, rfl, inv1.kept (t' := s1.toks) kept, turnM (PySem.W.ktu_apart s1.heap.objs.size la lb p1.lt (Heap.lt_size got2)), t, far, goes⟩
      · obtain ⟨us, r1, p1, _⟩ := inv1.tuple q1
        obtain ⟨ws, r2, p2, _⟩ := inv1.list q2
        obtain ⟨o1, got1, _⟩ := id p1
        exact callY (show s1.heap.IsTuple la us.toArray from p1) p2.isList fun h' t kept => wpAny_pyIter_zip t.1 ⟨s1.heap.objs.size + 4, _, _, _, hq, rfl, inv1.kept (t' := s1.toks) kept, turnY (PySem.W.ktu_apart s1.heap.objs.size la lb (Heap.lt_size got1) p2.lt), t, far, goes⟩) hs hpl))⟩
def iZipWD (f g : EF) : IF := fun δ => (f δ).bind fun p => (g p.2).bind fun q => match p.1, q.1 with
  | .fz (.tup xs), .fz (.tup ys) => some (zipD xs ys, [], q.2)
  | .fz (.tup xs), b => (srcOf q.2 b).map fun z => (zipD xs z.1, z.2, q.2)
  | a, .fz (.tup ys) => (srcOf q.2 a).map fun z => (zipD z.1 ys, z.2, q.2)
  | a, b => match srcOf q.2 a, srcOf q.2 b with
    | some (xs, c), some (ys, d) => some (zipD xs ys, c ++ d, q.2)
    | _, _ => none
theorem pdi_zipW {X : Cx} {e e2 : Expr} {f g : EF} {p pos tpos : Pos} {elts : List Expr} {kk : Nat} (hg : Gl X "zip") (hm : X.mg "zip" = none) (ha : PD X e f) (hb : PD X e2 g)
    (hs : starEach [e, e2] X.env = (false, eval e X.env) :: starEach [e2] X.env := by rfl) (hs2 : starEach [e2] X.env = (false, eval e2 X.env) :: starEach [] X.env := by rfl) (hpl : (backTo pos (starEach [e2] X.env)).any (·.1) = false := by rfl) :
    PDI X (.Tuple elts kk tpos) (.Call (.Name "zip" p) [e, e2] [] pos) (iZipWD f g) := PI.weak (pi_zipW hg hm (pa_cons ha (pa_cons hb pa_nil hs2) hs) hs hpl) fun σ H R h => by
  obtain ⟨B, F, ad, δ, it, ck, δ', S, e, hck, k⟩ := h
  unfold iZipWD at e
  obtain ⟨⟨r, δ1⟩, e1, e⟩ := Option.bind_eq_some_iff.mp e
  obtain ⟨⟨q, δ2⟩, e2, e⟩ := Option.bind_eq_some_iff.mp e
  refine ⟨B, F, ad, δ, r, δ1, S, e1, fun B1 ad1 v H1 s1 p1 S1 r1 => ?_⟩
  refine ⟨B1, F, ad1, δ1, q, δ2, S1, e2, fun B2 ad2 w H2 s2 p2 S2 r2 => ?_⟩
  have r1' := r1.mono s2 p2
  simp only at e
  split at e
  · rename_i xs ys
    cases e
    obtain ⟨a, as, h1, h2, h3⟩ := r1'
    obtain ⟨b, bs, g1, g2, g3⟩ := r2
    subst h1 g1
    refine ⟨a, b, as, bs, rfl, .inr (.inl ⟨SqT.of (S2.exB _ _ h2), SqT.of (S2.exB _ _ g2), ?_⟩)⟩
    refine k B2 ad2 H2 (RZ.ItzT X.K a b) (fun H => SqT X.K H a as ∧ SqT X.K H b bs) _ (s1.trans s2) (p1.trans p2) S2 (walk_zipT (by rw [zipD_len, Rps.length h3, Rps.length g3])) ?_ ?_
    · intro B3 F3 ad3 σ3 δ3 H3 s3 p3 S3 c
      exact ⟨SqT.of (S3.exB _ _ (s3 _ _ h2)), SqT.of (S3.exB _ _ (s3 _ _ g2))⟩
    · rintro i x B3 F3 ad3 σ3 δ3 H3 H4 s3 p3 S3 c hi ⟨T, y, z, rfl, hT, rfl, hy, hz⟩
      obtain ⟨d, d1, d2⟩ := Rps.back h3 hy
      obtain ⟨d', d3, d4⟩ := Rps.back g3 hz
      obtain ⟨B4, s4, S4, r4⟩ := pair_new S3 hT (Rp.mono s3 _ _ d2) (Rp.mono s3 _ _ d4)
      exact ⟨B4, s4, S4, _, zipD_get d1 d3, r4⟩
  · rename_i xs r0 hne
    obtain ⟨⟨ys, c⟩, e3, e4⟩ := Option.map_eq_some_iff.mp e
    cases e4
    obtain ⟨a, as, h1, h2, h3⟩ := r1'
    obtain ⟨b, bs, g1, g2, g3, g4, g5⟩ := src_at S2 r2 e3
    subst h1 g1
    refine ⟨a, b, as, bs, rfl, .inr (.inr (.inr ⟨SqT.of (S2.exB _ _ h2), SqL.of g2, ?_⟩))⟩
    refine k B2 ad2 H2 (ItY X.K a b) (fun H => ∃ bs, bs.length = ys.length ∧ SqT X.K H a as ∧ H b = some (.lst bs)) (fun i H v H' => ∃ bs, bs.length = ys.length ∧ (SqT X.K H a as ∧ H b = some (.lst bs)) ∧ YPair (fun i => as[i]?) (fun i => bs[i]?) i H v H') (s1.trans s2) (p1.trans p2) S2 ?_ ?_ ?_
    · have hw : ∀ bs : List V, bs.length = ys.length → Walk (ItY X.K a b) (zipD xs ys).length (fun H => SqT X.K H a as ∧ H b = some (.lst bs)) (YPair (fun i => as[i]?) (fun i => bs[i]?)) := fun bs hl =>
        (walkY (K := X.K) (la := a) (lb := b) (xs := as) (ys := bs) (by rw [zipD_len, hl, Rps.length h3])).mono (fun H q => ⟨q.1, SqL.of q.2⟩) fun _ _ _ _ _ _ y => y
      exact ⟨fun i H hi ⟨bs, hl, q⟩ => (hw bs hl).goes i H hi q, fun H ⟨bs, hl, q⟩ => (hw bs hl).stops H q, fun i H x H' hi ⟨bs, hl, q⟩ y => ⟨bs, hl, q, (hw bs hl).yields i H x H' hi q y⟩⟩
    · intro B3 F3 ad3 σ3 δ3 H3 s3 p3 S3 cc
      obtain ⟨bs', q1, q2⟩ := g5 B3 F3 ad3 σ3 δ3 H3 s3 p3 S3 cc
      exact ⟨bs', Rps.length q2, SqT.of (S3.exB _ _ (s3 _ _ h2)), q1⟩
    · rintro i x B3 F3 ad3 σ3 δ3 H3 H4 s3 p3 S3 cc hi ⟨bs1, hl, ⟨w1, w2⟩, T, y, z, rfl, hT, rfl, hy, hz⟩
      obtain ⟨bs', q1, q2⟩ := g5 B3 F3 ad3 σ3 δ3 H3 s3 p3 S3 cc
      rw [q1] at w2
      cases w2
      obtain ⟨d, d1, d2⟩ := Rps.back h3 hy
      obtain ⟨d', d3, d4⟩ := Rps.back q2 hz
      obtain ⟨B4, s4, S4, r4⟩ := pair_new S3 hT (Rp.mono s3 _ _ d2) d4
      exact ⟨B4, s4, S4, _, zipD_get d1 d3, r4⟩
  · rename_i r0 ys hne
    obtain ⟨⟨xs, c⟩, e3, e4⟩ := Option.map_eq_some_iff.mp e
    cases e4
    obtain ⟨a, as, h1, h2, h3, h4, h5⟩ := src_at S2 r1' e3
    obtain ⟨b, bs, g1, g2, g3⟩ := r2
    subst h1 g1
    refine ⟨a, b, as, bs, rfl, .inr (.inr (.inl ⟨SqL.of h2, SqT.of (S2.exB _ _ g2), ?_⟩))⟩
    refine k B2 ad2 H2 (ItM X.K a b) (fun H => ∃ as, as.length = xs.length ∧ H a = some (.lst as) ∧ SqT X.K H b bs) (fun i H v H' => ∃ as, as.length = xs.length ∧ (H a = some (.lst as) ∧ SqT X.K H b bs) ∧ YPair (fun i => as[i]?) (fun i => bs[i]?) i H v H') (s1.trans s2) (p1.trans p2) S2 ?_ ?_ ?_
    · have hw : ∀ as : List V, as.length = xs.length → Walk (ItM X.K a b) (zipD xs ys).length (fun H => H a = some (.lst as) ∧ SqT X.K H b bs) (YPair (fun i => as[i]?) (fun i => bs[i]?)) := fun as hl =>
        (walkM (K := X.K) (la := a) (lb := b) (xs := as) (ys := bs) (by rw [zipD_len, hl, Rps.length g3])).mono (fun H q => ⟨SqL.of q.1, q.2⟩) fun _ _ _ _ _ _ y => y
      exact ⟨fun i H hi ⟨as, hl, q⟩ => (hw as hl).goes i H hi q, fun H ⟨as, hl, q⟩ => (hw as hl).stops H q, fun i H x H' hi ⟨as, hl, q⟩ y => ⟨as, hl, q, (hw as hl).yields i H x H' hi q y⟩⟩
    · intro B3 F3 ad3 σ3 δ3 H3 s3 p3 S3 cc
      obtain ⟨as', q1, q2⟩ := h5 B3 F3 ad3 σ3 δ3 H3 s3 p3 S3 cc
      exact ⟨as', Rps.length q2, q1, SqT.of (S3.exB _ _ (s3 _ _ g2))⟩
    · rintro i x B3 F3 ad3 σ3 δ3 H3 H4 s3 p3 S3 cc hi ⟨as1, hl, ⟨w1, w2⟩, T, y, z, rfl, hT, rfl, hy, hz⟩
      obtain ⟨as', q1, q2⟩ := h5 B3 F3 ad3 σ3 δ3 H3 s3 p3 S3 cc
      rw [q1] at w1
      cases w1
      obtain ⟨d, d1, d2⟩ := Rps.back q2 hy
      obtain ⟨d', d3, d4⟩ := Rps.back g3 hz
      obtain ⟨B4, s4, S4, r4⟩ := pair_new S3 hT d2 (Rp.mono s3 _ _ d4)
      exact ⟨B4, s4, S4, _, zipD_get d1 d3, r4⟩
  · split at e
    · rename_i xs c ys d e3 e4
      cases e
      obtain ⟨a, as, h1, h2, h3, h4, h5⟩ := src_at S2 r1' e3
      obtain ⟨b, bs, g1, g2, g3, g4, g5⟩ := src_at S2 r2 e4
      subst h1 g1
      refine ⟨a, b, as, bs, rfl, .inl ⟨SqL.of h2, SqL.of g2, ?_⟩⟩
      refine k B2 ad2 H2 (Itz X.K a b) (fun H => ∃ as bs, (as.length = xs.length ∧ bs.length = ys.length) ∧ H a = some (.lst as) ∧ H b = some (.lst bs)) (fun i H v H' => ∃ as bs, (as.length = xs.length ∧ bs.length = ys.length) ∧ (H a = some (.lst as) ∧ H b = some (.lst bs)) ∧ YPair (fun i => as[i]?) (fun i => bs[i]?) i H v H') (s1.trans s2) (p1.trans p2) S2 ?_ ?_ ?_
      · have hw : ∀ as bs : List V, as.length = xs.length ∧ bs.length = ys.length → Walk (Itz X.K a b) (zipD xs ys).length (fun H => H a = some (.lst as) ∧ H b = some (.lst bs)) (YPair (fun i => as[i]?) (fun i => bs[i]?)) := fun as bs hl =>
          (walk_zip (K := X.K) (a := a) (b := b) (xs := as) (ys := bs) (by rw [zipD_len, hl.1, hl.2])).mono (fun H q => ⟨SqL.of q.1, SqL.of q.2⟩) fun _ _ _ _ _ _ y => y
        exact ⟨fun i H hi ⟨as, bs, hl, q⟩ => (hw as bs hl).goes i H hi q, fun H ⟨as, bs, hl, q⟩ => (hw as bs hl).stops H q, fun i H x H' hi ⟨as, bs, hl, q⟩ y => ⟨as, bs, hl, q, (hw as bs hl).yields i H x H' hi q y⟩⟩
      · intro B3 F3 ad3 σ3 δ3 H3 s3 p3 S3 cc
        obtain ⟨as', q1, q2⟩ := h5 B3 F3 ad3 σ3 δ3 H3 s3 p3 S3 (ck_app cc).1
        obtain ⟨bs', q3, q4⟩ := g5 B3 F3 ad3 σ3 δ3 H3 s3 p3 S3 (ck_app cc).2
        exact ⟨as', bs', ⟨Rps.length q2, Rps.length q4⟩, q1, q3⟩
      · rintro i x B3 F3 ad3 σ3 δ3 H3 H4 s3 p3 S3 cc hi ⟨as1, bs1, hl, ⟨w1, w2⟩, T, y, z, rfl, hT, rfl, hy, hz⟩
        obtain ⟨as', q1, q2⟩ := h5 B3 F3 ad3 σ3 δ3 H3 s3 p3 S3 (ck_app cc).1
        obtain ⟨bs', q3, q4⟩ := g5 B3 F3 ad3 σ3 δ3 H3 s3 p3 S3 (ck_app cc).2
        rw [q1] at w1
        rw [q3] at w2
        cases w1; cases w2
        obtain ⟨d, d1, d2⟩ := Rps.back q2 hy
        obtain ⟨d', d3, d4⟩ := Rps.back q4 hz
        obtain ⟨B4, s4, S4, r4⟩ := pair_new S3 hT d2 d4
        exact ⟨B4, s4, S4, _, zipD_get d1 d3, r4⟩
    · cases e
end PK

namespace K12
open PySem L2 PySem.Spec PyProof.Rows PK
def topS (i : Nat) : Stmt := PySem.Challenge.pw_liftsteps_k12_linear_parts.main.body.getD i (.Pass ⟨0, 0, 0, 0⟩)
abbrev s_fraction : Stmt := topS 8
abbrev s_dot : Stmt := topS 9
abbrev s_multiple : Stmt := topS 10
abbrev s_are_integers : Stmt := topS 14
abbrev s_plain_step : Stmt := topS 17
abbrev s_unit_basis : Stmt := topS 19
abbrev s_Matrix_rows : Stmt := inClass (topS 21) 1
abbrev s_Matrix_bottom : Stmt := inClass (topS 21) 2
abbrev s_Matrix_len : Stmt := inClass (topS 21) 3
abbrev s_Matrix_eq : Stmt := inClass (topS 21) 4
abbrev s_check_matrix : Stmt := topS 22
abbrev s_common_divisor : Stmt := topS 23
abbrev s_Chain_channels : Stmt := inClass (topS 27) 1
abbrev s_Chain_steps : Stmt := inClass (topS 27) 2
abbrev s_Chain_grid : Stmt := inClass (topS 27) 9
abbrev s_law_pool : Stmt := topS 30
abbrev s_law_draw : Stmt := topS 31
abbrev s_law_back : Stmt := topS 37
abbrev s_law_done : Stmt := topS 41
abbrev s_law_whole : Stmt := topS 44
abbrev s_law_linear : Stmt := topS 45
abbrev s_law_plus : Stmt := topS 46
abbrev s_law_plainly : Stmt := topS 47
abbrev s_are_channels : Stmt := topS 15
abbrev s_apply_step : Stmt := topS 16
abbrev s_Matrix_init : Stmt := inClass (topS 21) 0
abbrev s_Matrix_image : Stmt := inClass (topS 21) 6
abbrev s_law_divisor : Stmt := topS 32
abbrev s_law_weights : Stmt := topS 33
abbrev s_law_more : Stmt := topS 34
abbrev s_law_plain : Stmt := topS 36
abbrev s_law_entry : Stmt := topS 39
abbrev s_law_walk : Stmt := topS 42
abbrev s_is_lift : Stmt := topS 13
abbrev s_Chain_at : Stmt := inClass (topS 27) 5
abbrev s_law_lift : Stmt := topS 35
abbrev s_law_place : Stmt := topS 40
abbrev s_law_end : Stmt := topS 43
abbrev s_is_step : Stmt := topS 12
abbrev s_linear_part : Stmt := topS 25
abbrev s_law_moves : Stmt := topS 38
abbrev s_check_chain : Stmt := topS 28
abbrev s_Chain_init : Stmt := inClass (topS 27) 0
abbrev s_law_right : Stmt := topS 48
abbrev s_law : Stmt := topS 49
/-- what the top has left -/
structure Tx (K : PySem.W.Frag) (mg : Str → Option Value) (a : Nat → Addr) (fd : Nat → FuncData) (cl pp : Nat → Addr) : Prop where
  F_fraction : Fun K "fraction" "fraction" s_fraction (a 0) (fd 0)
  b_fraction : Binds K (fd 0) ["top", "bottom"] []
  g_fraction : mg "fraction" = some (.ref (a 0))
  F_dot : Fun K "dot" "dot" s_dot (a 1) (fd 1)
  b_dot : Binds K (fd 1) ["first", "second"] []
  g_dot : mg "dot" = some (.ref (a 1))
  F_multiple : Fun K "multiple" "multiple" s_multiple (a 2) (fd 2)
  b_multiple : Binds K (fd 2) ["times", "vector"] []
  g_multiple : mg "multiple" = some (.ref (a 2))
  F_are_integers : Fun K "_are_integers" "_are_integers" s_are_integers (a 3) (fd 3)
  b_are_integers : Binds K (fd 3) ["items"] []
  g_are_integers : mg "_are_integers" = some (.ref (a 3))
  F_plain_step : Fun K "plain_step" "plain_step" s_plain_step (a 4) (fd 4)
  b_plain_step : Binds K (fd 4) ["step"] []
  g_plain_step : mg "plain_step" = some (.ref (a 4))
  F_unit_basis : Fun K "unit_basis" "unit_basis" s_unit_basis (a 5) (fd 5)
  b_unit_basis : Binds K (fd 5) ["channels"] []
  g_unit_basis : mg "unit_basis" = some (.ref (a 5))
  F_Matrix_rows : Fun K "rows" "Matrix.rows" s_Matrix_rows (a 6) (fd 6)
  b_Matrix_rows : Binds K (fd 6) ["self"] []
  F_Matrix_bottom : Fun K "bottom" "Matrix.bottom" s_Matrix_bottom (a 7) (fd 7)
  b_Matrix_bottom : Binds K (fd 7) ["self"] []
  F_Matrix_len : Fun K "__len__" "Matrix.__len__" s_Matrix_len (a 8) (fd 8)
  b_Matrix_len : Binds K (fd 8) ["self"] []
  F_Matrix_eq : Fun K "__eq__" "Matrix.__eq__" s_Matrix_eq (a 9) (fd 9)
  b_Matrix_eq : Binds K (fd 9) ["self", "other"] []
  F_check_matrix : Fun K "_check_matrix" "_check_matrix" s_check_matrix (a 10) (fd 10)
  b_check_matrix : Binds K (fd 10) ["rows", "bottom"] []
  g_check_matrix : mg "_check_matrix" = some (.ref (a 10))
  F_common_divisor : Fun K "_common_divisor" "_common_divisor" s_common_divisor (a 11) (fd 11)
  b_common_divisor : Binds K (fd 11) ["rows", "bottom"] []
  g_common_divisor : mg "_common_divisor" = some (.ref (a 11))
  F_Chain_channels : Fun K "channels" "Chain.channels" s_Chain_channels (a 12) (fd 12)
  b_Chain_channels : Binds K (fd 12) ["self"] []
  F_Chain_steps : Fun K "steps" "Chain.steps" s_Chain_steps (a 13) (fd 13)
  b_Chain_steps : Binds K (fd 13) ["self"] []
  F_Chain_grid : Fun K "grid" "Chain.grid" s_Chain_grid (a 14) (fd 14)
  b_Chain_grid : Binds K (fd 14) ["self"] []
  F_law_pool : Fun K "_law_pool" "_law_pool" s_law_pool (a 15) (fd 15)
  b_law_pool : Binds K (fd 15) ["script", "spot"] []
  g_law_pool : mg "_law_pool" = some (.ref (a 15))
  F_law_draw : Fun K "_law_draw" "_law_draw" s_law_draw (a 16) (fd 16)
  b_law_draw : Binds K (fd 16) ["pool", "many"] []
  g_law_draw : mg "_law_draw" = some (.ref (a 16))
  F_law_back : Fun K "_law_back" "_law_back" s_law_back (a 17) (fd 17)
  b_law_back : Binds K (fd 17) ["one"] []
  g_law_back : mg "_law_back" = some (.ref (a 17))
  F_law_done : Fun K "_law_done" "_law_done" s_law_done (a 18) (fd 18)
  b_law_done : Binds K (fd 18) ["one", "place"] []
  g_law_done : mg "_law_done" = some (.ref (a 18))
  F_law_whole : Fun K "_law_whole" "_law_whole" s_law_whole (a 19) (fd 19)
  b_law_whole : Binds K (fd 19) ["moves"] []
  g_law_whole : mg "_law_whole" = some (.ref (a 19))
  F_law_linear : Fun K "_law_linear" "_law_linear" s_law_linear (a 20) (fd 20)
  b_law_linear : Binds K (fd 20) ["moves", "many"] []
  g_law_linear : mg "_law_linear" = some (.ref (a 20))
  F_law_plus : Fun K "_law_plus" "_law_plus" s_law_plus (a 21) (fd 21)
  b_law_plus : Binds K (fd 21) ["place", "other"] []
  g_law_plus : mg "_law_plus" = some (.ref (a 21))
  F_law_plainly : Fun K "_law_plainly" "_law_plainly" s_law_plainly (a 22) (fd 22)
  b_law_plainly : Binds K (fd 22) ["moves"] []
  g_law_plainly : mg "_law_plainly" = some (.ref (a 22))
  F_are_channels : Fun K "_are_channels" "_are_channels" s_are_channels (a 23) (fd 23)
  b_are_channels : Binds K (fd 23) ["channels", "items"] []
  g_are_channels : mg "_are_channels" = some (.ref (a 23))
  F_apply_step : Fun K "apply_step" "apply_step" s_apply_step (a 24) (fd 24)
  b_apply_step : Binds K (fd 24) ["step", "vector"] []
  g_apply_step : mg "apply_step" = some (.ref (a 24))
  F_Matrix_init : Fun K "__init__" "Matrix.__init__" s_Matrix_init (a 25) (fd 25)
  b_Matrix_init : Binds K (fd 25) ["self", "rows", "bottom"] []
  F_Matrix_image : Fun K "image" "Matrix.image" s_Matrix_image (a 26) (fd 26)
  b_Matrix_image : Binds K (fd 26) ["self", "vector"] []
  F_law_divisor : Fun K "_law_divisor" "_law_divisor" s_law_divisor (a 27) (fd 27)
  b_law_divisor : Binds K (fd 27) ["pool", "room"] []
  g_law_divisor : mg "_law_divisor" = some (.ref (a 27))
  F_law_weights : Fun K "_law_weights" "_law_weights" s_law_weights (a 28) (fd 28)
  b_law_weights : Binds K (fd 28) ["pool", "many", "own"] []
  g_law_weights : mg "_law_weights" = some (.ref (a 28))
  F_law_more : Fun K "_law_more" "_law_more" s_law_more (a 29) (fd 29)
  b_law_more : Binds K (fd 29) ["pool"] []
  g_law_more : mg "_law_more" = some (.ref (a 29))
  F_law_plain : Fun K "_law_plain" "_law_plain" s_law_plain (a 30) (fd 30)
  b_law_plain : Binds K (fd 30) ["pool", "many"] []
  g_law_plain : mg "_law_plain" = some (.ref (a 30))
  F_law_entry : Fun K "_law_entry" "_law_entry" s_law_entry (a 31) (fd 31)
  b_law_entry : Binds K (fd 31) ["pool", "far"] []
  g_law_entry : mg "_law_entry" = some (.ref (a 31))
  F_law_walk : Fun K "_law_walk" "_law_walk" s_law_walk (a 32) (fd 32)
  b_law_walk : Binds K (fd 32) ["moves", "place"] []
  g_law_walk : mg "_law_walk" = some (.ref (a 32))
  F_is_lift : Fun K "_is_lift" "_is_lift" s_is_lift (a 33) (fd 33)
  b_is_lift : Binds K (fd 33) ["channels", "step"] []
  g_is_lift : mg "_is_lift" = some (.ref (a 33))
  F_Chain_at : Fun K "at" "Chain.at" s_Chain_at (a 34) (fd 34)
  b_Chain_at : Binds K (fd 34) ["self", "vector"] []
  F_law_lift : Fun K "_law_lift" "_law_lift" s_law_lift (a 35) (fd 35)
  b_law_lift : Binds K (fd 35) ["pool", "many", "room"] []
  g_law_lift : mg "_law_lift" = some (.ref (a 35))
  F_law_place : Fun K "_law_place" "_law_place" s_law_place (a 36) (fd 36)
  b_law_place : Binds K (fd 36) ["pool", "many", "far"] []
  g_law_place : mg "_law_place" = some (.ref (a 36))
  F_law_end : Fun K "_law_end" "_law_end" s_law_end (a 37) (fd 37)
  b_law_end : Binds K (fd 37) ["moves", "place"] []
  g_law_end : mg "_law_end" = some (.ref (a 37))
  F_is_step : Fun K "is_step" "is_step" s_is_step (a 38) (fd 38)
  b_is_step : Binds K (fd 38) ["channels", "step"] []
  g_is_step : mg "is_step" = some (.ref (a 38))
  F_linear_part : Fun K "linear_part" "linear_part" s_linear_part (a 39) (fd 39)
  b_linear_part : Binds K (fd 39) ["chain"] []
  g_linear_part : mg "linear_part" = some (.ref (a 39))
  F_law_moves : Fun K "_law_moves" "_law_moves" s_law_moves (a 40) (fd 40)
  b_law_moves : Binds K (fd 40) ["pool", "many", "most", "product"] []
  g_law_moves : mg "_law_moves" = some (.ref (a 40))
  F_check_chain : Fun K "_check_chain" "_check_chain" s_check_chain (a 41) (fd 41)
  b_check_chain : Binds K (fd 41) ["channels", "steps"] []
  g_check_chain : mg "_check_chain" = some (.ref (a 41))
  F_Chain_init : Fun K "__init__" "Chain.__init__" s_Chain_init (a 42) (fd 42)
  b_Chain_init : Binds K (fd 42) ["self", "channels", "steps"] []
  F_law_right : Fun K "_law_right" "_law_right" s_law_right (a 43) (fd 43)
  b_law_right : Binds K (fd 43) ["pool", "many"] []
  g_law_right : mg "_law_right" = some (.ref (a 43))
  F_law : Fun K "law" "law" s_law (a 44) (fd 44)
  b_law : Binds K (fd 44) ["script"] []
  g_law : mg "law" = some (.ref (a 44))
  n_abs : mg "abs" = none
  n_all : mg "all" = none
  n_enumerate : mg "enumerate" = none
  n_int : mg "int" = none
  n_isinstance : mg "isinstance" = none
  n_len : mg "len" = none
  n_list : mg "list" = none
  n_max : mg "max" = none
  n_min : mg "min" = none
  n_range : mg "range" = none
  n_sum : mg "sum" = none
  n_tuple : mg "tuple" = none
  n_zip : mg "zip" = none
  m_gcd : mg "gcd" = some (.builtin "math.gcd")
  kd_linear_part_0_chain : KBn K (fd 39) ["chain"] 0 ["chain"] (pk2 [0]) (pk2 [0])
  g_Matrix : mg "Matrix" = some (.ref (cl 0))
  cl_Matrix : Cls K (cl 0)
  isi_Matrix : IsiC K (cl 0)
  pr_Matrix_rows : PropOf K (cl 0) "rows" (pp 6) (a 6)
  pr_Matrix_bottom : PropOf K (cl 0) "bottom" (pp 7) (a 7)
  fi_Matrix_len : PySem.W.findIn K (.ref (cl 0)) "__len__" = some (some (.ref (a 8)))
  fn_Matrix_len : PySem.W.isFn K (.ref (a 8)) = true
  fi_Matrix_eq : PySem.W.findIn K (.ref (cl 0)) "__eq__" = some (some (.ref (a 9)))
  fn_Matrix_eq : PySem.W.isFn K (.ref (a 9)) = true
  mk_Matrix : Mk K (cl 0) (a 25)
  na_Matrix_rows : NoAttr K (cl 0) "_rows"
  na_Matrix_bottom : NoAttr K (cl 0) "_bottom"
  me_Matrix_image : Meth K (cl 0) "image" (a 26)
  g_Chain : mg "Chain" = some (.ref (cl 1))
  cl_Chain : Cls K (cl 1)
  isi_Chain : IsiC K (cl 1)
  pr_Chain_channels : PropOf K (cl 1) "channels" (pp 12) (a 12)
  pr_Chain_steps : PropOf K (cl 1) "steps" (pp 13) (a 13)
  me_Chain_grid : Meth K (cl 1) "grid" (a 14)
  me_Chain_at : Meth K (cl 1) "at" (a 34)
  mk_Chain : Mk K (cl 1) (a 42)
  na_Chain_channels : NoAttr K (cl 1) "_channels"
  na_Chain_steps : NoAttr K (cl 1) "_steps"
theorem sc_fraction : FnScope ["top", "bottom", "common"] ["top", "bottom"] (defScope s_fraction) := ⟨rfl, rfl, rfl, by decide +kernel, rfl, by decide +kernel, by decide +kernel⟩
theorem sc_dot : FnScope ["first", "second", "one", "other"] ["first", "second"] (defScope s_dot) := ⟨rfl, rfl, rfl, by decide +kernel, rfl, by decide +kernel, by decide +kernel⟩
theorem sc_multiple : FnScope ["times", "vector", "entry"] ["times", "vector"] (defScope s_multiple) := ⟨rfl, rfl, rfl, by decide +kernel, rfl, by decide +kernel, by decide +kernel⟩
theorem sc_are_integers : FnScope ["items", "item"] ["items"] (defScope s_are_integers) := ⟨rfl, rfl, rfl, by decide +kernel, rfl, by decide +kernel, by decide +kernel⟩
theorem sc_plain_step : FnScope ["step", "word", "channel", "weights", "_", "divisor"] ["step"] (defScope s_plain_step) := ⟨rfl, rfl, rfl, by decide +kernel, rfl, by decide +kernel, by decide +kernel⟩
theorem sc_unit_basis : FnScope ["channels", "number", "place"] ["channels"] (defScope s_unit_basis) := ⟨rfl, rfl, rfl, by decide +kernel, rfl, by decide +kernel, by decide +kernel⟩
theorem sc_Matrix_rows : FnScope ["self", "row"] ["self"] (defScope s_Matrix_rows) := ⟨rfl, rfl, rfl, by decide +kernel, rfl, by decide +kernel, by decide +kernel⟩
theorem sc_Matrix_bottom : FnScope ["self"] ["self"] (defScope s_Matrix_bottom) := ⟨rfl, rfl, rfl, by decide +kernel, rfl, by decide +kernel, by decide +kernel⟩
theorem sc_Matrix_len : FnScope ["self"] ["self"] (defScope s_Matrix_len) := ⟨rfl, rfl, rfl, by decide +kernel, rfl, by decide +kernel, by decide +kernel⟩
theorem sc_Matrix_eq : FnScope ["self", "other"] ["self", "other"] (defScope s_Matrix_eq) := ⟨rfl, rfl, rfl, by decide +kernel, rfl, by decide +kernel, by decide +kernel⟩
theorem sc_check_matrix : FnScope ["rows", "bottom", "number", "row"] ["rows", "bottom"] (defScope s_check_matrix) := ⟨rfl, rfl, rfl, by decide +kernel, rfl, by decide +kernel, by decide +kernel⟩
theorem sc_common_divisor : FnScope ["rows", "bottom", "common", "row", "entry"] ["rows", "bottom"] (defScope s_common_divisor) := ⟨rfl, rfl, rfl, by decide +kernel, rfl, by decide +kernel, by decide +kernel⟩
theorem sc_Chain_channels : FnScope ["self"] ["self"] (defScope s_Chain_channels) := ⟨rfl, rfl, rfl, by decide +kernel, rfl, by decide +kernel, by decide +kernel⟩
theorem sc_Chain_steps : FnScope ["self"] ["self"] (defScope s_Chain_steps) := ⟨rfl, rfl, rfl, by decide +kernel, rfl, by decide +kernel, by decide +kernel⟩
theorem sc_Chain_grid : FnScope ["self", "total", "step"] ["self"] (defScope s_Chain_grid) := ⟨rfl, rfl, rfl, by decide +kernel, rfl, by decide +kernel, by decide +kernel⟩
theorem sc_law_pool : FnScope ["script", "spot", "cell"] ["script", "spot"] (defScope s_law_pool) := ⟨rfl, rfl, rfl, by decide +kernel, rfl, by decide +kernel, by decide +kernel⟩
theorem sc_law_draw : FnScope ["pool", "many", "mixed", "drawn"] ["pool", "many"] (defScope s_law_draw) := ⟨rfl, rfl, rfl, by decide +kernel, rfl, by decide +kernel, by decide +kernel⟩
theorem sc_law_back : FnScope ["one", "weight"] ["one"] (defScope s_law_back) := ⟨rfl, rfl, rfl, by decide +kernel, rfl, by decide +kernel, by decide +kernel⟩
theorem sc_law_done : FnScope ["one", "place", "found", "total", "weight", "entry"] ["one", "place"] (defScope s_law_done) := ⟨rfl, rfl, rfl, by decide +kernel, rfl, by decide +kernel, by decide +kernel⟩
theorem sc_law_whole : FnScope ["moves", "found", "one"] ["moves"] (defScope s_law_whole) := ⟨rfl, rfl, rfl, by decide +kernel, rfl, by decide +kernel, by decide +kernel⟩
theorem sc_law_linear : FnScope ["moves", "many", "lines", "under", "one", "spot", "share", "weight", "line", "side", "entry", "more"] ["moves", "many"] (defScope s_law_linear) := ⟨rfl, rfl, rfl, by decide +kernel, rfl, by decide +kernel, by decide +kernel⟩
theorem sc_law_plus : FnScope ["place", "other", "entry", "more"] ["place", "other"] (defScope s_law_plus) := ⟨rfl, rfl, rfl, by decide +kernel, rfl, by decide +kernel, by decide +kernel⟩
theorem sc_law_plainly : FnScope ["moves", "one"] ["moves"] (defScope s_law_plainly) := ⟨rfl, rfl, rfl, by decide +kernel, rfl, by decide +kernel, by decide +kernel⟩
theorem sc_are_channels : FnScope ["channels", "items", "item"] ["channels", "items"] (defScope s_are_channels) := ⟨rfl, rfl, rfl, by decide +kernel, rfl, by decide +kernel, by decide +kernel⟩
theorem sc_apply_step : FnScope ["step", "vector", "row", "_", "channel", "weights", "more", "divisor", "other"] ["step", "vector"] (defScope s_apply_step) := ⟨rfl, rfl, rfl, by decide +kernel, rfl, by decide +kernel, by decide +kernel⟩
theorem sc_Matrix_init : FnScope ["self", "rows", "bottom", "common", "row", "entry"] ["self", "rows", "bottom"] (defScope s_Matrix_init) := ⟨rfl, rfl, rfl, by decide +kernel, rfl, by decide +kernel, by decide +kernel⟩
theorem sc_Matrix_image : FnScope ["self", "vector", "row"] ["self", "vector"] (defScope s_Matrix_image) := ⟨rfl, rfl, rfl, by decide +kernel, rfl, by decide +kernel, by decide +kernel⟩
theorem sc_law_divisor : FnScope ["pool", "room", "divisor"] ["pool", "room"] (defScope s_law_divisor) := ⟨rfl, rfl, rfl, by decide +kernel, rfl, by decide +kernel, by decide +kernel⟩
theorem sc_law_weights : FnScope ["pool", "many", "own", "found", "spot"] ["pool", "many", "own"] (defScope s_law_weights) := ⟨rfl, rfl, rfl, by decide +kernel, rfl, by decide +kernel, by decide +kernel⟩
theorem sc_law_more : FnScope ["pool"] ["pool"] (defScope s_law_more) := ⟨rfl, rfl, rfl, by decide +kernel, rfl, by decide +kernel, by decide +kernel⟩
theorem sc_law_plain : FnScope ["pool", "many", "low"] ["pool", "many"] (defScope s_law_plain) := ⟨rfl, rfl, rfl, by decide +kernel, rfl, by decide +kernel, by decide +kernel⟩
theorem sc_law_entry : FnScope ["pool", "far", "some"] ["pool", "far"] (defScope s_law_entry) := ⟨rfl, rfl, rfl, by decide +kernel, rfl, by decide +kernel, by decide +kernel⟩
theorem sc_law_walk : FnScope ["moves", "place", "found", "one"] ["moves", "place"] (defScope s_law_walk) := ⟨rfl, rfl, rfl, by decide +kernel, rfl, by decide +kernel, by decide +kernel⟩
theorem sc_is_lift : FnScope ["channels", "step", "_", "channel", "weights", "more", "divisor"] ["channels", "step"] (defScope s_is_lift) := ⟨rfl, rfl, rfl, by decide +kernel, rfl, by decide +kernel, by decide +kernel⟩
theorem sc_Chain_at : FnScope ["self", "vector", "row", "step"] ["self", "vector"] (defScope s_Chain_at) := ⟨rfl, rfl, rfl, by decide +kernel, rfl, by decide +kernel, by decide +kernel⟩
theorem sc_law_lift : FnScope ["pool", "many", "room", "own", "some", "more"] ["pool", "many", "room"] (defScope s_law_lift) := ⟨rfl, rfl, rfl, by decide +kernel, rfl, by decide +kernel, by decide +kernel⟩
theorem sc_law_place : FnScope ["pool", "many", "far", "spot"] ["pool", "many", "far"] (defScope s_law_place) := ⟨rfl, rfl, rfl, by decide +kernel, rfl, by decide +kernel, by decide +kernel⟩
theorem sc_law_end : FnScope ["moves", "place"] ["moves", "place"] (defScope s_law_end) := ⟨rfl, rfl, rfl, by decide +kernel, rfl, by decide +kernel, by decide +kernel⟩
theorem sc_is_step : FnScope ["channels", "step"] ["channels", "step"] (defScope s_is_step) := ⟨rfl, rfl, rfl, by decide +kernel, rfl, by decide +kernel, by decide +kernel⟩
theorem sc_linear_part : FnScope ["chain", "grid", "images", "step", "unit", "image", "row"] ["chain"] (defScope s_linear_part) := ⟨rfl, rfl, rfl, by decide +kernel, rfl, by decide +kernel, by decide +kernel⟩
theorem sc_law_moves : FnScope ["pool", "many", "most", "product", "room", "found", "turn", "way", "one"] ["pool", "many", "most", "product"] (defScope s_law_moves) := ⟨rfl, rfl, rfl, by decide +kernel, rfl, by decide +kernel, by decide +kernel⟩
theorem sc_check_chain : FnScope ["channels", "steps", "number", "step"] ["channels", "steps"] (defScope s_check_chain) := ⟨rfl, rfl, rfl, by decide +kernel, rfl, by decide +kernel, by decide +kernel⟩
theorem sc_Chain_init : FnScope ["self", "channels", "steps"] ["self", "channels", "steps"] (defScope s_Chain_init) := ⟨rfl, rfl, rfl, by decide +kernel, rfl, by decide +kernel, by decide +kernel⟩
theorem sc_law_right : FnScope ["pool", "many", "moves", "made", "whole", "lines", "under", "part", "far", "plain", "told", "place", "due", "other", "moved", "gain", "top", "low", "entry"] ["pool", "many"] (defScope s_law_right) := ⟨rfl, rfl, rfl, by decide +kernel, rfl, by decide +kernel, by decide +kernel⟩
theorem sc_law : FnScope ["script", "spot", "pool", "many"] ["script"] (defScope s_law) := ⟨rfl, rfl, rfl, by decide +kernel, rfl, by decide +kernel, by decide +kernel⟩
noncomputable def f_fraction : SF := (sSeq (sSet 2 (dCB gcdD (aCons (dVar 0) (aCons (dVar 1) aNil))))
  (sRet (dTup (aCons (dOp divD (dVar 0) (dVar 2)) (aCons (dOp divD (dVar 1) (dVar 2)) aNil)))))
noncomputable def G_fraction : GF := fnD 3 f_fraction
noncomputable def f_dot : SF := (sRet (dCB sumD (aCons (dLc false (iZipXD (dVar 0) (dVar 1)) (.tp [2, 3]) [2, 3] bYes (dOp (mulD false) (dVar 2) (dVar 3))) aNil)))
noncomputable def G_dot : GF := fnD 4 f_dot
noncomputable def f_multiple : SF := (sRet (dCB tupD (aCons (dLc false (iSq (dVar 1)) (.nm 2) [2] bYes (dOp (mulD false) (dVar 0) (dVar 2))) aNil)))
noncomputable def G_multiple : GF := fnD 3 f_multiple
noncomputable def f_are_integers : SF := (sRet (dCB allD (aCons (dLc false (iSq (dVar 0)) (.nm 1) [1] bYes (dIsi "int" (dVar 1))) aNil)))
noncomputable def G_are_integers : GF := fnD 2 f_are_integers
noncomputable def f_plain_step : SF := (sSeq (sIf (dB (dOp (eqD true) (dOp ixD (dVar 0) (dC (.int 0))) (dC (.str "lift")))) (sRet (dVar 0)) sNext)
  (sSeq (sAsg (hTup 5 (hCons (hNm 1) (hCons (hNm 2) (hCons (hNm 3) (hCons (hNm 4) (hCons (hNm 5) hNil)))))) (dVar 0))
  (sRet (dTup (aCons (dVar 1) (aCons (dVar 2) (aCons (dVar 3) (aCons (dC (.int 0)) (aCons (dVar 5) aNil)))))))))
noncomputable def G_plain_step : GF := fnD 6 f_plain_step
noncomputable def f_unit_basis : SF := (sRet (dLc true (iRg1 (dVar 0)) (.nm 1) [1] bYes (dCB tupD (aCons (dLc false (iRg1 (dVar 0)) (.nm 2) [2] bYes (dIfE (dB (dOp (eqD false) (dVar 2) (dVar 1))) (dC (.int 1)) (dC (.int 0)))) aNil))))
noncomputable def G_unit_basis : GF := fnD 3 f_unit_basis
noncomputable def f_Matrix_rows : SF := (sRet (dLc true (iSq (dFld "Matrix" "_rows" (dVar 0))) (.nm 1) [1] bYes (dCB (listD false) (aCons (dVar 1) aNil))))
noncomputable def G_Matrix_rows : GF := fnD 2 f_Matrix_rows
noncomputable def f_Matrix_bottom : SF := (sRet (dFld "Matrix" "_bottom" (dVar 0)))
noncomputable def G_Matrix_bottom : GF := fnD 1 f_Matrix_bottom
noncomputable def f_Matrix_len : SF := (sRet (dCB lenD (aCons (dFld "Matrix" "_rows" (dVar 0)) aNil)))
noncomputable def G_Matrix_len : GF := fnD 1 f_Matrix_len
noncomputable def f_Matrix_eq : SF := (sRet (dAndV (dIsiI "Matrix" (dVar 1)) (dAndV (dOp (eqD false) (dFld "Matrix" "_bottom" (dVar 0)) (dFld "Matrix" "_bottom" (dVar 1))) (dOp (eqD false) (dFld "Matrix" "_rows" (dVar 0)) (dFld "Matrix" "_rows" (dVar 1))))))
noncomputable def G_Matrix_eq : GF := fnD 2 f_Matrix_eq
noncomputable def f_check_matrix : SF := (sSeq (sIf (bOr (dB (dOp (eqD false) (dCB lenD (aCons (dVar 0) aNil)) (dC (.int 0)))) (dB (dOp ltD (dVar 1) (dC (.int 1))))) sNever sNext)
  (sFor (iEnumD (dVar 0)) (.tp [2, 3]) (sIf (dB (dOp (eqD true) (dCB lenD (aCons (dVar 3) aNil)) (dCB lenD (aCons (dVar 0) aNil)))) sNever sNext)))
noncomputable def G_check_matrix : GF := fnD 4 f_check_matrix
noncomputable def f_common_divisor : SF := (sSeq (sSet 2 (dVar 1))
  (sSeq (sFor (iSq (dVar 0)) (.nm 3) (sFor (iSq (dVar 3)) (.nm 4) (sSet 2 (dCB gcdD (aCons (dVar 2) (aCons (dVar 4) aNil))))))
  (sRet (dVar 2))))
noncomputable def G_common_divisor : GF := fnD 5 f_common_divisor
noncomputable def f_Chain_channels : SF := (sRet (dFld "Chain" "_channels" (dVar 0)))
noncomputable def G_Chain_channels : GF := fnD 1 f_Chain_channels
noncomputable def f_Chain_steps : SF := (sRet (dCB (listD true) (aCons (dFld "Chain" "_steps" (dVar 0)) aNil)))
noncomputable def G_Chain_steps : GF := fnD 1 f_Chain_steps
noncomputable def f_Chain_grid : SF := (sSeq (sSet 1 (dC (.int 1)))
  (sSeq (sFor (iSq (dFld "Chain" "_steps" (dVar 0))) (.nm 2) (sIf (dB (dOp (eqD false) (dOp ixD (dVar 2) (dC (.int 0))) (dC (.str "lift")))) (sSet 1 (dOp (mulD false) (dVar 1) (dOp ixD (dVar 2) (dC (.int 4))))) sNext))
  (sRet (dVar 1))))
noncomputable def G_Chain_grid : GF := fnD 3 f_Chain_grid
noncomputable def f_law_pool : SF := (sSeq (sSet 2 (dC (.int 0)))
  (sSeq (sIf (dB (dOp ltD (dVar 1) (dCB lenD (aCons (dVar 0) aNil)))) (sSet 2 (dOp ixD (dVar 0) (dVar 1))) sNext)
  (sRet (dLst true (aCons (dCB maxD (aCons (dC (.int 0)) (aCons (dOp subD (dCB absD (aCons (dVar 2) aNil)) (dOp powD (dC (.int 10)) (dC (.int 18)))) aNil))) (aCons (dOp (addD false) (dOp modD (dCB intD (aCons (dVar 2) aNil)) (dC (.int 2305843009213693951))) (dOp (mulD false) (dC (.int 7368787)) (dOp (addD false) (dVar 1) (dC (.int 1))))) (aCons (dC (.int 0)) aNil)))))))
noncomputable def G_law_pool : GF := fnD 3 f_law_pool
noncomputable def f_law_draw : SF := (sSeq (sIf (dB (dOp gtD (dOp ixD (dVar 0) (dC (.int 0))) (dC (.int 0)))) (sSeq (sSet 3 (dOp modD (dCB intD (aCons (dOp ixD (dVar 0) (dC (.int 0))) aNil)) (dVar 1)))
  (sSeq (sAsg (hSub (dVar 0) (dC (.int 0))) (dOp divD (dOp ixD (dVar 0) (dC (.int 0))) (dVar 1)))
  (sRet (dVar 3)))) sNext)
  (sSeq (sAsg (hSub (dVar 0) (dC (.int 2))) (dOp (addD false) (dOp ixD (dVar 0) (dC (.int 2))) (dC (.int 1))))
  (sSeq (sSet 2 (dOp modD (dCB intD (aCons (dOp powD (dOp (addD false) (dOp ixD (dVar 0) (dC (.int 1))) (dOp (mulD false) (dC (.int 15485863)) (dOp ixD (dVar 0) (dC (.int 2))))) (dC (.int 3))) aNil)) (dC (.int 162259276829213363391578010288127))))
  (sSeq (sSet 2 (dOp modD (dCB intD (aCons (dOp powD (dOp (addD false) (dVar 2) (dOp (mulD false) (dC (.int 32452843)) (dOp ixD (dVar 0) (dC (.int 2))))) (dC (.int 3))) aNil)) (dC (.int 170141183460469231731687303715884105727))))
  (sRet (dOp modD (dCB intD (aCons (dOp divD (dVar 2) (dC (.int 1048576))) aNil)) (dVar 1)))))))
noncomputable def G_law_draw : GF := fnD 4 f_law_draw
noncomputable def f_law_back : SF := (sSeq (sIf (dB (dOp (eqD true) (dOp ixD (dVar 0) (dC (.int 0))) (dC (.str "lift")))) (sRet (dVar 0)) sNext)
  (sRet (dTup (aCons (dC (.str "lift")) (aCons (dOp ixD (dVar 0) (dC (.int 1))) (aCons (dCB tupD (aCons (dLc false (iSq (dOp ixD (dVar 0) (dC (.int 2)))) (.nm 1) [1] bYes (dOp subD (dC (.int 0)) (dVar 1))) aNil)) (aCons (dOp subD (dOp subD (dOp ixD (dVar 0) (dC (.int 4))) (dC (.int 1))) (dOp ixD (dVar 0) (dC (.int 3)))) (aCons (dOp ixD (dVar 0) (dC (.int 4))) aNil))))))))
noncomputable def G_law_back : GF := fnD 2 f_law_back
noncomputable def f_law_done : SF := (sSeq (sSet 2 (dCB (listD true) (aCons (dVar 1) aNil)))
  (sSeq (sIf (dB (dOp (eqD false) (dOp ixD (dVar 0) (dC (.int 0))) (dC (.str "swap")))) (sAsg (hTup 2 (hCons (hSub (dVar 2) (dOp ixD (dVar 0) (dC (.int 1)))) (hCons (hSub (dVar 2) (dOp ixD (dVar 0) (dC (.int 2)))) hNil))) (dTup (aCons (dOp ixD (dVar 1) (dOp ixD (dVar 0) (dC (.int 2)))) (aCons (dOp ixD (dVar 1) (dOp ixD (dVar 0) (dC (.int 1)))) aNil)))) (sIf (dB (dOp (eqD false) (dOp ixD (dVar 0) (dC (.int 0))) (dC (.str "turn")))) (sAsg (hSub (dVar 2) (dOp ixD (dVar 0) (dC (.int 1)))) (dOp subD (dC (.int 0)) (dOp ixD (dVar 1) (dOp ixD (dVar 0) (dC (.int 1)))))) (sSeq (sSet 3 (dOp ixD (dVar 0) (dC (.int 3))))
  (sSeq (sFor (iZipD (dOp ixD (dVar 0) (dC (.int 2))) (dVar 1)) (.tp [4, 5]) (sSet 3 (dOp (addD false) (dVar 3) (dOp (mulD false) (dVar 4) (dVar 5)))))
  (sAsg (hSub (dVar 2) (dOp ixD (dVar 0) (dC (.int 1)))) (dOp (addD false) (dOp ixD (dVar 1) (dOp ixD (dVar 0) (dC (.int 1)))) (dOp divD (dCB intD (aCons (dVar 3) aNil)) (dOp ixD (dVar 0) (dC (.int 4))))))))))
  (sRet (dCB tupD (aCons (dVar 2) aNil)))))
noncomputable def G_law_done : GF := fnD 6 f_law_done
noncomputable def f_law_whole : SF := (sSeq (sSet 1 (dC (.int 1)))
  (sSeq (sFor (iSq (dVar 0)) (.nm 2) (sSet 1 (dOp (mulD false) (dVar 1) (dIfE (dB (dOp (eqD false) (dOp ixD (dVar 2) (dC (.int 0))) (dC (.str "lift")))) (dOp ixD (dVar 2) (dC (.int 4))) (dC (.int 1))))))
  (sRet (dVar 1))))
noncomputable def G_law_whole : GF := fnD 3 f_law_whole
noncomputable def f_law_linear : SF := (sSeq (sPar [2, 3] (aCons (dLc true (iRg1 (dVar 1)) (.nm 5) [5] bYes (dLc false (iRg1 (dVar 1)) (.nm 9) [9] bYes (dCB intD (aCons (dOp (eqD false) (dVar 5) (dVar 9)) aNil)))) (aCons (dC (.int 1)) aNil)))
  (sSeq (sFor (iSq (dVar 0)) (.nm 4) (sIf (dB (dOp (eqD false) (dOp ixD (dVar 4) (dC (.int 0))) (dC (.str "swap")))) (sAsg (hTup 2 (hCons (hSub (dVar 2) (dOp ixD (dVar 4) (dC (.int 1)))) (hCons (hSub (dVar 2) (dOp ixD (dVar 4) (dC (.int 2)))) hNil))) (dTup (aCons (dOp ixD (dVar 2) (dOp ixD (dVar 4) (dC (.int 2)))) (aCons (dOp ixD (dVar 2) (dOp ixD (dVar 4) (dC (.int 1)))) aNil)))) (sIf (dB (dOp (eqD false) (dOp ixD (dVar 4) (dC (.int 0))) (dC (.str "turn")))) (sAsg (hSub (dVar 2) (dOp ixD (dVar 4) (dC (.int 1)))) (dLc false (iSq (dOp ixD (dVar 2) (dOp ixD (dVar 4) (dC (.int 1))))) (.nm 10) [10] bYes (dOp subD (dC (.int 0)) (dVar 10)))) (sSeq (sSet 6 (dOp (mulD false) (dLst false (aCons (dC (.int 0)) aNil)) (dVar 1)))
  (sSeq (sFor (iZipWD (dOp ixD (dVar 4) (dC (.int 2))) (dVar 2)) (.tp [7, 8]) (sSet 6 (dLc false (iZipWD (dVar 6) (dVar 8)) (.tp [10, 11]) [10, 11] bYes (dOp (addD false) (dVar 10) (dOp (mulD false) (dVar 7) (dVar 11))))))
  (sSeq (sSet 2 (dLc true (iSq (dVar 2)) (.nm 8) [8] bYes (dLc false (iSq (dVar 8)) (.nm 10) [10] bYes (dOp (mulD false) (dOp ixD (dVar 4) (dC (.int 4))) (dVar 10)))))
  (sSeq (sAsg (hSub (dVar 2) (dOp ixD (dVar 4) (dC (.int 1)))) (dLc false (iZipWD (dOp ixD (dVar 2) (dOp ixD (dVar 4) (dC (.int 1)))) (dVar 6)) (.tp [10, 11]) [10, 11] bYes (dOp (addD false) (dVar 10) (dVar 11))))
  (sSet 3 (dOp (mulD false) (dVar 3) (dOp ixD (dVar 4) (dC (.int 4))))))))))))
  (sRet (dLst true (aCons (dVar 2) (aCons (dVar 3) aNil))))))
noncomputable def G_law_linear : GF := fnD 12 f_law_linear
noncomputable def f_law_plus : SF := (sRet (dCB tupD (aCons (dLc false (iZipWD (dVar 0) (dVar 1)) (.tp [2, 3]) [2, 3] bYes (dOp (addD false) (dVar 2) (dVar 3))) aNil)))
noncomputable def G_law_plus : GF := fnD 4 f_law_plus
noncomputable def f_law_plainly : SF := (sRet (dLc true (iSq (dVar 0)) (.nm 1) [1] bYes (dIfE (dB (dOp (eqD false) (dOp ixD (dVar 1) (dC (.int 0))) (dC (.str "lift")))) (dOp (addD false) (dSl false (dVar 1) oNone (oSome (dC (.int 3)))) (dTup (aCons (dC (.int 0)) (aCons (dC (.int 1)) aNil)))) (dVar 1))))
noncomputable def G_law_plainly : GF := fnD 2 f_law_plainly
noncomputable def f_are_channels : SF := (sRet (dAndV (dCallN false 1 G_are_integers (aCons (dVar 1) aNil)) (dCB allD (aCons (dLc false (iSq (dVar 1)) (.nm 2) [2] bYes (dChain leD ltD (dC (.int 0)) (dVar 2) (dVar 0))) aNil))))
noncomputable def G_are_channels : GF := fnD 3 f_are_channels
noncomputable def f_apply_step : SF := (sSeq (sSet 2 (dCB (listD true) (aCons (dVar 1) aNil)))
  (sSeq (sIf (dB (dOp (eqD false) (dOp ixD (dVar 0) (dC (.int 0))) (dC (.str "lift")))) (sSeq (sAsg (hTup 5 (hCons (hNm 3) (hCons (hNm 4) (hCons (hNm 5) (hCons (hNm 6) (hCons (hNm 7) hNil)))))) (dVar 0))
  (sAsg (hSub (dVar 2) (dVar 4)) (dOp (addD false) (dOp ixD (dVar 2) (dVar 4)) (dOp divD (dOp (addD false) (dCallN false 2 G_dot (aCons (dVar 5) (aCons (dVar 1) aNil))) (dVar 6)) (dVar 7))))) (sIf (dB (dOp (eqD false) (dOp ixD (dVar 0) (dC (.int 0))) (dC (.str "swap")))) (sSeq (sAsg (hTup 3 (hCons (hNm 3) (hCons (hNm 4) (hCons (hNm 8) hNil)))) (dVar 0))
  (sAsg (hTup 2 (hCons (hSub (dVar 2) (dVar 4)) (hCons (hSub (dVar 2) (dVar 8)) hNil))) (dTup (aCons (dOp ixD (dVar 2) (dVar 8)) (aCons (dOp ixD (dVar 2) (dVar 4)) aNil))))) (sAsg (hSub (dVar 2) (dOp ixD (dVar 0) (dC (.int 1)))) (dUn negD (dOp ixD (dVar 2) (dOp ixD (dVar 0) (dC (.int 1))))))))
  (sRet (dCB tupD (aCons (dVar 2) aNil)))))
noncomputable def G_apply_step : GF := fnD 9 f_apply_step
noncomputable def f_Matrix_init : IFn := (iSeq (iDrop (dCallN false 2 G_check_matrix (aCons (dVar 1) (aCons (dVar 2) aNil))))
  (iSeq (iSet 2 (dCallN false 2 G_common_divisor (aCons (dVar 1) (aCons (dVar 2) aNil))))
  (iSeq (iFld "_rows" (dLc false (iSq (dVar 1)) (.nm 4) [4] bYes (dLc false (iSq (dVar 4)) (.nm 5) [5] bYes (dOp divD (dVar 5) (dVar 3)))))
  (iFld "_bottom" (dOp divD (dVar 2) (dVar 3))))))
noncomputable def G_Matrix_init : GIF := PK.initD 5 f_Matrix_init
noncomputable def f_Matrix_image : SF := (sRet (dLc true (iSq (dFld "Matrix" "_rows" (dVar 0))) (.nm 2) [2] bYes (dCallN false 2 G_fraction (aCons (dCallN false 2 G_dot (aCons (dVar 2) (aCons (dVar 1) aNil))) (aCons (dFld "Matrix" "_bottom" (dVar 0)) aNil)))))
noncomputable def G_Matrix_image : GF := fnD 3 f_Matrix_image
noncomputable def f_law_divisor : SF := (sSeq (sSet 2 (dOp (addD false) (dC (.int 1)) (dCallN false 2 G_law_draw (aCons (dVar 0) (aCons (dCB minD (aCons (dC (.int 6)) (aCons (dOp ixD (dVar 1) (dC (.int 0))) aNil))) aNil)))))
  (sSeq (sAsg (hSub (dVar 1) (dC (.int 0))) (dOp divD (dOp ixD (dVar 1) (dC (.int 0))) (dVar 2)))
  (sRet (dVar 2))))
noncomputable def G_law_divisor : GF := fnD 3 f_law_divisor
noncomputable def f_law_weights : SF := (sSeq (sSet 3 (dLst true aNil))
  (sSeq (sFor (iRg1 (dVar 1)) (.nm 4) (sDrop (dMt appD (dVar 3) (aCons (dOp ixD (dLst false (aCons (dC (.int 0)) (aCons (dC (.int 1)) (aCons (dUn negD (dC (.int 1))) (aCons (dOp subD (dCallN false 2 G_law_draw (aCons (dVar 0) (aCons (dC (.int 13)) aNil))) (dC (.int 6))) (aCons (dC (.int 6)) (aCons (dUn negD (dC (.int 6))) aNil))))))) (dCallN false 2 G_law_draw (aCons (dVar 0) (aCons (dC (.int 6)) aNil)))) aNil))))
  (sSeq (sAsg (hSub (dVar 3) (dVar 2)) (dC (.int 0)))
  (sRet (dCB tupD (aCons (dVar 3) aNil))))))
noncomputable def G_law_weights : GF := fnD 5 f_law_weights
noncomputable def f_law_more : SF := (sRet (dOp ixD (dLst false (aCons (dC (.int 0)) (aCons (dC (.int 1)) (aCons (dUn negD (dC (.int 1))) (aCons (dOp subD (dCallN false 2 G_law_draw (aCons (dVar 0) (aCons (dC (.int 41)) aNil))) (dC (.int 20))) (aCons (dC (.int 20)) (aCons (dUn negD (dC (.int 20))) aNil))))))) (dCallN false 2 G_law_draw (aCons (dVar 0) (aCons (dC (.int 6)) aNil)))))
noncomputable def G_law_more : GF := fnD 1 f_law_more
noncomputable def f_law_plain : SF := (sSeq (sIf (dB (dOp (eqD false) (dCallN false 2 G_law_draw (aCons (dVar 0) (aCons (dC (.int 2)) aNil))) (dC (.int 0)))) (sRet (dTup (aCons (dC (.str "turn")) (aCons (dCallN false 2 G_law_draw (aCons (dVar 0) (aCons (dVar 1) aNil))) aNil)))) sNext)
  (sSeq (sSet 2 (dCallN false 2 G_law_draw (aCons (dVar 0) (aCons (dOp subD (dVar 1) (dC (.int 1))) aNil))))
  (sRet (dTup (aCons (dC (.str "swap")) (aCons (dVar 2) (aCons (dOp (addD false) (dOp (addD false) (dVar 2) (dC (.int 1))) (dCallN false 2 G_law_draw (aCons (dVar 0) (aCons (dOp subD (dOp subD (dVar 1) (dC (.int 1))) (dVar 2)) aNil)))) aNil)))))))
noncomputable def G_law_plain : GF := fnD 3 f_law_plain
noncomputable def f_law_entry : SF := (sSeq (sSet 2 (dLst false (aCons (dOp subD (dCallN false 2 G_law_draw (aCons (dVar 0) (aCons (dC (.int 9)) aNil))) (dC (.int 4))) (aCons (dOp subD (dCallN false 2 G_law_draw (aCons (dVar 0) (aCons (dC (.int 61)) aNil))) (dC (.int 30))) (aCons (dOp subD (dCallN false 2 G_law_draw (aCons (dVar 0) (aCons (dOp (addD false) (dOp (mulD false) (dC (.int 2)) (dVar 1)) (dC (.int 1))) aNil))) (dVar 1)) aNil)))))
  (sRet (dOp ixD (dLst false (aCons (dOp ixD (dVar 2) (dC (.int 0))) (aCons (dOp ixD (dVar 2) (dC (.int 1))) (aCons (dOp ixD (dVar 2) (dC (.int 2))) (aCons (dVar 1) (aCons (dOp subD (dC (.int 0)) (dVar 1)) aNil)))))) (dCallN false 2 G_law_draw (aCons (dVar 0) (aCons (dC (.int 5)) aNil))))))
noncomputable def G_law_entry : GF := fnD 3 f_law_entry
noncomputable def f_law_walk : SF := (sSeq (sSet 2 (dLst true (aCons (dVar 1) aNil)))
  (sSeq (sFor (iSq (dVar 0)) (.nm 3) (sDrop (dMt appD (dVar 2) (aCons (dCallN false 2 G_law_done (aCons (dVar 3) (aCons (dOp ixD (dVar 2) (dUn negD (dC (.int 1)))) aNil))) aNil))))
  (sRet (dVar 2))))
noncomputable def G_law_walk : GF := fnD 4 f_law_walk
noncomputable def f_is_lift : SF := (sSeq (sAsg (hTup 5 (hCons (hNm 2) (hCons (hNm 3) (hCons (hNm 4) (hCons (hNm 5) (hCons (hNm 6) hNil)))))) (dVar 1))
  (sSeq (sIf (bOr (bNot (dB (dIsi "tuple" (dVar 4)))) (bNot (dB (dCallN false 1 G_are_integers (aCons (dLst false (aStar (dVar 4) (aCons (dVar 5) (aCons (dVar 6) aNil)))) aNil))))) (sRet (dC (.bl false))) sNext)
  (sSeq (sIf (bOr (dB (dOp (eqD true) (dCB lenD (aCons (dVar 4) aNil)) (dVar 0))) (bNot (dB (dCallN false 2 G_are_channels (aCons (dVar 0) (aCons (dLst false (aCons (dVar 3) aNil)) aNil)))))) (sRet (dC (.bl false))) sNext)
  (sRet (dAndV (dOp (eqD false) (dOp ixD (dVar 4) (dVar 3)) (dC (.int 0))) (dOp geD (dVar 6) (dC (.int 1))))))))
noncomputable def G_is_lift : GF := fnD 7 f_is_lift
noncomputable def f_Chain_at : SF := (sSeq (sSet 2 (dCB tupD (aCons (dVar 1) aNil)))
  (sSeq (sFor (iSq (dFld "Chain" "_steps" (dVar 0))) (.nm 3) (sSet 2 (dCallN false 2 G_apply_step (aCons (dVar 3) (aCons (dVar 2) aNil)))))
  (sRet (dVar 2))))
noncomputable def G_Chain_at : GF := fnD 4 f_Chain_at
noncomputable def f_law_lift : SF := (sSeq (sSet 3 (dCallN false 2 G_law_draw (aCons (dVar 0) (aCons (dVar 1) aNil))))
  (sSeq (sPar [4, 5] (aCons (dCallN false 3 G_law_weights (aCons (dVar 0) (aCons (dVar 1) (aCons (dVar 3) aNil)))) (aCons (dCallN false 1 G_law_more (aCons (dVar 0) aNil)) aNil)))
  (sRet (dTup (aCons (dC (.str "lift")) (aCons (dVar 3) (aCons (dVar 4) (aCons (dVar 5) (aCons (dCallN false 2 G_law_divisor (aCons (dVar 0) (aCons (dVar 2) aNil))) aNil)))))))))
noncomputable def G_law_lift : GF := fnD 6 f_law_lift
noncomputable def f_law_place : SF := (sRet (dCB tupD (aCons (dLc false (iRg1 (dVar 1)) (.nm 3) [3] bYes (dCallN false 2 G_law_entry (aCons (dVar 0) (aCons (dVar 2) aNil)))) aNil)))
noncomputable def G_law_place : GF := fnD 4 f_law_place
noncomputable def f_law_end : SF := (sRet (dOp ixD (dCallN false 2 G_law_walk (aCons (dVar 0) (aCons (dVar 1) aNil))) (dUn negD (dC (.int 1)))))
noncomputable def G_law_end : GF := fnD 2 f_law_end
noncomputable def f_is_step : SF := (sSeq (sIf (dB (dOp (eqD false) (dCB lenD (aCons (dVar 1) aNil)) (dC (.int 5)))) (sRet (dAndV (dOp (eqD false) (dOp ixD (dVar 1) (dC (.int 0))) (dC (.str "lift"))) (dCallN false 2 G_is_lift (aCons (dVar 0) (aCons (dVar 1) aNil))))) sNext)
  (sSeq (sIf (dB (dOp (eqD false) (dCB lenD (aCons (dVar 1) aNil)) (dC (.int 3)))) (sRet (dAndV (dOp (eqD false) (dOp ixD (dVar 1) (dC (.int 0))) (dC (.str "swap"))) (dAndV (dCallN false 2 G_are_channels (aCons (dVar 0) (aCons (dSl false (dVar 1) (oSome (dC (.int 1))) oNone) aNil))) (dOp ltD (dOp ixD (dVar 1) (dC (.int 1))) (dOp ixD (dVar 1) (dC (.int 2))))))) sNext)
  (sRet (dAndV (dOp (eqD false) (dCB lenD (aCons (dVar 1) aNil)) (dC (.int 2))) (dAndV (dOp (eqD false) (dOp ixD (dVar 1) (dC (.int 0))) (dC (.str "turn"))) (dCallN false 2 G_are_channels (aCons (dVar 0) (aCons (dSl false (dVar 1) (oSome (dC (.int 1))) oNone) aNil))))))))
noncomputable def G_is_step : GF := fnD 2 f_is_step
noncomputable def f_linear_part : SF := (sSeq (sSet 1 (dMeth false "Chain" "grid" 1 G_Chain_grid (dVar 0) aNil))
  (sSeq (sSet 2 (dLc false (iSq (dCallN false 1 G_unit_basis (aCons (dMeth false "Chain" "" 1 G_Chain_channels (dVar 0) aNil) aNil))) (.nm 4) [4] bYes (dCallN false 2 G_multiple (aCons (dVar 1) (aCons (dVar 4) aNil)))))
  (sSeq (sFor (iSq (dMeth false "Chain" "" 1 G_Chain_steps (dVar 0) aNil)) (.nm 3) (sSet 2 (dLc false (iSq (dVar 2)) (.nm 5) [5] bYes (dCallN false 2 G_apply_step (aCons (dCallN false 1 G_plain_step (aCons (dVar 3) aNil)) (aCons (dVar 5) aNil))))))
  (sRet (dMake "Matrix" 3 G_Matrix_init (aCons (dLc false (iZipNd (dVar 2)) (.nm 6) [6] bYes (dCB (listD false) (aCons (dVar 6) aNil))) (aCons (dVar 1) aNil)))))))
noncomputable def G_linear_part : GF := fnD 7 f_linear_part
noncomputable def f_law_moves : SF := (sSeq (sPar [4, 5] (aCons (dLst true (aCons (dVar 3) aNil)) (aCons (dLst true aNil) aNil)))
  (sSeq (sFor (iRg1 (dCallN false 2 G_law_draw (aCons (dVar 0) (aCons (dOp (addD false) (dVar 2) (dC (.int 1))) aNil)))) (.nm 6) (sSeq (sPar [7, 8] (aCons (dCallN false 2 G_law_draw (aCons (dVar 0) (aCons (dC (.int 9)) aNil))) (aCons (dC .non) aNil)))
  (sSeq (sIf (bAnd (dB (dOp (eqD true) (dVar 5) (dLst false aNil))) (dB (dOp gtD (dVar 7) (dC (.int 6))))) (sSeq (sSet 8 (dOp ixD (dLst false (aCons (dOp ixD (dVar 5) (dUn negD (dC (.int 1)))) (aCons (dCallN false 1 G_law_back (aCons (dOp ixD (dVar 5) (dUn negD (dC (.int 1)))) aNil)) aNil))) (dOp subD (dVar 7) (dC (.int 7)))))
  (sIf (bAnd (dB (dOp (eqD false) (dOp ixD (dVar 8) (dC (.int 0))) (dC (.str "lift")))) (bOr (dB (dOp gtD (dOp ixD (dVar 8) (dC (.int 4))) (dOp ixD (dVar 4) (dC (.int 0))))) (dB (dOp gtD (dCB absD (aCons (dOp ixD (dVar 8) (dC (.int 3))) aNil)) (dC (.int 20)))))) (sSet 8 (dC .non)) (sIf (dB (dOp (eqD false) (dOp ixD (dVar 8) (dC (.int 0))) (dC (.str "lift")))) (sAsg (hSub (dVar 4) (dC (.int 0))) (dOp divD (dOp ixD (dVar 4) (dC (.int 0))) (dOp ixD (dVar 8) (dC (.int 4))))) sNext))) sNext)
  (sSeq (sIf (dB (dOp isND (dVar 8) (dC .non))) (sSet 8 (dIfE (dB (dOp gtD (dVar 7) (dC (.int 2)))) (dCallN false 3 G_law_lift (aCons (dVar 0) (aCons (dVar 1) (aCons (dVar 4) aNil)))) (dCallN false 2 G_law_plain (aCons (dVar 0) (aCons (dVar 1) aNil))))) sNext)
  (sDrop (dMt appD (dVar 5) (aCons (dVar 8) aNil)))))))
  (sRet (dVar 5))))
noncomputable def G_law_moves : GF := fnD 9 f_law_moves
noncomputable def f_check_chain : SF := (sSeq (sIf (dB (dOp (PK.inD true) (dVar 0) (dTup (aCons (dC (.int 2)) (aCons (dC (.int 3)) aNil))))) sNever sNext)
  (sFor (iEnumD (dVar 1)) (.tp [2, 3]) (sIf (bNot (dB (dCallN false 2 G_is_step (aCons (dVar 0) (aCons (dVar 3) aNil))))) sNever sNext)))
noncomputable def G_check_chain : GF := fnD 4 f_check_chain
noncomputable def f_Chain_init : IFn := (iSeq (iDrop (dCallN false 2 G_check_chain (aCons (dVar 1) (aCons (dVar 2) aNil))))
  (iSeq (iFld "_channels" (dVar 1))
  (iFld "_steps" (dCB (listD false) (aCons (dVar 2) aNil)))))
noncomputable def G_Chain_init : GIF := PK.initD 2 f_Chain_init
noncomputable def f_law_right : SF := (sSeq (sSet 2 (dCallN false 4 G_law_moves (aCons (dVar 0) (aCons (dVar 1) (aCons (dC (.int 6)) (aCons (dOp ixD (dLst false (aCons (dC (.int 12)) (aCons (dC (.int 6)) aNil))) (dOp subD (dVar 1) (dC (.int 2)))) aNil))))))
  (sSeq (sAsg (hTup 2 (hCons (hNm 3) (hCons (hNm 4) hNil))) (dTup (aCons (dMake "Chain" 3 G_Chain_init (aCons (dVar 1) (aCons (dVar 2) aNil))) (aCons (dCallN false 1 G_law_whole (aCons (dVar 2) aNil)) aNil))))
  (sSeq (sAsg (hUnl 2 (hCons (hNm 5) (hCons (hNm 6) hNil))) (dCallN false 2 G_law_linear (aCons (dVar 2) (aCons (dVar 1) aNil))))
  (sSeq (sSet 7 (dCallK false 1 0 1 [0] G_linear_part aNil (aCons (dVar 3) aNil)))
  (sSeq (sIf (bOr (bNot (dB (dOp (eqI "Matrix" G_Matrix_eq) (dVar 7) (dMake "Matrix" 3 G_Matrix_init (aCons (dVar 5) (aCons (dVar 6) aNil)))))) (bOr (dB (dOp (eqD true) (dMeth false "Matrix" "" 1 G_Matrix_rows (dVar 7) aNil) (dMeth false "Matrix" "" 1 G_Matrix_rows (dCallN false 1 G_linear_part (aCons (dVar 3) aNil)) aNil))) (dB (dOp (eqD true) (dLenI "Matrix" G_Matrix_len (dVar 7)) (dVar 1))))) (sRet (dC (.bl false))) sNext)
  (sSeq (sFor (iTupD (dTup (aCons (dC (.int 9)) (aCons (dOp powD (dC (.int 10)) (dC (.int 20))) (aCons (dOp powD (dC (.int 10)) (dC (.int 29))) aNil))))) (.nm 8) (sSeq (sPar [11, 13] (aCons (dCallN false 3 G_law_place (aCons (dVar 0) (aCons (dVar 1) (aCons (dVar 8) aNil)))) (aCons (dCallN false 3 G_law_place (aCons (dVar 0) (aCons (dVar 1) (aCons (dVar 8) aNil)))) aNil)))
  (sSeq (sSet 14 (dCallN false 2 G_law_plus (aCons (dVar 11) (aCons (dCB tupD (aCons (dLc false (iSq (dVar 13)) (.nm 18) [18] bYes (dOp (mulD false) (dVar 4) (dVar 18))) aNil)) aNil))))
  (sSeq (sSet 15 (dLst true aNil))
  (sSeq (sFor (iSq (dMeth false "Matrix" "image" 2 G_Matrix_image (dVar 7) (aCons (dVar 13) aNil))) (.tp [16, 17]) (sSeq (sIf (dB (dOp (eqD true) (dOp modD (dCB intD (aCons (dVar 4) aNil)) (dVar 17)) (dC (.int 0)))) (sRet (dC (.bl false))) sNext)
  (sDrop (dMt appD (dVar 15) (aCons (dOp (mulD false) (dVar 16) (dOp divD (dVar 4) (dVar 17))) aNil)))))
  (sIf (dB (dOp (eqD true) (dMeth false "Chain" "at" 2 G_Chain_at (dVar 3) (aCons (dVar 14) aNil)) (dCallN false 2 G_law_plus (aCons (dMeth false "Chain" "at" 2 G_Chain_at (dVar 3) (aCons (dVar 11) aNil)) (aCons (dVar 15) aNil))))) (sRet (dC (.bl false))) sNext))))))
  (sSeq (sSet 9 (dCallN false 1 G_law_plainly (aCons (dVar 2) aNil)))
  (sSeq (sPar [10, 11] (aCons (dCallN false 1 G_linear_part (aCons (dMake "Chain" 3 G_Chain_init (aCons (dVar 1) (aCons (dVar 9) aNil))) aNil)) (aCons (dCallN false 3 G_law_place (aCons (dVar 0) (aCons (dVar 1) (aCons (dOp powD (dC (.int 10)) (dC (.int 20))) aNil)))) aNil)))
  (sSeq (sSet 12 (dLc false (iSq (dCallN false 2 G_law_end (aCons (dVar 9) (aCons (dVar 11) aNil)))) (.nm 18) [18] bYes (dTup (aCons (dVar 18) (aCons (dC (.int 1)) aNil)))))
  (sSeq (sIf (bOr (dB (dOp (eqD true) (dMeth false "Matrix" "" 1 G_Matrix_bottom (dVar 10) aNil) (dC (.int 1)))) (dB (dOp (eqD true) (dMeth false "Matrix" "image" 2 G_Matrix_image (dVar 10) (aCons (dVar 11) aNil)) (dVar 12)))) (sRet (dC (.bl false))) sNext)
  (sRet (dOp (eqD false) (dMeth false "Chain" "" 1 G_Chain_steps (dVar 3) aNil) (dVar 2)))))))))))))
noncomputable def G_law_right : GF := fnD 19 f_law_right
noncomputable def f_law : SF := (sSeq (sFor (iRg1 (dCB maxD (aCons (dC (.int 1)) (aCons (dCB minD (aCons (dC (.int 6)) (aCons (dCB lenD (aCons (dVar 0) aNil)) aNil))) aNil)))) (.nm 1) (sSeq (sSet 2 (dCallN true 2 G_law_pool (aCons (dVar 0) (aCons (dVar 1) aNil))))
  (sFor (iTupD (dTup (aCons (dC (.int 2)) (aCons (dC (.int 3)) (aCons (dC (.int 2)) aNil))))) (.nm 3) (sIf (bNot (dB (dCallN false 2 G_law_right (aCons (dVar 2) (aCons (dVar 3) aNil))))) (sRet (dC (.bl false))) sNext))))
  (sRet (dC (.bl true))))
noncomputable def G_law : GF := fnD 4 f_law
section
variable {P : Program} {w : World} {K : PySem.W.Frag} {mg : Str → Option Value} {base : Heap} {a : Nat → Addr} {fd : Nat → FuncData} {cl pp : Nat → Addr}
theorem ok_fraction (T : Tx K mg a fd cl pp) : FnOk P w K mg base CX0 1 (a 0) (fd 0) ["top", "bottom"] (spD K mg 2 G_fraction) :=
  fn_okD (k := 0) T.F_fraction sc_fraction fun cdv A outer s H E hr =>
    (pds_cons (pds_set 2 (pd_cbf oc_gcd (by rfl) T.m_gcd (pda_cons (pd_var 0) (pda_cons (pd_var 1) pda_nil))) sc_fraction.nd)
    (pds_one (pds_ret (pd_tup (pda_cons (pd_op od_div (pd_var 0) (pd_var 2)) (pda_cons (pd_op od_div (pd_var 1) (pd_var 2)) pda_nil))))))
theorem ok_dot (T : Tx K mg a fd cl pp) : FnOk P w K mg base CX0 1 (a 1) (fd 1) ["first", "second"] (spD K mg 2 G_dot) :=
  fn_okD (k := 0) T.F_dot sc_dot fun cdv A outer s H E hr =>
    (pds_one (pds_ret (pd_cb (oc_sum rfl) (by rfl) T.n_sum (by decide +kernel) (pda_cons (pd_lc false (.tp [2, 3]) (own := [("one", 2), ("other", 3)]) rfl sc_dot.nd (pdi_zipX (by rfl) T.n_zip (pd_var 0) (pd_var 1)) (blkOk_by (by rfl)) (by decide) (fun _ _ _ _ _ => (pg_tup rfl (pgs_cons (pg_name (i := 2) sc_dot.nd rfl (by first | exact Or.inl rfl | exact Or.inr rfl)) (pgs_cons (pg_name (i := 3) sc_dot.nd rfl (by first | exact Or.inl rfl | exact Or.inr rfl)) pgs_nil)))) (fun _ _ _ _ _ => pdts_nil) (fun _ _ _ _ _ => (pd_op (od_mul false) (pd_var 2) (pd_var 3)))) pda_nil))))
theorem ok_multiple (T : Tx K mg a fd cl pp) : FnOk P w K mg base CX0 1 (a 2) (fd 2) ["times", "vector"] (spD K mg 2 G_multiple) :=
  fn_okD (k := 0) T.F_multiple sc_multiple fun cdv A outer s H E hr =>
    (pds_one (pds_ret (pd_ct oc_tup (by rfl) T.n_tuple (by decide +kernel) (pda_cons (pd_lc false (.nm 2) (own := [("entry", 2)]) rfl sc_multiple.nd (pdi_seq (pd_var 1)) (blkOk_by (by rfl)) (by decide) (fun _ _ _ _ _ => (pg_name (i := 2) sc_multiple.nd rfl (by first | exact Or.inl rfl | exact Or.inr rfl))) (fun _ _ _ _ _ => pdts_nil) (fun _ _ _ _ _ => (pd_op (od_mul false) (pd_var 0) (pd_var 2)))) pda_nil))))
theorem ok_are_integers (T : Tx K mg a fd cl pp) : FnOk P w K mg base CX0 1 (a 3) (fd 3) ["items"] (spD K mg 1 G_are_integers) :=
  fn_okD (k := 0) T.F_are_integers sc_are_integers fun cdv A outer s H E hr =>
    (pds_one (pds_ret (pd_cb (oc_all rfl) (by rfl) T.n_all (by decide +kernel) (pda_cons (pd_lc false (.nm 1) (own := [("item", 1)]) rfl sc_are_integers.nd (pdi_seq (pd_var 0)) (blkOk_by (by rfl)) (by decide) (fun _ _ _ _ _ => (pg_name (i := 1) sc_are_integers.nd rfl (by first | exact Or.inl rfl | exact Or.inr rfl))) (fun _ _ _ _ _ => pdts_nil) (fun _ _ _ _ _ => (pd_isi (by rfl) T.n_isinstance (by rfl) T.n_int (by decide +kernel) (pd_var 1)))) pda_nil))))
theorem ok_plain_step (T : Tx K mg a fd cl pp) : FnOk P w K mg base CX0 1 (a 4) (fd 4) ["step"] (spD K mg 1 G_plain_step) :=
  fn_okD (k := 0) T.F_plain_step sc_plain_step fun cdv A outer s H E hr =>
    (pds_cons (pds_if (pdt_cmp bo_eq (od_ne hr.units) (pd_ix (pd_var 0) pd_int) pd_str) (pds_one (pds_ret (pd_var 0))) pds_nil)
    (pds_cons (pds_asg (pd_var 0) (pgd_tup rfl (pgds_cons (pgd_name 1 sc_plain_step.nd) (pgds_cons (pgd_name 2 sc_plain_step.nd) (pgds_cons (pgd_name 3 sc_plain_step.nd) (pgds_cons (pgd_name 4 sc_plain_step.nd) (pgds_cons (pgd_name 5 sc_plain_step.nd) pgds_nil)))))))
    (pds_one (pds_ret (pd_tup (pda_cons (pd_var 1) (pda_cons (pd_var 2) (pda_cons (pd_var 3) (pda_cons pd_int (pda_cons (pd_var 5) pda_nil))))))))))
theorem ok_unit_basis (T : Tx K mg a fd cl pp) : FnOk P w K mg base CX0 1 (a 5) (fd 5) ["channels"] (spD K mg 1 G_unit_basis) :=
  fn_okD (k := 0) T.F_unit_basis sc_unit_basis fun cdv A outer s H E hr =>
    (pds_one (pds_ret (pd_lc true (.nm 1) (own := [("number", 1)]) rfl sc_unit_basis.nd (pdi_rg1 (by rfl) T.n_range (pd_var 0)) (blkOk_by (by rfl)) (by decide) (fun _ _ _ _ _ => (pg_name (i := 1) sc_unit_basis.nd rfl (by first | exact Or.inl rfl | exact Or.inr rfl))) (fun _ _ _ _ _ => pdts_nil) (fun _ _ _ _ _ => (pd_ct oc_tup (by rfl) T.n_tuple (by decide +kernel) (pda_cons (pd_lc false (.nm 2) (own := [("place", 2)]) rfl sc_unit_basis.nd (pdi_rg1 (by rfl) T.n_range (pd_var 0)) (blkOk_by (by rfl)) (by decide) (fun _ _ _ _ _ => (pg_name (i := 2) sc_unit_basis.nd rfl (by first | exact Or.inl rfl | exact Or.inr rfl))) (fun _ _ _ _ _ => pdts_nil) (fun _ _ _ _ _ => (pd_if (pdt_cmp bo_eq (od_eq hr.units) (pd_var 2) (pd_var 1)) pd_int pd_int))) pda_nil))))))
theorem ok_Matrix_rows (T : Tx K mg a fd cl pp) : FnOk P w K mg base CX0 1 (a 6) (fd 6) ["self"] (spD K mg 1 G_Matrix_rows) :=
  fn_okD (k := 0) T.F_Matrix_rows sc_Matrix_rows fun cdv A outer s H E hr =>
    (pds_one (pds_ret (pd_lc true (.nm 1) (own := [("row", 1)]) rfl sc_Matrix_rows.nd (pdi_seq (pd_fld (pd_var 0) T.g_Matrix T.cl_Matrix T.na_Matrix_rows)) (blkOk_by (by rfl)) (by decide) (fun _ _ _ _ _ => (pg_name (i := 1) sc_Matrix_rows.nd rfl (by first | exact Or.inl rfl | exact Or.inr rfl))) (fun _ _ _ _ _ => pdts_nil) (fun _ _ _ _ _ => (pd_ct (oc_list false) (by rfl) T.n_list (by decide +kernel) (pda_cons (pd_var 1) pda_nil))))))
theorem ok_Matrix_bottom (T : Tx K mg a fd cl pp) : FnOk P w K mg base CX0 1 (a 7) (fd 7) ["self"] (spD K mg 1 G_Matrix_bottom) :=
  fn_okD (k := 0) T.F_Matrix_bottom sc_Matrix_bottom fun cdv A outer s H E hr =>
    (pds_one (pds_ret (pd_fld (pd_var 0) T.g_Matrix T.cl_Matrix T.na_Matrix_bottom)))
theorem ok_Matrix_len (T : Tx K mg a fd cl pp) : FnOk P w K mg base CX0 1 (a 8) (fd 8) ["self"] (spD K mg 1 G_Matrix_len) :=
  fn_okD (k := 0) T.F_Matrix_len sc_Matrix_len fun cdv A outer s H E hr =>
    (pds_one (pds_ret (pd_cb (oc_len) (by rfl) T.n_len (by decide +kernel) (pda_cons (pd_fld (pd_var 0) T.g_Matrix T.cl_Matrix T.na_Matrix_rows) pda_nil))))
theorem ok_Matrix_eq (T : Tx K mg a fd cl pp) : FnOk P w K mg base CX0 1 (a 9) (fd 9) ["self", "other"] (spD K mg 2 G_Matrix_eq) :=
  fn_okD (k := 0) T.F_Matrix_eq sc_Matrix_eq fun cdv A outer s H E hr =>
    (pds_one (pds_ret (pd_and (pd_isiI (by rfl) T.n_isinstance (by rfl) T.g_Matrix T.cl_Matrix T.isi_Matrix (pd_var 1)) (pd_and (pd_cmp (od_eq hr.units) (pd_fld (pd_var 0) T.g_Matrix T.cl_Matrix T.na_Matrix_bottom) (pd_fld (pd_var 1) T.g_Matrix T.cl_Matrix T.na_Matrix_bottom)) (pd_one (pd_cmp (od_eq hr.units) (pd_fld (pd_var 0) T.g_Matrix T.cl_Matrix T.na_Matrix_rows) (pd_fld (pd_var 1) T.g_Matrix T.cl_Matrix T.na_Matrix_rows)))))))
theorem ok_check_matrix (T : Tx K mg a fd cl pp) : FnOk P w K mg base CX0 1 (a 10) (fd 10) ["rows", "bottom"] (spD K mg 2 G_check_matrix) :=
  fn_okD (k := 0) T.F_check_matrix sc_check_matrix fun cdv A outer s H E hr =>
    (pds_cons (pds_if (pdt_w (pdw_or (pdt_cmp bo_eq (od_eq hr.units) (pd_cb (oc_len) (by rfl) T.n_len (by decide +kernel) (pda_cons (pd_var 0) pda_nil)) pd_int) (pdw_or1 (pdt_cmp bo_cmp (od_cmp op_lt) (pd_var 1) pd_int)))) (pds_one pds_never) pds_nil)
    (pds_one (pds_for (.tp [2, 3]) (pdi_enum (by rfl) T.n_enumerate (pd_var 0)) (pg_tup rfl (pgs_cons (pg_name (i := 2) sc_check_matrix.nd rfl (by first | exact Or.inl rfl | exact Or.inr rfl)) (pgs_cons (pg_name (i := 3) sc_check_matrix.nd rfl (by first | exact Or.inl rfl | exact Or.inr rfl)) pgs_nil))) (pds_one (pds_if (pdt_cmp bo_eq (od_ne hr.units) (pd_cb (oc_len) (by rfl) T.n_len (by decide +kernel) (pda_cons (pd_var 3) pda_nil)) (pd_cb (oc_len) (by rfl) T.n_len (by decide +kernel) (pda_cons (pd_var 0) pda_nil))) (pds_one pds_never) pds_nil)) PassesOwn.never rfl)))
theorem ok_common_divisor (T : Tx K mg a fd cl pp) : FnOk P w K mg base CX0 1 (a 11) (fd 11) ["rows", "bottom"] (spD K mg 2 G_common_divisor) :=
  fn_okD (k := 0) T.F_common_divisor sc_common_divisor fun cdv A outer s H E hr =>
    (pds_cons (pds_set 2 (pd_var 1) sc_common_divisor.nd)
    (pds_cons (pds_for (.nm 3) (pdi_seq (pd_var 0)) (pg_name (i := 3) sc_common_divisor.nd rfl (by first | exact Or.inl rfl | exact Or.inr rfl)) (pds_one (pds_for (.nm 4) (pdi_seq (pd_var 3)) (pg_name (i := 4) sc_common_divisor.nd rfl (by first | exact Or.inl rfl | exact Or.inr rfl)) (pds_one (pds_set 2 (pd_cbf oc_gcd (by rfl) T.m_gcd (pda_cons (pd_var 2) (pda_cons (pd_var 4) pda_nil))) sc_common_divisor.nd)) PassesOwn.never rfl)) PassesOwn.never rfl)
    (pds_one (pds_ret (pd_var 2)))))
theorem ok_Chain_channels (T : Tx K mg a fd cl pp) : FnOk P w K mg base CX0 1 (a 12) (fd 12) ["self"] (spD K mg 1 G_Chain_channels) :=
  fn_okD (k := 0) T.F_Chain_channels sc_Chain_channels fun cdv A outer s H E hr =>
    (pds_one (pds_ret (pd_fld (pd_var 0) T.g_Chain T.cl_Chain T.na_Chain_channels)))
theorem ok_Chain_steps (T : Tx K mg a fd cl pp) : FnOk P w K mg base CX0 1 (a 13) (fd 13) ["self"] (spD K mg 1 G_Chain_steps) :=
  fn_okD (k := 0) T.F_Chain_steps sc_Chain_steps fun cdv A outer s H E hr =>
    (pds_one (pds_ret (pd_ct (oc_list true) (by rfl) T.n_list (by decide +kernel) (pda_cons (pd_fld (pd_var 0) T.g_Chain T.cl_Chain T.na_Chain_steps) pda_nil))))
theorem ok_Chain_grid (T : Tx K mg a fd cl pp) : FnOk P w K mg base CX0 1 (a 14) (fd 14) ["self"] (spD K mg 1 G_Chain_grid) :=
  fn_okD (k := 0) T.F_Chain_grid sc_Chain_grid fun cdv A outer s H E hr =>
    (pds_cons (pds_set 1 pd_int sc_Chain_grid.nd)
    (pds_cons (pds_for (.nm 2) (pdi_seq (pd_fld (pd_var 0) T.g_Chain T.cl_Chain T.na_Chain_steps)) (pg_name (i := 2) sc_Chain_grid.nd rfl (by first | exact Or.inl rfl | exact Or.inr rfl)) (pds_one (pds_if (pdt_cmp bo_eq (od_eq hr.units) (pd_ix (pd_var 2) pd_int) pd_str) (pds_one (pds_set 1 (pd_op (od_mul false) (pd_var 1) (pd_ix (pd_var 2) pd_int)) sc_Chain_grid.nd)) pds_nil)) PassesOwn.never rfl)
    (pds_one (pds_ret (pd_var 1)))))
theorem ok_law_pool (T : Tx K mg a fd cl pp) : FnOk P w K mg base CX0 1 (a 15) (fd 15) ["script", "spot"] (spD K mg 2 G_law_pool) :=
  fn_okD (k := 0) T.F_law_pool sc_law_pool fun cdv A outer s H E hr =>
    (pds_cons (pds_set 2 pd_int sc_law_pool.nd)
    (pds_cons (pds_if (pdt_cmp bo_cmp (od_cmp op_lt) (pd_var 1) (pd_cb (oc_len) (by rfl) T.n_len (by decide +kernel) (pda_cons (pd_var 0) pda_nil))) (pds_one (pds_set 2 (pd_ix (pd_var 0) (pd_var 1)) sc_law_pool.nd)) pds_nil)
    (pds_one (pds_ret (pd_lst true (pda_cons (pd_cb (oc_max rfl) (by rfl) T.n_max (by decide +kernel) (pda_cons pd_int (pda_cons (pd_op od_sub (pd_cb (oc_abs) (by rfl) T.n_abs (by decide +kernel) (pda_cons (pd_var 2) pda_nil)) (pd_op od_pow pd_int pd_int)) pda_nil))) (pda_cons (pd_op (od_add false) (pd_op od_mod (pd_ct oc_int (by rfl) T.n_int (by decide +kernel) (pda_cons (pd_var 2) pda_nil)) pd_int) (pd_op (od_mul false) pd_int (pd_op (od_add false) (pd_var 1) pd_int))) (pda_cons pd_int pda_nil))))))))
theorem ok_law_draw (T : Tx K mg a fd cl pp) : FnOk P w K mg base CX0 1 (a 16) (fd 16) ["pool", "many"] (spD K mg 2 G_law_draw) :=
  fn_okD (k := 0) T.F_law_draw sc_law_draw fun cdv A outer s H E hr =>
    (pds_cons (pds_if (pdt_cmp bo_cmp (od_cmp op_gt) (pd_ix (pd_var 0) pd_int) pd_int) (pds_cons (pds_set 3 (pd_op od_mod (pd_ct oc_int (by rfl) T.n_int (by decide +kernel) (pda_cons (pd_ix (pd_var 0) pd_int) pda_nil)) (pd_var 1)) sc_law_draw.nd)
    (pds_cons (pds_asg (pd_op od_div (pd_ix (pd_var 0) pd_int) (pd_var 1)) (pgd_sub (pd_var 0) pd_int))
    (pds_one (pds_ret (pd_var 3))))) pds_nil)
    (pds_cons (pds_asg (pd_op (od_add false) (pd_ix (pd_var 0) pd_int) pd_int) (pgd_sub (pd_var 0) pd_int))
    (pds_cons (pds_set 2 (pd_op od_mod (pd_ct oc_int (by rfl) T.n_int (by decide +kernel) (pda_cons (pd_op od_pow (pd_op (od_add false) (pd_ix (pd_var 0) pd_int) (pd_op (od_mul false) pd_int (pd_ix (pd_var 0) pd_int))) pd_int) pda_nil)) pd_int) sc_law_draw.nd)
    (pds_cons (pds_set 2 (pd_op od_mod (pd_ct oc_int (by rfl) T.n_int (by decide +kernel) (pda_cons (pd_op od_pow (pd_op (od_add false) (pd_var 2) (pd_op (od_mul false) pd_int (pd_ix (pd_var 0) pd_int))) pd_int) pda_nil)) pd_int) sc_law_draw.nd)
    (pds_one (pds_ret (pd_op od_mod (pd_ct oc_int (by rfl) T.n_int (by decide +kernel) (pda_cons (pd_op od_div (pd_var 2) pd_int) pda_nil)) (pd_var 1))))))))
theorem ok_law_back (T : Tx K mg a fd cl pp) : FnOk P w K mg base CX0 1 (a 17) (fd 17) ["one"] (spD K mg 1 G_law_back) :=
  fn_okD (k := 0) T.F_law_back sc_law_back fun cdv A outer s H E hr =>
    (pds_cons (pds_if (pdt_cmp bo_eq (od_ne hr.units) (pd_ix (pd_var 0) pd_int) pd_str) (pds_one (pds_ret (pd_var 0))) pds_nil)
    (pds_one (pds_ret (pd_tup (pda_cons pd_str (pda_cons (pd_ix (pd_var 0) pd_int) (pda_cons (pd_ct oc_tup (by rfl) T.n_tuple (by decide +kernel) (pda_cons (pd_lc false (.nm 1) (own := [("weight", 1)]) rfl sc_law_back.nd (pdi_seq (pd_ix (pd_var 0) pd_int)) (blkOk_by (by rfl)) (by decide) (fun _ _ _ _ _ => (pg_name (i := 1) sc_law_back.nd rfl (by first | exact Or.inl rfl | exact Or.inr rfl))) (fun _ _ _ _ _ => pdts_nil) (fun _ _ _ _ _ => (pd_op od_sub pd_int (pd_var 1)))) pda_nil)) (pda_cons (pd_op od_sub (pd_op od_sub (pd_ix (pd_var 0) pd_int) pd_int) (pd_ix (pd_var 0) pd_int)) (pda_cons (pd_ix (pd_var 0) pd_int) pda_nil)))))))))
theorem ok_law_done (T : Tx K mg a fd cl pp) : FnOk P w K mg base CX0 1 (a 18) (fd 18) ["one", "place"] (spD K mg 2 G_law_done) :=
  fn_okD (k := 0) T.F_law_done sc_law_done fun cdv A outer s H E hr =>
    (pds_cons (pds_set 2 (pd_ct (oc_list true) (by rfl) T.n_list (by decide +kernel) (pda_cons (pd_var 1) pda_nil)) sc_law_done.nd)
    (pds_cons (pds_if (pdt_cmp bo_eq (od_eq hr.units) (pd_ix (pd_var 0) pd_int) pd_str) (pds_one (pds_asg (pd_tup (pda_cons (pd_ix (pd_var 1) (pd_ix (pd_var 0) pd_int)) (pda_cons (pd_ix (pd_var 1) (pd_ix (pd_var 0) pd_int)) pda_nil))) (pgd_tup rfl (pgds_cons (pgd_sub (pd_var 2) (pd_ix (pd_var 0) pd_int)) (pgds_cons (pgd_sub (pd_var 2) (pd_ix (pd_var 0) pd_int)) pgds_nil))))) (pds_one (pds_if (pdt_cmp bo_eq (od_eq hr.units) (pd_ix (pd_var 0) pd_int) pd_str) (pds_one (pds_asg (pd_op od_sub pd_int (pd_ix (pd_var 1) (pd_ix (pd_var 0) pd_int))) (pgd_sub (pd_var 2) (pd_ix (pd_var 0) pd_int)))) (pds_cons (pds_set 3 (pd_ix (pd_var 0) pd_int) sc_law_done.nd)
    (pds_cons (pds_for (.tp [4, 5]) (pdi_zip (by rfl) T.n_zip (pd_ix (pd_var 0) pd_int) (pd_var 1)) (pg_tup rfl (pgs_cons (pg_name (i := 4) sc_law_done.nd rfl (by first | exact Or.inl rfl | exact Or.inr rfl)) (pgs_cons (pg_name (i := 5) sc_law_done.nd rfl (by first | exact Or.inl rfl | exact Or.inr rfl)) pgs_nil))) (pds_one (pds_set 3 (pd_op (od_add false) (pd_var 3) (pd_op (od_mul false) (pd_var 4) (pd_var 5))) sc_law_done.nd)) PassesOwn.never rfl)
    (pds_one (pds_asg (pd_op (od_add false) (pd_ix (pd_var 1) (pd_ix (pd_var 0) pd_int)) (pd_op od_div (pd_ct oc_int (by rfl) T.n_int (by decide +kernel) (pda_cons (pd_var 3) pda_nil)) (pd_ix (pd_var 0) pd_int))) (pgd_sub (pd_var 2) (pd_ix (pd_var 0) pd_int)))))))))
    (pds_one (pds_ret (pd_ct oc_tup (by rfl) T.n_tuple (by decide +kernel) (pda_cons (pd_var 2) pda_nil))))))
theorem ok_law_whole (T : Tx K mg a fd cl pp) : FnOk P w K mg base CX0 1 (a 19) (fd 19) ["moves"] (spD K mg 1 G_law_whole) :=
  fn_okD (k := 0) T.F_law_whole sc_law_whole fun cdv A outer s H E hr =>
    (pds_cons (pds_set 1 pd_int sc_law_whole.nd)
    (pds_cons (pds_for (.nm 2) (pdi_seq (pd_var 0)) (pg_name (i := 2) sc_law_whole.nd rfl (by first | exact Or.inl rfl | exact Or.inr rfl)) (pds_one (pds_set 1 (pd_op (od_mul false) (pd_var 1) (pd_if (pdt_cmp bo_eq (od_eq hr.units) (pd_ix (pd_var 2) pd_int) pd_str) (pd_ix (pd_var 2) pd_int) pd_int)) sc_law_whole.nd)) PassesOwn.never rfl)
    (pds_one (pds_ret (pd_var 1)))))
theorem ok_law_linear (T : Tx K mg a fd cl pp) : FnOk P w K mg base CX0 1 (a 20) (fd 20) ["moves", "many"] (spD K mg 2 G_law_linear) :=
  fn_okD (k := 0) T.F_law_linear sc_law_linear fun cdv A outer s H E hr =>
    (pds_cons (pds_par (i := 2) (j := 3) rfl sc_law_linear.nd rfl rfl (by decide) rfl rfl (pda_cons (pd_lc true (.nm 5) (own := [("spot", 5)]) rfl sc_law_linear.nd (pdi_rg1 (by rfl) T.n_range (pd_var 1)) (blkOk_by (by rfl)) (by decide) (fun _ _ _ _ _ => (pg_name (i := 5) sc_law_linear.nd rfl (by first | exact Or.inl rfl | exact Or.inr rfl))) (fun _ _ _ _ _ => pdts_nil) (fun _ _ _ _ _ => (pd_lc false (.nm 9) (own := [("side", 9)]) rfl sc_law_linear.nd (pdi_rg1 (by rfl) T.n_range (pd_var 1)) (blkOk_by (by rfl)) (by decide) (fun _ _ _ _ _ => (pg_name (i := 9) sc_law_linear.nd rfl (by first | exact Or.inl rfl | exact Or.inr rfl))) (fun _ _ _ _ _ => pdts_nil) (fun _ _ _ _ _ => (pd_ct oc_int (by rfl) T.n_int (by decide +kernel) (pda_cons (pd_cmp (od_eq hr.units) (pd_var 5) (pd_var 9)) pda_nil)))))) (pda_cons pd_int pda_nil)) rfl)
    (pds_cons (pds_for (.nm 4) (pdi_seq (pd_var 0)) (pg_name (i := 4) sc_law_linear.nd rfl (by first | exact Or.inl rfl | exact Or.inr rfl)) (pds_one (pds_if (pdt_cmp bo_eq (od_eq hr.units) (pd_ix (pd_var 4) pd_int) pd_str) (pds_one (pds_asg (pd_tup (pda_cons (pd_ix (pd_var 2) (pd_ix (pd_var 4) pd_int)) (pda_cons (pd_ix (pd_var 2) (pd_ix (pd_var 4) pd_int)) pda_nil))) (pgd_tup rfl (pgds_cons (pgd_sub (pd_var 2) (pd_ix (pd_var 4) pd_int)) (pgds_cons (pgd_sub (pd_var 2) (pd_ix (pd_var 4) pd_int)) pgds_nil))))) (pds_one (pds_if (pdt_cmp bo_eq (od_eq hr.units) (pd_ix (pd_var 4) pd_int) pd_str) (pds_one (pds_asg (pd_lc false (.nm 10) (own := [("entry", 10)]) rfl sc_law_linear.nd (pdi_seq (pd_ix (pd_var 2) (pd_ix (pd_var 4) pd_int))) (blkOk_by (by rfl)) (by decide) (fun _ _ _ _ _ => (pg_name (i := 10) sc_law_linear.nd rfl (by first | exact Or.inl rfl | exact Or.inr rfl))) (fun _ _ _ _ _ => pdts_nil) (fun _ _ _ _ _ => (pd_op od_sub pd_int (pd_var 10)))) (pgd_sub (pd_var 2) (pd_ix (pd_var 4) pd_int)))) (pds_cons (pds_set 6 (pd_op (od_mul false) (pd_lst false (pda_cons pd_int pda_nil)) (pd_var 1)) sc_law_linear.nd)
    (pds_cons (pds_for (.tp [7, 8]) (pdi_zipW (by rfl) T.n_zip (pd_ix (pd_var 4) pd_int) (pd_var 2)) (pg_tup rfl (pgs_cons (pg_name (i := 7) sc_law_linear.nd rfl (by first | exact Or.inl rfl | exact Or.inr rfl)) (pgs_cons (pg_name (i := 8) sc_law_linear.nd rfl (by first | exact Or.inl rfl | exact Or.inr rfl)) pgs_nil))) (pds_one (pds_setLc false (.tp [10, 11]) (own := [("entry", 10), ("more", 11)]) rfl sc_law_linear.nd (pdi_zipW (by rfl) T.n_zip (pd_var 6) (pd_var 8)) (blkOk_by (by rfl)) (by decide) (fun _ _ _ _ _ => (pg_tup rfl (pgs_cons (pg_name (i := 10) sc_law_linear.nd rfl (by first | exact Or.inl rfl | exact Or.inr rfl)) (pgs_cons (pg_name (i := 11) sc_law_linear.nd rfl (by first | exact Or.inl rfl | exact Or.inr rfl)) pgs_nil)))) (fun _ _ _ _ _ => pdts_nil) (fun _ _ _ _ _ => (pd_op (od_add false) (pd_var 10) (pd_op (od_mul false) (pd_var 7) (pd_var 11)))) rfl rfl (sw_true rfl rfl rfl (by decide +kernel)))) PassesOwn.never rfl)
    (pds_cons (pds_setLc true (.nm 8) (own := [("line", 8)]) rfl sc_law_linear.nd (pdi_seq (pd_var 2)) (blkOk_by (by rfl)) (by decide) (fun _ _ _ _ _ => (pg_name (i := 8) sc_law_linear.nd rfl (by first | exact Or.inl rfl | exact Or.inr rfl))) (fun _ _ _ _ _ => pdts_nil) (fun _ _ _ _ _ => (pd_lc false (.nm 10) (own := [("entry", 10)]) rfl sc_law_linear.nd (pdi_seq (pd_var 8)) (blkOk_by (by rfl)) (by decide) (fun _ _ _ _ _ => (pg_name (i := 10) sc_law_linear.nd rfl (by first | exact Or.inl rfl | exact Or.inr rfl))) (fun _ _ _ _ _ => pdts_nil) (fun _ _ _ _ _ => (pd_op (od_mul false) (pd_ix (pd_var 4) pd_int) (pd_var 10))))) rfl rfl (sw_true rfl rfl rfl (by decide +kernel)))
    (pds_cons (pds_asg (pd_lc false (.tp [10, 11]) (own := [("entry", 10), ("more", 11)]) rfl sc_law_linear.nd (pdi_zipW (by rfl) T.n_zip (pd_ix (pd_var 2) (pd_ix (pd_var 4) pd_int)) (pd_var 6)) (blkOk_by (by rfl)) (by decide) (fun _ _ _ _ _ => (pg_tup rfl (pgs_cons (pg_name (i := 10) sc_law_linear.nd rfl (by first | exact Or.inl rfl | exact Or.inr rfl)) (pgs_cons (pg_name (i := 11) sc_law_linear.nd rfl (by first | exact Or.inl rfl | exact Or.inr rfl)) pgs_nil)))) (fun _ _ _ _ _ => pdts_nil) (fun _ _ _ _ _ => (pd_op (od_add false) (pd_var 10) (pd_var 11)))) (pgd_sub (pd_var 2) (pd_ix (pd_var 4) pd_int)))
    (pds_one (pds_set 3 (pd_op (od_mul false) (pd_var 3) (pd_ix (pd_var 4) pd_int)) sc_law_linear.nd)))))))))) PassesOwn.never rfl)
    (pds_one (pds_ret (pd_lst true (pda_cons (pd_var 2) (pda_cons (pd_var 3) pda_nil)))))))
theorem ok_law_plus (T : Tx K mg a fd cl pp) : FnOk P w K mg base CX0 1 (a 21) (fd 21) ["place", "other"] (spD K mg 2 G_law_plus) :=
  fn_okD (k := 0) T.F_law_plus sc_law_plus fun cdv A outer s H E hr =>
    (pds_one (pds_ret (pd_ct oc_tup (by rfl) T.n_tuple (by decide +kernel) (pda_cons (pd_lc false (.tp [2, 3]) (own := [("entry", 2), ("more", 3)]) rfl sc_law_plus.nd (pdi_zipW (by rfl) T.n_zip (pd_var 0) (pd_var 1)) (blkOk_by (by rfl)) (by decide) (fun _ _ _ _ _ => (pg_tup rfl (pgs_cons (pg_name (i := 2) sc_law_plus.nd rfl (by first | exact Or.inl rfl | exact Or.inr rfl)) (pgs_cons (pg_name (i := 3) sc_law_plus.nd rfl (by first | exact Or.inl rfl | exact Or.inr rfl)) pgs_nil)))) (fun _ _ _ _ _ => pdts_nil) (fun _ _ _ _ _ => (pd_op (od_add false) (pd_var 2) (pd_var 3)))) pda_nil))))
theorem ok_law_plainly (T : Tx K mg a fd cl pp) : FnOk P w K mg base CX0 1 (a 22) (fd 22) ["moves"] (spD K mg 1 G_law_plainly) :=
  fn_okD (k := 0) T.F_law_plainly sc_law_plainly fun cdv A outer s H E hr =>
    (pds_one (pds_ret (pd_lc true (.nm 1) (own := [("one", 1)]) rfl sc_law_plainly.nd (pdi_seq (pd_var 0)) (blkOk_by (by rfl)) (by decide) (fun _ _ _ _ _ => (pg_name (i := 1) sc_law_plainly.nd rfl (by first | exact Or.inl rfl | exact Or.inr rfl))) (fun _ _ _ _ _ => pdts_nil) (fun _ _ _ _ _ => (pd_if (pdt_cmp bo_eq (od_eq hr.units) (pd_ix (pd_var 1) pd_int) pd_str) (pd_op (od_add false) (pd_sl false (pd_var 1) pdo_none (pdo_some pd_int)) (pd_tup (pda_cons pd_int (pda_cons pd_int pda_nil)))) (pd_var 1))))))
theorem ok_are_channels (T : Tx K mg a fd cl pp) : FnOk P w K mg base CX0 2 (a 23) (fd 23) ["channels", "items"] (spD K mg 2 G_are_channels) :=
  fn_okD (k := 1) T.F_are_channels sc_are_channels fun cdv A outer s H E hr =>
    (pds_one (pds_ret (pd_and (pd_call false (ok_are_integers T) (hr.mono (by decide)) (by rfl) T.g_are_integers T.F_are_integers.kp T.b_are_integers (pda_cons (pd_var 1) pda_nil)) (pd_one (pd_cb (oc_all rfl) (by rfl) T.n_all (by decide +kernel) (pda_cons (pd_lc false (.nm 2) (own := [("item", 2)]) rfl sc_are_channels.nd (pdi_seq (pd_var 1)) (blkOk_by (by rfl)) (by decide) (fun _ _ _ _ _ => (pg_name (i := 2) sc_are_channels.nd rfl (by first | exact Or.inl rfl | exact Or.inr rfl))) (fun _ _ _ _ _ => pdts_nil) (fun _ _ _ _ _ => (pd_chain (od_cmp op_le) (od_cmp op_lt) pd_int (pd_var 2) (pd_var 0)))) pda_nil))))))
theorem ok_apply_step (T : Tx K mg a fd cl pp) : FnOk P w K mg base CX0 2 (a 24) (fd 24) ["step", "vector"] (spD K mg 2 G_apply_step) :=
  fn_okD (k := 1) T.F_apply_step sc_apply_step fun cdv A outer s H E hr =>
    (pds_cons (pds_set 2 (pd_ct (oc_list true) (by rfl) T.n_list (by decide +kernel) (pda_cons (pd_var 1) pda_nil)) sc_apply_step.nd)
    (pds_cons (pds_if (pdt_cmp bo_eq (od_eq hr.units) (pd_ix (pd_var 0) pd_int) pd_str) (pds_cons (pds_asg (pd_var 0) (pgd_tup rfl (pgds_cons (pgd_name 3 sc_apply_step.nd) (pgds_cons (pgd_name 4 sc_apply_step.nd) (pgds_cons (pgd_name 5 sc_apply_step.nd) (pgds_cons (pgd_name 6 sc_apply_step.nd) (pgds_cons (pgd_name 7 sc_apply_step.nd) pgds_nil)))))))
    (pds_one (pds_asg (pd_op (od_add false) (pd_ix (pd_var 2) (pd_var 4)) (pd_op od_div (pd_op (od_add false) (pd_call false (ok_dot T) (hr.mono (by decide)) (by rfl) T.g_dot T.F_dot.kp T.b_dot (pda_cons (pd_var 5) (pda_cons (pd_var 1) pda_nil))) (pd_var 6)) (pd_var 7))) (pgd_sub (pd_var 2) (pd_var 4))))) (pds_one (pds_if (pdt_cmp bo_eq (od_eq hr.units) (pd_ix (pd_var 0) pd_int) pd_str) (pds_cons (pds_asg (pd_var 0) (pgd_tup rfl (pgds_cons (pgd_name 3 sc_apply_step.nd) (pgds_cons (pgd_name 4 sc_apply_step.nd) (pgds_cons (pgd_name 8 sc_apply_step.nd) pgds_nil)))))
    (pds_one (pds_asg (pd_tup (pda_cons (pd_ix (pd_var 2) (pd_var 8)) (pda_cons (pd_ix (pd_var 2) (pd_var 4)) pda_nil))) (pgd_tup rfl (pgds_cons (pgd_sub (pd_var 2) (pd_var 4)) (pgds_cons (pgd_sub (pd_var 2) (pd_var 8)) pgds_nil)))))) (pds_one (pds_asg (pd_neg (pd_ix (pd_var 2) (pd_ix (pd_var 0) pd_int))) (pgd_sub (pd_var 2) (pd_ix (pd_var 0) pd_int)))))))
    (pds_one (pds_ret (pd_ct oc_tup (by rfl) T.n_tuple (by decide +kernel) (pda_cons (pd_var 2) pda_nil))))))
theorem ok_Matrix_init (T : Tx K mg a fd cl pp) : FnOk P w K mg base CX0 2 (a 25) (fd 25) ["self", "rows", "bottom"] (spI K mg "Matrix" 3 G_Matrix_init) :=
  init_okD (k := 1) T.F_Matrix_init sc_Matrix_init (by decide) (by decide) fun cdv A outer s H E hr =>
    (pin_cons (pin_drop (pd_call false (ok_check_matrix T) (hr.mono (by decide)) (by rfl) T.g_check_matrix T.F_check_matrix.kp T.b_check_matrix (pda_cons (pd_var 1) (pda_cons (pd_var 2) pda_nil))))
    (pin_cons (pin_set 2 (pd_call false (ok_common_divisor T) (hr.mono (by decide)) (by rfl) T.g_common_divisor T.F_common_divisor.kp T.b_common_divisor (pda_cons (pd_var 1) (pda_cons (pd_var 2) pda_nil))) sc_Matrix_init.nd)
    (pin_cons (pin_fld (pd_lc false (.nm 4) (own := [("row", 4)]) rfl sc_Matrix_init.nd (pdi_seq (pd_var 1)) (blkOk_by (by rfl)) (by decide) (fun _ _ _ _ _ => (pg_name (i := 4) sc_Matrix_init.nd rfl (by first | exact Or.inl rfl | exact Or.inr rfl))) (fun _ _ _ _ _ => pdts_nil) (fun _ _ _ _ _ => (pd_lc false (.nm 5) (own := [("entry", 5)]) rfl sc_Matrix_init.nd (pdi_seq (pd_var 4)) (blkOk_by (by rfl)) (by decide) (fun _ _ _ _ _ => (pg_name (i := 5) sc_Matrix_init.nd rfl (by first | exact Or.inl rfl | exact Or.inr rfl))) (fun _ _ _ _ _ => pdts_nil) (fun _ _ _ _ _ => (pd_op od_div (pd_var 5) (pd_var 3)))))) T.g_Matrix T.cl_Matrix T.na_Matrix_rows)
    (pin_one (pin_fld (pd_op od_div (pd_var 2) (pd_var 3)) T.g_Matrix T.cl_Matrix T.na_Matrix_bottom)))))
theorem ok_Matrix_image (T : Tx K mg a fd cl pp) : FnOk P w K mg base CX0 2 (a 26) (fd 26) ["self", "vector"] (spD K mg 2 G_Matrix_image) :=
  fn_okD (k := 1) T.F_Matrix_image sc_Matrix_image fun cdv A outer s H E hr =>
    (pds_one (pds_ret (pd_lc true (.nm 2) (own := [("row", 2)]) rfl sc_Matrix_image.nd (pdi_seq (pd_fld (pd_var 0) T.g_Matrix T.cl_Matrix T.na_Matrix_rows)) (blkOk_by (by rfl)) (by decide) (fun _ _ _ _ _ => (pg_name (i := 2) sc_Matrix_image.nd rfl (by first | exact Or.inl rfl | exact Or.inr rfl))) (fun _ _ _ _ _ => pdts_nil) (fun _ _ _ _ _ => (pd_call false (ok_fraction T) (hr.mono (by decide)) (by rfl) T.g_fraction T.F_fraction.kp T.b_fraction (pda_cons (pd_call false (ok_dot T) (hr.mono (by decide)) (by rfl) T.g_dot T.F_dot.kp T.b_dot (pda_cons (pd_var 2) (pda_cons (pd_var 1) pda_nil))) (pda_cons (pd_fld (pd_var 0) T.g_Matrix T.cl_Matrix T.na_Matrix_bottom) pda_nil)))))))
theorem ok_law_divisor (T : Tx K mg a fd cl pp) : FnOk P w K mg base CX0 2 (a 27) (fd 27) ["pool", "room"] (spD K mg 2 G_law_divisor) :=
  fn_okD (k := 1) T.F_law_divisor sc_law_divisor fun cdv A outer s H E hr =>
    (pds_cons (pds_set 2 (pd_op (od_add false) pd_int (pd_call false (ok_law_draw T) (hr.mono (by decide)) (by rfl) T.g_law_draw T.F_law_draw.kp T.b_law_draw (pda_cons (pd_var 0) (pda_cons (pd_cb (oc_min rfl) (by rfl) T.n_min (by decide +kernel) (pda_cons pd_int (pda_cons (pd_ix (pd_var 1) pd_int) pda_nil))) pda_nil)))) sc_law_divisor.nd)
    (pds_cons (pds_asg (pd_op od_div (pd_ix (pd_var 1) pd_int) (pd_var 2)) (pgd_sub (pd_var 1) pd_int))
    (pds_one (pds_ret (pd_var 2)))))
theorem ok_law_weights (T : Tx K mg a fd cl pp) : FnOk P w K mg base CX0 2 (a 28) (fd 28) ["pool", "many", "own"] (spD K mg 3 G_law_weights) :=
  fn_okD (k := 1) T.F_law_weights sc_law_weights fun cdv A outer s H E hr =>
    (pds_cons (pds_set 3 (pd_lst true pda_nil) sc_law_weights.nd)
    (pds_cons (pds_for (.nm 4) (pdi_rg1 (by rfl) T.n_range (pd_var 1)) (pg_name (i := 4) sc_law_weights.nd rfl (by first | exact Or.inl rfl | exact Or.inr rfl)) (pds_one (pds_drop (pd_app (pd_var 3) (pd_ix (pd_lst false (pda_cons pd_int (pda_cons pd_int (pda_cons (pd_neg pd_int) (pda_cons (pd_op od_sub (pd_call false (ok_law_draw T) (hr.mono (by decide)) (by rfl) T.g_law_draw T.F_law_draw.kp T.b_law_draw (pda_cons (pd_var 0) (pda_cons pd_int pda_nil))) pd_int) (pda_cons pd_int (pda_cons (pd_neg pd_int) pda_nil))))))) (pd_call false (ok_law_draw T) (hr.mono (by decide)) (by rfl) T.g_law_draw T.F_law_draw.kp T.b_law_draw (pda_cons (pd_var 0) (pda_cons pd_int pda_nil))))))) PassesOwn.never rfl)
    (pds_cons (pds_asg pd_int (pgd_sub (pd_var 3) (pd_var 2)))
    (pds_one (pds_ret (pd_ct oc_tup (by rfl) T.n_tuple (by decide +kernel) (pda_cons (pd_var 3) pda_nil)))))))
theorem ok_law_more (T : Tx K mg a fd cl pp) : FnOk P w K mg base CX0 2 (a 29) (fd 29) ["pool"] (spD K mg 1 G_law_more) :=
  fn_okD (k := 1) T.F_law_more sc_law_more fun cdv A outer s H E hr =>
    (pds_one (pds_ret (pd_ix (pd_lst false (pda_cons pd_int (pda_cons pd_int (pda_cons (pd_neg pd_int) (pda_cons (pd_op od_sub (pd_call false (ok_law_draw T) (hr.mono (by decide)) (by rfl) T.g_law_draw T.F_law_draw.kp T.b_law_draw (pda_cons (pd_var 0) (pda_cons pd_int pda_nil))) pd_int) (pda_cons pd_int (pda_cons (pd_neg pd_int) pda_nil))))))) (pd_call false (ok_law_draw T) (hr.mono (by decide)) (by rfl) T.g_law_draw T.F_law_draw.kp T.b_law_draw (pda_cons (pd_var 0) (pda_cons pd_int pda_nil))))))
theorem ok_law_plain (T : Tx K mg a fd cl pp) : FnOk P w K mg base CX0 2 (a 30) (fd 30) ["pool", "many"] (spD K mg 2 G_law_plain) :=
  fn_okD (k := 1) T.F_law_plain sc_law_plain fun cdv A outer s H E hr =>
    (pds_cons (pds_if (pdt_cmp bo_eq (od_eq hr.units) (pd_call false (ok_law_draw T) (hr.mono (by decide)) (by rfl) T.g_law_draw T.F_law_draw.kp T.b_law_draw (pda_cons (pd_var 0) (pda_cons pd_int pda_nil))) pd_int) (pds_one (pds_ret (pd_tup (pda_cons pd_str (pda_cons (pd_call false (ok_law_draw T) (hr.mono (by decide)) (by rfl) T.g_law_draw T.F_law_draw.kp T.b_law_draw (pda_cons (pd_var 0) (pda_cons (pd_var 1) pda_nil))) pda_nil))))) pds_nil)
    (pds_cons (pds_set 2 (pd_call false (ok_law_draw T) (hr.mono (by decide)) (by rfl) T.g_law_draw T.F_law_draw.kp T.b_law_draw (pda_cons (pd_var 0) (pda_cons (pd_op od_sub (pd_var 1) pd_int) pda_nil))) sc_law_plain.nd)
    (pds_one (pds_ret (pd_tup (pda_cons pd_str (pda_cons (pd_var 2) (pda_cons (pd_op (od_add false) (pd_op (od_add false) (pd_var 2) pd_int) (pd_call false (ok_law_draw T) (hr.mono (by decide)) (by rfl) T.g_law_draw T.F_law_draw.kp T.b_law_draw (pda_cons (pd_var 0) (pda_cons (pd_op od_sub (pd_op od_sub (pd_var 1) pd_int) (pd_var 2)) pda_nil)))) pda_nil))))))))
theorem ok_law_entry (T : Tx K mg a fd cl pp) : FnOk P w K mg base CX0 2 (a 31) (fd 31) ["pool", "far"] (spD K mg 2 G_law_entry) :=
  fn_okD (k := 1) T.F_law_entry sc_law_entry fun cdv A outer s H E hr =>
    (pds_cons (pds_set 2 (pd_lst false (pda_cons (pd_op od_sub (pd_call false (ok_law_draw T) (hr.mono (by decide)) (by rfl) T.g_law_draw T.F_law_draw.kp T.b_law_draw (pda_cons (pd_var 0) (pda_cons pd_int pda_nil))) pd_int) (pda_cons (pd_op od_sub (pd_call false (ok_law_draw T) (hr.mono (by decide)) (by rfl) T.g_law_draw T.F_law_draw.kp T.b_law_draw (pda_cons (pd_var 0) (pda_cons pd_int pda_nil))) pd_int) (pda_cons (pd_op od_sub (pd_call false (ok_law_draw T) (hr.mono (by decide)) (by rfl) T.g_law_draw T.F_law_draw.kp T.b_law_draw (pda_cons (pd_var 0) (pda_cons (pd_op (od_add false) (pd_op (od_mul false) pd_int (pd_var 1)) pd_int) pda_nil))) (pd_var 1)) pda_nil)))) sc_law_entry.nd)
    (pds_one (pds_ret (pd_ix (pd_lst false (pda_cons (pd_ix (pd_var 2) pd_int) (pda_cons (pd_ix (pd_var 2) pd_int) (pda_cons (pd_ix (pd_var 2) pd_int) (pda_cons (pd_var 1) (pda_cons (pd_op od_sub pd_int (pd_var 1)) pda_nil)))))) (pd_call false (ok_law_draw T) (hr.mono (by decide)) (by rfl) T.g_law_draw T.F_law_draw.kp T.b_law_draw (pda_cons (pd_var 0) (pda_cons pd_int pda_nil)))))))
theorem ok_law_walk (T : Tx K mg a fd cl pp) : FnOk P w K mg base CX0 2 (a 32) (fd 32) ["moves", "place"] (spD K mg 2 G_law_walk) :=
  fn_okD (k := 1) T.F_law_walk sc_law_walk fun cdv A outer s H E hr =>
    (pds_cons (pds_set 2 (pd_lst true (pda_cons (pd_var 1) pda_nil)) sc_law_walk.nd)
    (pds_cons (pds_for (.nm 3) (pdi_seq (pd_var 0)) (pg_name (i := 3) sc_law_walk.nd rfl (by first | exact Or.inl rfl | exact Or.inr rfl)) (pds_one (pds_drop (pd_app (pd_var 2) (pd_call false (ok_law_done T) (hr.mono (by decide)) (by rfl) T.g_law_done T.F_law_done.kp T.b_law_done (pda_cons (pd_var 3) (pda_cons (pd_ix (pd_var 2) (pd_neg pd_int)) pda_nil)))))) PassesOwn.never rfl)
    (pds_one (pds_ret (pd_var 2)))))
theorem ok_is_lift (T : Tx K mg a fd cl pp) : FnOk P w K mg base CX0 3 (a 33) (fd 33) ["channels", "step"] (spD K mg 2 G_is_lift) :=
  fn_okD (k := 2) T.F_is_lift sc_is_lift fun cdv A outer s H E hr =>
    (pds_cons (pds_asg (pd_var 1) (pgd_tup rfl (pgds_cons (pgd_name 2 sc_is_lift.nd) (pgds_cons (pgd_name 3 sc_is_lift.nd) (pgds_cons (pgd_name 4 sc_is_lift.nd) (pgds_cons (pgd_name 5 sc_is_lift.nd) (pgds_cons (pgd_name 6 sc_is_lift.nd) pgds_nil)))))))
    (pds_cons (pds_if (pdt_w (pdw_or (pdt_not (pdt_val (pd_isi (by rfl) T.n_isinstance (by rfl) T.n_tuple (by decide +kernel) (pd_var 4)))) (pdw_or1 (pdt_not (pdt_val (pd_call false (ok_are_integers T) (hr.mono (by decide)) (by rfl) T.g_are_integers T.F_are_integers.kp T.b_are_integers (pda_cons (pd_lst false (pda_star (pd_var 4) (pda_cons (pd_var 5) (pda_cons (pd_var 6) pda_nil)))) pda_nil))))))) (pds_one (pds_ret pd_bl)) pds_nil)
    (pds_cons (pds_if (pdt_w (pdw_or (pdt_cmp bo_eq (od_ne hr.units) (pd_cb (oc_len) (by rfl) T.n_len (by decide +kernel) (pda_cons (pd_var 4) pda_nil)) (pd_var 0)) (pdw_or1 (pdt_not (pdt_val (pd_call false (ok_are_channels T) (hr.mono (by decide)) (by rfl) T.g_are_channels T.F_are_channels.kp T.b_are_channels (pda_cons (pd_var 0) (pda_cons (pd_lst false (pda_cons (pd_var 3) pda_nil)) pda_nil)))))))) (pds_one (pds_ret pd_bl)) pds_nil)
    (pds_one (pds_ret (pd_and (pd_cmp (od_eq hr.units) (pd_ix (pd_var 4) (pd_var 3)) pd_int) (pd_one (pd_cmp (od_cmp op_ge) (pd_var 6) pd_int))))))))
theorem ok_Chain_at (T : Tx K mg a fd cl pp) : FnOk P w K mg base CX0 3 (a 34) (fd 34) ["self", "vector"] (spD K mg 2 G_Chain_at) :=
  fn_okD (k := 2) T.F_Chain_at sc_Chain_at fun cdv A outer s H E hr =>
    (pds_cons (pds_set 2 (pd_ct oc_tup (by rfl) T.n_tuple (by decide +kernel) (pda_cons (pd_var 1) pda_nil)) sc_Chain_at.nd)
    (pds_cons (pds_for (.nm 3) (pdi_seq (pd_fld (pd_var 0) T.g_Chain T.cl_Chain T.na_Chain_steps)) (pg_name (i := 3) sc_Chain_at.nd rfl (by first | exact Or.inl rfl | exact Or.inr rfl)) (pds_one (pds_set 2 (pd_call false (ok_apply_step T) (hr.mono (by decide)) (by rfl) T.g_apply_step T.F_apply_step.kp T.b_apply_step (pda_cons (pd_var 3) (pda_cons (pd_var 2) pda_nil))) sc_Chain_at.nd)) PassesOwn.never rfl)
    (pds_one (pds_ret (pd_var 2)))))
theorem ok_law_lift (T : Tx K mg a fd cl pp) : FnOk P w K mg base CX0 3 (a 35) (fd 35) ["pool", "many", "room"] (spD K mg 3 G_law_lift) :=
  fn_okD (k := 2) T.F_law_lift sc_law_lift fun cdv A outer s H E hr =>
    (pds_cons (pds_set 3 (pd_call false (ok_law_draw T) (hr.mono (by decide)) (by rfl) T.g_law_draw T.F_law_draw.kp T.b_law_draw (pda_cons (pd_var 0) (pda_cons (pd_var 1) pda_nil))) sc_law_lift.nd)
    (pds_cons (pds_par (i := 4) (j := 5) rfl sc_law_lift.nd rfl rfl (by decide) rfl rfl (pda_cons (pd_call false (ok_law_weights T) (hr.mono (by decide)) (by rfl) T.g_law_weights T.F_law_weights.kp T.b_law_weights (pda_cons (pd_var 0) (pda_cons (pd_var 1) (pda_cons (pd_var 3) pda_nil)))) (pda_cons (pd_call false (ok_law_more T) (hr.mono (by decide)) (by rfl) T.g_law_more T.F_law_more.kp T.b_law_more (pda_cons (pd_var 0) pda_nil)) pda_nil)) rfl)
    (pds_one (pds_ret (pd_tup (pda_cons pd_str (pda_cons (pd_var 3) (pda_cons (pd_var 4) (pda_cons (pd_var 5) (pda_cons (pd_call false (ok_law_divisor T) (hr.mono (by decide)) (by rfl) T.g_law_divisor T.F_law_divisor.kp T.b_law_divisor (pda_cons (pd_var 0) (pda_cons (pd_var 2) pda_nil))) pda_nil))))))))))
theorem ok_law_place (T : Tx K mg a fd cl pp) : FnOk P w K mg base CX0 3 (a 36) (fd 36) ["pool", "many", "far"] (spD K mg 3 G_law_place) :=
  fn_okD (k := 2) T.F_law_place sc_law_place fun cdv A outer s H E hr =>
    (pds_one (pds_ret (pd_ct oc_tup (by rfl) T.n_tuple (by decide +kernel) (pda_cons (pd_lc false (.nm 3) (own := [("spot", 3)]) rfl sc_law_place.nd (pdi_rg1 (by rfl) T.n_range (pd_var 1)) (blkOk_by (by rfl)) (by decide) (fun _ _ _ _ _ => (pg_name (i := 3) sc_law_place.nd rfl (by first | exact Or.inl rfl | exact Or.inr rfl))) (fun _ _ _ _ _ => pdts_nil) (fun _ _ _ _ _ => (pd_call false (ok_law_entry T) (hr.mono (by decide)) (by rfl) T.g_law_entry T.F_law_entry.kp T.b_law_entry (pda_cons (pd_var 0) (pda_cons (pd_var 2) pda_nil))))) pda_nil))))
theorem ok_law_end (T : Tx K mg a fd cl pp) : FnOk P w K mg base CX0 3 (a 37) (fd 37) ["moves", "place"] (spD K mg 2 G_law_end) :=
  fn_okD (k := 2) T.F_law_end sc_law_end fun cdv A outer s H E hr =>
    (pds_one (pds_ret (pd_ix (pd_call false (ok_law_walk T) (hr.mono (by decide)) (by rfl) T.g_law_walk T.F_law_walk.kp T.b_law_walk (pda_cons (pd_var 0) (pda_cons (pd_var 1) pda_nil))) (pd_neg pd_int))))
theorem ok_is_step (T : Tx K mg a fd cl pp) : FnOk P w K mg base CX0 4 (a 38) (fd 38) ["channels", "step"] (spD K mg 2 G_is_step) :=
  fn_okD (k := 3) T.F_is_step sc_is_step fun cdv A outer s H E hr =>
    (pds_cons (pds_if (pdt_cmp bo_eq (od_eq hr.units) (pd_cb (oc_len) (by rfl) T.n_len (by decide +kernel) (pda_cons (pd_var 1) pda_nil)) pd_int) (pds_one (pds_ret (pd_and (pd_cmp (od_eq hr.units) (pd_ix (pd_var 1) pd_int) pd_str) (pd_one (pd_call false (ok_is_lift T) (hr.mono (by decide)) (by rfl) T.g_is_lift T.F_is_lift.kp T.b_is_lift (pda_cons (pd_var 0) (pda_cons (pd_var 1) pda_nil))))))) pds_nil)
    (pds_cons (pds_if (pdt_cmp bo_eq (od_eq hr.units) (pd_cb (oc_len) (by rfl) T.n_len (by decide +kernel) (pda_cons (pd_var 1) pda_nil)) pd_int) (pds_one (pds_ret (pd_and (pd_cmp (od_eq hr.units) (pd_ix (pd_var 1) pd_int) pd_str) (pd_and (pd_call false (ok_are_channels T) (hr.mono (by decide)) (by rfl) T.g_are_channels T.F_are_channels.kp T.b_are_channels (pda_cons (pd_var 0) (pda_cons (pd_sl false (pd_var 1) (pdo_some pd_int) pdo_none) pda_nil))) (pd_one (pd_cmp (od_cmp op_lt) (pd_ix (pd_var 1) pd_int) (pd_ix (pd_var 1) pd_int))))))) pds_nil)
    (pds_one (pds_ret (pd_and (pd_cmp (od_eq hr.units) (pd_cb (oc_len) (by rfl) T.n_len (by decide +kernel) (pda_cons (pd_var 1) pda_nil)) pd_int) (pd_and (pd_cmp (od_eq hr.units) (pd_ix (pd_var 1) pd_int) pd_str) (pd_one (pd_call false (ok_are_channels T) (hr.mono (by decide)) (by rfl) T.g_are_channels T.F_are_channels.kp T.b_are_channels (pda_cons (pd_var 0) (pda_cons (pd_sl false (pd_var 1) (pdo_some pd_int) pdo_none) pda_nil))))))))))
theorem ok_linear_part (T : Tx K mg a fd cl pp) : FnOk P w K mg base CX0 4 (a 39) (fd 39) ["chain"] (spD K mg 1 G_linear_part) :=
  fn_okD (k := 3) T.F_linear_part sc_linear_part fun cdv A outer s H E hr =>
    (pds_cons (pds_set 1 (pd_meth0 false (pd_var 0) T.g_Chain T.cl_Chain T.me_Chain_grid (ok_Chain_grid T) (hr.mono (by decide)) T.b_Chain_grid) sc_linear_part.nd)
    (pds_cons (pds_setLc false (.nm 4) (own := [("unit", 4)]) rfl sc_linear_part.nd (pdi_seq (pd_call false (ok_unit_basis T) (hr.mono (by decide)) (by rfl) T.g_unit_basis T.F_unit_basis.kp T.b_unit_basis (pda_cons (pd_prop false (pd_var 0) T.g_Chain T.cl_Chain T.pr_Chain_channels (ok_Chain_channels T) (hr.mono (by decide)) T.b_Chain_channels) pda_nil))) (blkOk_by (by rfl)) (by decide) (fun _ _ _ _ _ => (pg_name (i := 4) sc_linear_part.nd rfl (by first | exact Or.inl rfl | exact Or.inr rfl))) (fun _ _ _ _ _ => pdts_nil) (fun _ _ _ _ _ => (pd_call false (ok_multiple T) (hr.mono (by decide)) (by rfl) T.g_multiple T.F_multiple.kp T.b_multiple (pda_cons (pd_var 1) (pda_cons (pd_var 4) pda_nil)))) rfl rfl (sw_true rfl rfl rfl (by decide +kernel)))
    (pds_cons (pds_for (.nm 3) (pdi_seq (pd_prop false (pd_var 0) T.g_Chain T.cl_Chain T.pr_Chain_steps (ok_Chain_steps T) (hr.mono (by decide)) T.b_Chain_steps)) (pg_name (i := 3) sc_linear_part.nd rfl (by first | exact Or.inl rfl | exact Or.inr rfl)) (pds_one (pds_setLc false (.nm 5) (own := [("image", 5)]) rfl sc_linear_part.nd (pdi_seq (pd_var 2)) (blkOk_by (by rfl)) (by decide) (fun _ _ _ _ _ => (pg_name (i := 5) sc_linear_part.nd rfl (by first | exact Or.inl rfl | exact Or.inr rfl))) (fun _ _ _ _ _ => pdts_nil) (fun _ _ _ _ _ => (pd_call false (ok_apply_step T) (hr.mono (by decide)) (by rfl) T.g_apply_step T.F_apply_step.kp T.b_apply_step (pda_cons (pd_call false (ok_plain_step T) (hr.mono (by decide)) (by rfl) T.g_plain_step T.F_plain_step.kp T.b_plain_step (pda_cons (pd_var 3) pda_nil)) (pda_cons (pd_var 5) pda_nil)))) rfl rfl (sw_true rfl rfl rfl (by decide +kernel)))) PassesOwn.never rfl)
    (pds_one (pds_ret (pd_make T.mk_Matrix (ok_Matrix_init T) (hr.mono (by decide)) (by rfl) T.g_Matrix T.b_Matrix_init (pda_cons (pd_lc false (.nm 6) (own := [("row", 6)]) rfl sc_linear_part.nd (pdi_zipN (by rfl) T.n_zip (pd_var 2)) (blkOk_by (by rfl)) (by decide) (fun _ _ _ _ _ => (pg_name (i := 6) sc_linear_part.nd rfl (by first | exact Or.inl rfl | exact Or.inr rfl))) (fun _ _ _ _ _ => pdts_nil) (fun _ _ _ _ _ => (pd_ct (oc_list false) (by rfl) T.n_list (by decide +kernel) (pda_cons (pd_var 6) pda_nil)))) (pda_cons (pd_var 1) pda_nil))))))))
theorem ok_law_moves (T : Tx K mg a fd cl pp) : FnOk P w K mg base CX0 4 (a 40) (fd 40) ["pool", "many", "most", "product"] (spD K mg 4 G_law_moves) :=
  fn_okD (k := 3) T.F_law_moves sc_law_moves fun cdv A outer s H E hr =>
    (pds_cons (pds_par (i := 4) (j := 5) rfl sc_law_moves.nd rfl rfl (by decide) rfl rfl (pda_cons (pd_lst true (pda_cons (pd_var 3) pda_nil)) (pda_cons (pd_lst true pda_nil) pda_nil)) rfl)
    (pds_cons (pds_for (.nm 6) (pdi_rg1 (by rfl) T.n_range (pd_call false (ok_law_draw T) (hr.mono (by decide)) (by rfl) T.g_law_draw T.F_law_draw.kp T.b_law_draw (pda_cons (pd_var 0) (pda_cons (pd_op (od_add false) (pd_var 2) pd_int) pda_nil)))) (pg_name (i := 6) sc_law_moves.nd rfl (by first | exact Or.inl rfl | exact Or.inr rfl)) (pds_cons (pds_par (i := 7) (j := 8) rfl sc_law_moves.nd rfl rfl (by decide) rfl rfl (pda_cons (pd_call false (ok_law_draw T) (hr.mono (by decide)) (by rfl) T.g_law_draw T.F_law_draw.kp T.b_law_draw (pda_cons (pd_var 0) (pda_cons pd_int pda_nil))) (pda_cons pd_non pda_nil)) rfl)
    (pds_cons (pds_if (pdt_w (pdw_and (pdt_cmp bo_eq (od_ne hr.units) (pd_var 5) (pd_lst false pda_nil)) (pdw_and1 (pdt_cmp bo_cmp (od_cmp op_gt) (pd_var 7) pd_int)))) (pds_cons (pds_set 8 (pd_ix (pd_lst false (pda_cons (pd_ix (pd_var 5) (pd_neg pd_int)) (pda_cons (pd_call false (ok_law_back T) (hr.mono (by decide)) (by rfl) T.g_law_back T.F_law_back.kp T.b_law_back (pda_cons (pd_ix (pd_var 5) (pd_neg pd_int)) pda_nil)) pda_nil))) (pd_op od_sub (pd_var 7) pd_int)) sc_law_moves.nd)
    (pds_one (pds_if (pdt_w (pdw_and (pdt_cmp bo_eq (od_eq hr.units) (pd_ix (pd_var 8) pd_int) pd_str) (pdw_and1 (pdt_w (pdw_or (pdt_cmp bo_cmp (od_cmp op_gt) (pd_ix (pd_var 8) pd_int) (pd_ix (pd_var 4) pd_int)) (pdw_or1 (pdt_cmp bo_cmp (od_cmp op_gt) (pd_cb (oc_abs) (by rfl) T.n_abs (by decide +kernel) (pda_cons (pd_ix (pd_var 8) pd_int) pda_nil)) pd_int))))))) (pds_one (pds_set 8 pd_non sc_law_moves.nd)) (pds_one (pds_if (pdt_cmp bo_eq (od_eq hr.units) (pd_ix (pd_var 8) pd_int) pd_str) (pds_one (pds_asg (pd_op od_div (pd_ix (pd_var 4) pd_int) (pd_ix (pd_var 8) pd_int)) (pgd_sub (pd_var 4) pd_int))) pds_nil))))) pds_nil)
    (pds_cons (pds_if (pdt_cmp bo_isN od_isN (pd_var 8) pd_non) (pds_one (pds_set 8 (pd_if (pdt_cmp bo_cmp (od_cmp op_gt) (pd_var 7) pd_int) (pd_call false (ok_law_lift T) (hr.mono (by decide)) (by rfl) T.g_law_lift T.F_law_lift.kp T.b_law_lift (pda_cons (pd_var 0) (pda_cons (pd_var 1) (pda_cons (pd_var 4) pda_nil)))) (pd_call false (ok_law_plain T) (hr.mono (by decide)) (by rfl) T.g_law_plain T.F_law_plain.kp T.b_law_plain (pda_cons (pd_var 0) (pda_cons (pd_var 1) pda_nil)))) sc_law_moves.nd)) pds_nil)
    (pds_one (pds_drop (pd_app (pd_var 5) (pd_var 8))))))) PassesOwn.never rfl)
    (pds_one (pds_ret (pd_var 5)))))
theorem ok_check_chain (T : Tx K mg a fd cl pp) : FnOk P w K mg base CX0 5 (a 41) (fd 41) ["channels", "steps"] (spD K mg 2 G_check_chain) :=
  fn_okD (k := 4) T.F_check_chain sc_check_chain fun cdv A outer s H E hr =>
    (pds_cons (pds_if (pdt_cmp bo_in od_notIn (pd_var 0) (pd_tup (pda_cons pd_int (pda_cons pd_int pda_nil)))) (pds_one pds_never) pds_nil)
    (pds_one (pds_for (.tp [2, 3]) (pdi_enum (by rfl) T.n_enumerate (pd_var 1)) (pg_tup rfl (pgs_cons (pg_name (i := 2) sc_check_chain.nd rfl (by first | exact Or.inl rfl | exact Or.inr rfl)) (pgs_cons (pg_name (i := 3) sc_check_chain.nd rfl (by first | exact Or.inl rfl | exact Or.inr rfl)) pgs_nil))) (pds_one (pds_if (pdt_not (pdt_val (pd_call false (ok_is_step T) (hr.mono (by decide)) (by rfl) T.g_is_step T.F_is_step.kp T.b_is_step (pda_cons (pd_var 0) (pda_cons (pd_var 3) pda_nil))))) (pds_one pds_never) pds_nil)) PassesOwn.never rfl)))
theorem ok_Chain_init (T : Tx K mg a fd cl pp) : FnOk P w K mg base CX0 6 (a 42) (fd 42) ["self", "channels", "steps"] (spI K mg "Chain" 3 G_Chain_init) :=
  init_okD (k := 5) T.F_Chain_init sc_Chain_init (by decide) (by decide) fun cdv A outer s H E hr =>
    (pin_cons (pin_drop (pd_call false (ok_check_chain T) (hr.mono (by decide)) (by rfl) T.g_check_chain T.F_check_chain.kp T.b_check_chain (pda_cons (pd_var 1) (pda_cons (pd_var 2) pda_nil))))
    (pin_cons (pin_fld (pd_var 1) T.g_Chain T.cl_Chain T.na_Chain_channels)
    (pin_one (pin_fld (pd_ct (oc_list false) (by rfl) T.n_list (by decide +kernel) (pda_cons (pd_var 2) pda_nil)) T.g_Chain T.cl_Chain T.na_Chain_steps))))
theorem ok_law_right (T : Tx K mg a fd cl pp) : FnOk P w K mg base CX0 8 (a 43) (fd 43) ["pool", "many"] (spD K mg 2 G_law_right) :=
  fn_okD (k := 7) T.F_law_right sc_law_right fun cdv A outer s H E hr =>
    (pds_cons (pds_set 2 (pd_call false (ok_law_moves T) (hr.mono (by decide)) (by rfl) T.g_law_moves T.F_law_moves.kp T.b_law_moves (pda_cons (pd_var 0) (pda_cons (pd_var 1) (pda_cons pd_int (pda_cons (pd_ix (pd_lst false (pda_cons pd_int (pda_cons pd_int pda_nil))) (pd_op od_sub (pd_var 1) pd_int)) pda_nil))))) sc_law_right.nd)
    (pds_cons (pds_asg (pd_tup (pda_cons (pd_make T.mk_Chain (ok_Chain_init T) (hr.mono (by decide)) (by rfl) T.g_Chain T.b_Chain_init (pda_cons (pd_var 1) (pda_cons (pd_var 2) pda_nil))) (pda_cons (pd_call false (ok_law_whole T) (hr.mono (by decide)) (by rfl) T.g_law_whole T.F_law_whole.kp T.b_law_whole (pda_cons (pd_var 2) pda_nil)) pda_nil))) (pgd_tup rfl (pgds_cons (pgd_name 3 sc_law_right.nd) (pgds_cons (pgd_name 4 sc_law_right.nd) pgds_nil))))
    (pds_cons (pds_asg (pd_call false (ok_law_linear T) (hr.mono (by decide)) (by rfl) T.g_law_linear T.F_law_linear.kp T.b_law_linear (pda_cons (pd_var 2) (pda_cons (pd_var 1) pda_nil))) (pgd_unl rfl (pgds_cons (pgd_name 5 sc_law_right.nd) (pgds_cons (pgd_name 6 sc_law_right.nd) pgds_nil))))
    (pds_cons (pds_set 7 (pd_callK0 false (ok_linear_part T) (hr.mono (by decide)) (by rfl) T.g_linear_part T.F_linear_part.kp T.kd_linear_part_0_chain (by rfl) (pdk_cons (pd_var 3) pdk_nil)) sc_law_right.nd)
    (pds_cons (pds_if (pdt_w (pdw_or (pdt_not (pdt_cmp bo_eqI (od_eqI T.g_Matrix (ok_Matrix_eq T) (hr.mono (by decide)) T.fi_Matrix_eq T.fn_Matrix_eq T.b_Matrix_eq) (pd_var 7) (pd_make T.mk_Matrix (ok_Matrix_init T) (hr.mono (by decide)) (by rfl) T.g_Matrix T.b_Matrix_init (pda_cons (pd_var 5) (pda_cons (pd_var 6) pda_nil))))) (pdw_or (pdt_cmp bo_eq (od_ne hr.units) (pd_prop false (pd_var 7) T.g_Matrix T.cl_Matrix T.pr_Matrix_rows (ok_Matrix_rows T) (hr.mono (by decide)) T.b_Matrix_rows) (pd_prop false (pd_call false (ok_linear_part T) (hr.mono (by decide)) (by rfl) T.g_linear_part T.F_linear_part.kp T.b_linear_part (pda_cons (pd_var 3) pda_nil)) T.g_Matrix T.cl_Matrix T.pr_Matrix_rows (ok_Matrix_rows T) (hr.mono (by decide)) T.b_Matrix_rows)) (pdw_or1 (pdt_cmp bo_eq (od_ne hr.units) (pd_lenI (by rfl) T.n_len T.g_Matrix (ok_Matrix_len T) (hr.mono (by decide)) T.fi_Matrix_len T.fn_Matrix_len T.b_Matrix_len (pd_var 7)) (pd_var 1)))))) (pds_one (pds_ret pd_bl)) pds_nil)
    (pds_cons (pds_for (.nm 8) (pdi_tup (pd_tup (pda_cons pd_int (pda_cons (pd_op od_pow pd_int pd_int) (pda_cons (pd_op od_pow pd_int pd_int) pda_nil))))) (pg_name (i := 8) sc_law_right.nd rfl (by first | exact Or.inl rfl | exact Or.inr rfl)) (pds_cons (pds_par (i := 11) (j := 13) rfl sc_law_right.nd rfl rfl (by decide) rfl rfl (pda_cons (pd_call false (ok_law_place T) (hr.mono (by decide)) (by rfl) T.g_law_place T.F_law_place.kp T.b_law_place (pda_cons (pd_var 0) (pda_cons (pd_var 1) (pda_cons (pd_var 8) pda_nil)))) (pda_cons (pd_call false (ok_law_place T) (hr.mono (by decide)) (by rfl) T.g_law_place T.F_law_place.kp T.b_law_place (pda_cons (pd_var 0) (pda_cons (pd_var 1) (pda_cons (pd_var 8) pda_nil)))) pda_nil)) rfl)
    (pds_cons (pds_set 14 (pd_call false (ok_law_plus T) (hr.mono (by decide)) (by rfl) T.g_law_plus T.F_law_plus.kp T.b_law_plus (pda_cons (pd_var 11) (pda_cons (pd_ct oc_tup (by rfl) T.n_tuple (by decide +kernel) (pda_cons (pd_lc false (.nm 18) (own := [("entry", 18)]) rfl sc_law_right.nd (pdi_seq (pd_var 13)) (blkOk_by (by rfl)) (by decide) (fun _ _ _ _ _ => (pg_name (i := 18) sc_law_right.nd rfl (by first | exact Or.inl rfl | exact Or.inr rfl))) (fun _ _ _ _ _ => pdts_nil) (fun _ _ _ _ _ => (pd_op (od_mul false) (pd_var 4) (pd_var 18)))) pda_nil)) pda_nil))) sc_law_right.nd)
    (pds_cons (pds_set 15 (pd_lst true pda_nil) sc_law_right.nd)
    (pds_cons (pds_for (.tp [16, 17]) (pdi_seq (pd_meth false (pd_var 7) T.g_Matrix T.cl_Matrix T.me_Matrix_image (ok_Matrix_image T) (hr.mono (by decide)) T.b_Matrix_image (pda_cons (pd_var 13) pda_nil))) (pg_tup rfl (pgs_cons (pg_name (i := 16) sc_law_right.nd rfl (by first | exact Or.inl rfl | exact Or.inr rfl)) (pgs_cons (pg_name (i := 17) sc_law_right.nd rfl (by first | exact Or.inl rfl | exact Or.inr rfl)) pgs_nil))) (pds_cons (pds_if (pdt_cmp bo_eq (od_ne hr.units) (pd_op od_mod (pd_ct oc_int (by rfl) T.n_int (by decide +kernel) (pda_cons (pd_var 4) pda_nil)) (pd_var 17)) pd_int) (pds_one (pds_ret pd_bl)) pds_nil)
    (pds_one (pds_drop (pd_app (pd_var 15) (pd_op (od_mul false) (pd_var 16) (pd_op od_div (pd_var 4) (pd_var 17))))))) PassesOwn.never rfl)
    (pds_one (pds_if (pdt_cmp bo_eq (od_ne hr.units) (pd_meth false (pd_var 3) T.g_Chain T.cl_Chain T.me_Chain_at (ok_Chain_at T) (hr.mono (by decide)) T.b_Chain_at (pda_cons (pd_var 14) pda_nil)) (pd_call false (ok_law_plus T) (hr.mono (by decide)) (by rfl) T.g_law_plus T.F_law_plus.kp T.b_law_plus (pda_cons (pd_meth false (pd_var 3) T.g_Chain T.cl_Chain T.me_Chain_at (ok_Chain_at T) (hr.mono (by decide)) T.b_Chain_at (pda_cons (pd_var 11) pda_nil)) (pda_cons (pd_var 15) pda_nil)))) (pds_one (pds_ret pd_bl)) pds_nil)))))) PassesOwn.never rfl)
    (pds_cons (pds_set 9 (pd_call false (ok_law_plainly T) (hr.mono (by decide)) (by rfl) T.g_law_plainly T.F_law_plainly.kp T.b_law_plainly (pda_cons (pd_var 2) pda_nil)) sc_law_right.nd)
    (pds_cons (pds_par (i := 10) (j := 11) rfl sc_law_right.nd rfl rfl (by decide) rfl rfl (pda_cons (pd_call false (ok_linear_part T) (hr.mono (by decide)) (by rfl) T.g_linear_part T.F_linear_part.kp T.b_linear_part (pda_cons (pd_make T.mk_Chain (ok_Chain_init T) (hr.mono (by decide)) (by rfl) T.g_Chain T.b_Chain_init (pda_cons (pd_var 1) (pda_cons (pd_var 9) pda_nil))) pda_nil)) (pda_cons (pd_call false (ok_law_place T) (hr.mono (by decide)) (by rfl) T.g_law_place T.F_law_place.kp T.b_law_place (pda_cons (pd_var 0) (pda_cons (pd_var 1) (pda_cons (pd_op od_pow pd_int pd_int) pda_nil)))) pda_nil)) rfl)
    (pds_cons (pds_setLc false (.nm 18) (own := [("entry", 18)]) rfl sc_law_right.nd (pdi_seq (pd_call false (ok_law_end T) (hr.mono (by decide)) (by rfl) T.g_law_end T.F_law_end.kp T.b_law_end (pda_cons (pd_var 9) (pda_cons (pd_var 11) pda_nil)))) (blkOk_by (by rfl)) (by decide) (fun _ _ _ _ _ => (pg_name (i := 18) sc_law_right.nd rfl (by first | exact Or.inl rfl | exact Or.inr rfl))) (fun _ _ _ _ _ => pdts_nil) (fun _ _ _ _ _ => (pd_tup (pda_cons (pd_var 18) (pda_cons pd_int pda_nil)))) rfl rfl (sw_true rfl rfl rfl (by decide +kernel)))
    (pds_cons (pds_if (pdt_w (pdw_or (pdt_cmp bo_eq (od_ne hr.units) (pd_prop false (pd_var 10) T.g_Matrix T.cl_Matrix T.pr_Matrix_bottom (ok_Matrix_bottom T) (hr.mono (by decide)) T.b_Matrix_bottom) pd_int) (pdw_or1 (pdt_cmp bo_eq (od_ne hr.units) (pd_meth false (pd_var 10) T.g_Matrix T.cl_Matrix T.me_Matrix_image (ok_Matrix_image T) (hr.mono (by decide)) T.b_Matrix_image (pda_cons (pd_var 11) pda_nil)) (pd_var 12))))) (pds_one (pds_ret pd_bl)) pds_nil)
    (pds_one (pds_ret (pd_cmp (od_eq hr.units) (pd_prop false (pd_var 3) T.g_Chain T.cl_Chain T.pr_Chain_steps (ok_Chain_steps T) (hr.mono (by decide)) T.b_Chain_steps) (pd_var 2))))))))))))))
theorem ok_law (T : Tx K mg a fd cl pp) : FnOk P w K mg base CX0 9 (a 44) (fd 44) ["script"] (spD K mg 1 G_law) :=
  fn_okD (k := 8) T.F_law sc_law fun cdv A outer s H E hr =>
    (pds_cons (pds_for (.nm 1) (pdi_rg1 (by rfl) T.n_range (pd_cb (oc_max rfl) (by rfl) T.n_max (by decide +kernel) (pda_cons pd_int (pda_cons (pd_cb (oc_min rfl) (by rfl) T.n_min (by decide +kernel) (pda_cons pd_int (pda_cons (pd_cb (oc_len) (by rfl) T.n_len (by decide +kernel) (pda_cons (pd_var 0) pda_nil)) pda_nil))) pda_nil)))) (pg_name (i := 1) sc_law.nd rfl (by first | exact Or.inl rfl | exact Or.inr rfl)) (pds_cons (pds_set 2 (pd_call true (ok_law_pool T) (hr.mono (by decide)) (by rfl) T.g_law_pool T.F_law_pool.kp T.b_law_pool (pda_cons (pd_var 0) (pda_cons (pd_var 1) pda_nil))) sc_law.nd)
    (pds_one (pds_for (.nm 3) (pdi_tup (pd_tup (pda_cons pd_int (pda_cons pd_int (pda_cons pd_int pda_nil))))) (pg_name (i := 3) sc_law.nd rfl (by first | exact Or.inl rfl | exact Or.inr rfl)) (pds_one (pds_if (pdt_not (pdt_val (pd_call false (ok_law_right T) (hr.mono (by decide)) (by rfl) T.g_law_right T.F_law_right.kp T.b_law_right (pda_cons (pd_var 2) (pda_cons (pd_var 3) pda_nil))))) (pds_one (pds_ret pd_bl)) pds_nil)) PassesOwn.never rfl))) PassesOwn.never rfl)
    (pds_one (pds_ret pd_bl)))
end
end K12

set_option maxHeartbeats 0
namespace K12
open PySem L2 PK

theorem g_dot2 (a b c d : Int) (h : okMul a c = true) (h' : okMul b d = true) : G_dot [.fz (.tup [.int a, .int b]), .fz (.tup [.int c, .int d])] [] = some (.val (.int (a * c + (b * d))), []) := by
  unfold G_dot f_dot
  simp [fnD, sSeq, sSet, sDrop, sRet, sRetN, sIf, sAsg, sPar, sFor, forD, dC, dVar, dOp, der, ders, frz, frzs, dTup, dLst, aNil, aCons, aStar, PK.mk, dCB, PK.g1, PK.g2, lenD, absD, maxD, minD, PK.intD, listD, tupD, sumD, allD, intsD, bls, addD, subD, mulD, divD, modD, powD, cmpD, ixD, atI, ixN, dUn, negD, dB, truD, bNot, bAnd, bOr, bYes, dAndV, dOrV, dNotV, dChain, dFld, recvOk, dIsi, tyD, kitB, dCallN, callG, refs, renum, lives, PK.putAll, hNm, hSub, hNil, hCons, hTup, setIx, asgT, setAll, dMt, appD, extD, dLc, lcGo, wipeD, iSq, iRg1, iRg2, iZipD, iEnumD, iRevD, srcOf, rangeD, zipD, small, itemsD, List.range, List.range.loop, eqD_int, dSl, dRev, slD, cutD, okR, iZipXD, h, h']
theorem g_dot3 (a b e c d f : Int) (h : okMul a c = true) (h' : okMul b d = true) (h2 : okMul e f = true) : G_dot [.fz (.tup [.int a, .int b, .int e]), .fz (.tup [.int c, .int d, .int f])] [] = some (.val (.int (a * c + (b * d + e * f))), []) := by
  unfold G_dot f_dot
  simp [fnD, sSeq, sSet, sDrop, sRet, sRetN, sIf, sAsg, sPar, sFor, forD, dC, dVar, dOp, der, ders, frz, frzs, dTup, dLst, aNil, aCons, aStar, PK.mk, dCB, PK.g1, PK.g2, lenD, absD, maxD, minD, PK.intD, listD, tupD, sumD, allD, intsD, bls, addD, subD, mulD, divD, modD, powD, cmpD, ixD, atI, ixN, dUn, negD, dB, truD, bNot, bAnd, bOr, bYes, dAndV, dOrV, dNotV, dChain, dFld, recvOk, dIsi, tyD, kitB, dCallN, callG, refs, renum, lives, PK.putAll, hNm, hSub, hNil, hCons, hTup, setIx, asgT, setAll, dMt, appD, extD, dLc, lcGo, wipeD, iSq, iRg1, iRg2, iZipD, iEnumD, iRevD, srcOf, rangeD, zipD, small, itemsD, List.range, List.range.loop, eqD_int, dSl, dRev, slD, cutD, okR, iZipXD, h, h', h2]

/-! ### steps -/
inductive S where
  | lift (c : Nat) (ws : List Int) (m d : Int) | swap (i j : Nat) | turn (i : Nat)
def tupI (v : List Int) : D := .tup (v.map D.int)
def enc : S → D
  | .lift c ws m d => .tup [.str "lift", .int c, tupI ws, .int m, .int d]
  | .swap i j => .tup [.str "swap", .int i, .int j]
  | .turn i => .tup [.str "turn", .int i]
def dotI : List Int → List Int → Int
  | w :: ws, v :: vs => w * v + dotI ws vs
  | _, _ => 0
def go : S → List Int → List Int
  | .lift c ws m d, v => v.set c (v.getD c 0 + (dotI ws v + m) / d)
  | .swap i j, v => (v.set i (v.getD j 0)).set j (v.getD i 0)
  | .turn i, v => v.set i (-(v.getD i 0))
def back : S → S
  | .lift c ws m d => .lift c (ws.map fun w => -w) (d - 1 - m) d
  | s => s
/-- a step of n channels -/
def Ok (n : Nat) : S → Prop
  | .lift c ws m d => c < n ∧ ws.length = n ∧ ws.getD c 0 = 0 ∧ (∀ w ∈ ws, -6 ≤ w ∧ w ≤ 6) ∧ -40 ≤ m ∧ m ≤ 40 ∧ 1 ≤ d ∧ d ≤ 12
  | .swap i j => i < j ∧ j < n
  | .turn i => i < n
theorem sl1 : ((("lift" : Str) == ("lift" : Str)) = true) := by decide +kernel
theorem sl2 : ((("swap" : Str) == ("lift" : Str)) = false) := by decide +kernel
theorem sl3 : ((("turn" : Str) == ("lift" : Str)) = false) := by decide +kernel
theorem sl4 : ((("swap" : Str) == ("swap" : Str)) = true) := by decide +kernel
theorem sl5 : ((("turn" : Str) == ("swap" : Str)) = false) := by decide +kernel
theorem sl6 : ((("turn" : Str) == ("turn" : Str)) = true) := by decide +kernel
theorem sl7 : ((("lift" : Str) == ("swap" : Str)) = false) := by decide +kernel
theorem sl8 : ((("lift" : Str) == ("turn" : Str)) = false) := by decide +kernel
theorem okL : PyData.strOk "lift" = true := by decide +kernel
theorem okS : PyData.strOk "swap" = true := by decide +kernel
theorem okT : PyData.strOk "turn" = true := by decide +kernel
section
variable {neg : Bool} {δ : Dl}
theorem q1 : eqD neg δ (.str "lift") (.str "lift") = some (.fz (.bl (!neg)), δ) := by rw [eqD_str okL okL, sl1]; cases neg <;> rfl
theorem q2 : eqD neg δ (.str "swap") (.str "lift") = some (.fz (.bl neg), δ) := by rw [eqD_str okS okL, sl2]; cases neg <;> rfl
theorem q3 : eqD neg δ (.str "turn") (.str "lift") = some (.fz (.bl neg), δ) := by rw [eqD_str okT okL, sl3]; cases neg <;> rfl
theorem q4 : eqD neg δ (.str "swap") (.str "swap") = some (.fz (.bl (!neg)), δ) := by rw [eqD_str okS okS, sl4]; cases neg <;> rfl
theorem q5 : eqD neg δ (.str "turn") (.str "swap") = some (.fz (.bl neg), δ) := by rw [eqD_str okT okS, sl5]; cases neg <;> rfl
theorem q6 : eqD neg δ (.str "turn") (.str "turn") = some (.fz (.bl (!neg)), δ) := by rw [eqD_str okT okT, sl6]; cases neg <;> rfl
theorem q7 : eqD neg δ (.str "lift") (.str "swap") = some (.fz (.bl neg), δ) := by rw [eqD_str okL okS, sl7]; cases neg <;> rfl
theorem q8 : eqD neg δ (.str "lift") (.str "turn") = some (.fz (.bl neg), δ) := by rw [eqD_str okL okT, sl8]; cases neg <;> rfl
end
def Bd (n : Nat) (v : List Int) : Prop := ∀ x ∈ v, x.natAbs < 2 ^ n
theorem okMul_of {i j : Int} {n : Nat} (hi : -6 ≤ i ∧ i ≤ 6) (hj : j.natAbs < 2 ^ n) (hn : n ≤ 1000) : okMul i j = true := by
  unfold okMul
  have h1 : i.natAbs.log2 ≤ i.natAbs := Nat.log2_le_self _
  have h2 : j.natAbs.log2 ≤ n := by
    rcases Nat.eq_zero_or_pos j.natAbs with h | h
    · rw [h]; simp
    · exact Nat.le_of_lt ((Nat.log2_lt (by omega)).mpr hj)
  have h3 : i.natAbs ≤ 6 := by omega
  exact decide_eq_true (by omega)
theorem okDiv_of {d : Int} (h1 : 1 ≤ d) (h2 : d < 2 ^ 200) : okDiv d = true := by
  unfold okDiv
  have h3 : d.natAbs.log2 < 200 := (Nat.log2_lt (by omega)).mpr (by omega)
  exact decide_eq_true ⟨by omega, by omega⟩
theorem nat2 {n : Nat} (h : n < 2) : n = 0 ∨ n = 1 := by omega
theorem nat3 {n : Nat} (h : n < 3) : n = 0 ∨ n = 1 ∨ n = 2 := by omega
theorem len2 {v : List Int} (h : v.length = 2) : ∃ a b, v = [a, b] := by
  match v, h with
  | [a, b], _ => exact ⟨a, b, rfl⟩
theorem len3 {v : List Int} (h : v.length = 3) : ∃ a b c, v = [a, b, c] := by
  match v, h with
  | [a, b, c], _ => exact ⟨a, b, c, rfl⟩
/-- by cases: the channels, and all entries -/
theorem ok_cases {n : Nat} (hn : n = 2 ∨ n = 3) {v : List Int} (hv : v.length = n) {s : S} (h : Ok n s) {P : Nat → List Int → S → Prop}
    (a1 : ∀ x y w m d, (-6 ≤ w ∧ w ≤ 6) → -40 ≤ m → m ≤ 40 → 1 ≤ d → d ≤ 12 → P 2 [x, y] (.lift 0 [0, w] m d))
    (a2 : ∀ x y w m d, (-6 ≤ w ∧ w ≤ 6) → -40 ≤ m → m ≤ 40 → 1 ≤ d → d ≤ 12 → P 2 [x, y] (.lift 1 [w, 0] m d))
    (a3 : ∀ x y, P 2 [x, y] (.swap 0 1)) (a4 : ∀ x y, P 2 [x, y] (.turn 0)) (a5 : ∀ x y, P 2 [x, y] (.turn 1))
    (b1 : ∀ x y z w u m d, (-6 ≤ w ∧ w ≤ 6) → (-6 ≤ u ∧ u ≤ 6) → -40 ≤ m → m ≤ 40 → 1 ≤ d → d ≤ 12 → P 3 [x, y, z] (.lift 0 [0, w, u] m d))
    (b2 : ∀ x y z w u m d, (-6 ≤ w ∧ w ≤ 6) → (-6 ≤ u ∧ u ≤ 6) → -40 ≤ m → m ≤ 40 → 1 ≤ d → d ≤ 12 → P 3 [x, y, z] (.lift 1 [w, 0, u] m d))
    (b3 : ∀ x y z w u m d, (-6 ≤ w ∧ w ≤ 6) → (-6 ≤ u ∧ u ≤ 6) → -40 ≤ m → m ≤ 40 → 1 ≤ d → d ≤ 12 → P 3 [x, y, z] (.lift 2 [w, u, 0] m d))
    (b4 : ∀ x y z, P 3 [x, y, z] (.swap 0 1)) (b5 : ∀ x y z, P 3 [x, y, z] (.swap 0 2)) (b6 : ∀ x y z, P 3 [x, y, z] (.swap 1 2))
    (b7 : ∀ x y z, P 3 [x, y, z] (.turn 0)) (b8 : ∀ x y z, P 3 [x, y, z] (.turn 1)) (b9 : ∀ x y z, P 3 [x, y, z] (.turn 2)) : P n v s := by
  rcases hn with rfl | rfl
  · obtain ⟨x, y, rfl⟩ := len2 hv
    cases s with
    | lift c ws m d =>
      obtain ⟨h1, h2, h3, h4, h5, h6, h7, h8⟩ := h
      obtain ⟨w, u, rfl⟩ := len2 h2
      have hw := h4 w (by simp)
      have hu := h4 u (by simp)
      rcases nat2 h1 with rfl | rfl
      · obtain rfl : w = 0 := by simpa using h3
        exact a1 _ _ _ _ _ hu h5 h6 h7 h8
      · obtain rfl : u = 0 := by simpa using h3
        exact a2 _ _ _ _ _ hw h5 h6 h7 h8
    | swap i j =>
      obtain ⟨h1, h2⟩ := h
      obtain rfl : i = 0 := by omega
      obtain rfl : j = 1 := by omega
      exact a3 _ _
    | turn i =>
      rcases nat2 h with rfl | rfl
      · exact a4 _ _
      · exact a5 _ _
  · obtain ⟨x, y, z, rfl⟩ := len3 hv
    cases s with
    | lift c ws m d =>
      obtain ⟨h1, h2, h3, h4, h5, h6, h7, h8⟩ := h
      obtain ⟨w, u, t, rfl⟩ := len3 h2
      have hw := h4 w (by simp)
      have hu := h4 u (by simp)
      have ht := h4 t (by simp)
      rcases nat3 h1 with rfl | rfl | rfl
      · obtain rfl : w = 0 := by simpa using h3
        exact b1 _ _ _ _ _ _ _ hu ht h5 h6 h7 h8
      · obtain rfl : u = 0 := by simpa using h3
        exact b2 _ _ _ _ _ _ _ hw ht h5 h6 h7 h8
      · obtain rfl : t = 0 := by simpa using h3
        exact b3 _ _ _ _ _ _ _ hw hu h5 h6 h7 h8
    | swap i j =>
      obtain ⟨h1, h2⟩ := h
      rcases nat3 (n := i) (by omega) with rfl | rfl | rfl
      · rcases nat3 (n := j) h2 with rfl | rfl | rfl
        · omega
        · exact b4 _ _ _
        · exact b5 _ _ _
      · obtain rfl : j = 2 := by omega
        exact b6 _ _ _
      · omega
    | turn i =>
      rcases nat3 h with rfl | rfl | rfl
      · exact b7 _ _ _
      · exact b8 _ _ _
      · exact b9 _ _ _
theorem g_apply {n k : Nat} (hn : n = 2 ∨ n = 3) {v : List Int} (hv : v.length = n) {s : S} (h : Ok n s) (hb : Bd k v) (hk : k ≤ 1000) : G_apply_step [.fz (enc s), .fz (tupI v)] [] = some (.val (tupI (go s v)), []) := by
  revert hb
  refine ok_cases (P := fun n v s => Bd k v → G_apply_step [.fz (enc s), .fz (tupI v)] [] = some (.val (tupI (go s v)), [])) hn hv h ?_ ?_ ?_ ?_ ?_ ?_ ?_ ?_ ?_ ?_ ?_ ?_ ?_ ?_
  · intro x y w m d hw h1 h2 h3 h4 hb
    have e1 := okMul_of (i := 0) (by decide) (hb x (by simp)) hk
    have e2 := okMul_of (i := w) hw (hb y (by simp)) hk
    have e3 := okDiv_of h3 (by omega)
    unfold G_apply_step f_apply_step
    simp [fnD, sSeq, sSet, sDrop, sRet, sRetN, sIf, sAsg, sPar, sFor, forD, dC, dVar, dOp, der, ders, frz, frzs, dTup, dLst, aNil, aCons, aStar, PK.mk, dCB, PK.g1, PK.g2, lenD, absD, maxD, minD, PK.intD, listD, tupD, sumD, allD, intsD, bls, addD, subD, mulD, divD, modD, powD, cmpD, ixD, atI, ixN, dUn, negD, dB, truD, bNot, bAnd, bOr, bYes, dAndV, dOrV, dNotV, dChain, dFld, recvOk, dIsi, tyD, kitB, dCallN, callG, refs, renum, lives, PK.putAll, hNm, hSub, hNil, hCons, hTup, setIx, asgT, setAll, dMt, appD, extD, dLc, lcGo, wipeD, iSq, iRg1, iRg2, iZipD, iEnumD, iRevD, srcOf, rangeD, zipD, small, itemsD, List.range, List.range.loop, eqD_int, dSl, dRev, slD, cutD, okR, enc, tupI, go, back, q1, q2, q3, q4, q5, q6, q7, q8, e3, dotI, g_dot2 _ _ _ _ e1 e2]
  · intro x y w m d hw h1 h2 h3 h4 hb
    have e1 := okMul_of (i := w) hw (hb x (by simp)) hk
    have e2 := okMul_of (i := 0) (by decide) (hb y (by simp)) hk
    have e3 := okDiv_of h3 (by omega)
    unfold G_apply_step f_apply_step
    simp [fnD, sSeq, sSet, sDrop, sRet, sRetN, sIf, sAsg, sPar, sFor, forD, dC, dVar, dOp, der, ders, frz, frzs, dTup, dLst, aNil, aCons, aStar, PK.mk, dCB, PK.g1, PK.g2, lenD, absD, maxD, minD, PK.intD, listD, tupD, sumD, allD, intsD, bls, addD, subD, mulD, divD, modD, powD, cmpD, ixD, atI, ixN, dUn, negD, dB, truD, bNot, bAnd, bOr, bYes, dAndV, dOrV, dNotV, dChain, dFld, recvOk, dIsi, tyD, kitB, dCallN, callG, refs, renum, lives, PK.putAll, hNm, hSub, hNil, hCons, hTup, setIx, asgT, setAll, dMt, appD, extD, dLc, lcGo, wipeD, iSq, iRg1, iRg2, iZipD, iEnumD, iRevD, srcOf, rangeD, zipD, small, itemsD, List.range, List.range.loop, eqD_int, dSl, dRev, slD, cutD, okR, enc, tupI, go, back, q1, q2, q3, q4, q5, q6, q7, q8, e3, dotI, g_dot2 _ _ _ _ e1 e2]
  · intro x y hb
    unfold G_apply_step f_apply_step
    simp [fnD, sSeq, sSet, sDrop, sRet, sRetN, sIf, sAsg, sPar, sFor, forD, dC, dVar, dOp, der, ders, frz, frzs, dTup, dLst, aNil, aCons, aStar, PK.mk, dCB, PK.g1, PK.g2, lenD, absD, maxD, minD, PK.intD, listD, tupD, sumD, allD, intsD, bls, addD, subD, mulD, divD, modD, powD, cmpD, ixD, atI, ixN, dUn, negD, dB, truD, bNot, bAnd, bOr, bYes, dAndV, dOrV, dNotV, dChain, dFld, recvOk, dIsi, tyD, kitB, dCallN, callG, refs, renum, lives, PK.putAll, hNm, hSub, hNil, hCons, hTup, setIx, asgT, setAll, dMt, appD, extD, dLc, lcGo, wipeD, iSq, iRg1, iRg2, iZipD, iEnumD, iRevD, srcOf, rangeD, zipD, small, itemsD, List.range, List.range.loop, eqD_int, dSl, dRev, slD, cutD, okR, enc, tupI, go, back, q1, q2, q3, q4, q5, q6, q7, q8, dotI]
  · intro x y hb
    unfold G_apply_step f_apply_step
    simp [fnD, sSeq, sSet, sDrop, sRet, sRetN, sIf, sAsg, sPar, sFor, forD, dC, dVar, dOp, der, ders, frz, frzs, dTup, dLst, aNil, aCons, aStar, PK.mk, dCB, PK.g1, PK.g2, lenD, absD, maxD, minD, PK.intD, listD, tupD, sumD, allD, intsD, bls, addD, subD, mulD, divD, modD, powD, cmpD, ixD, atI, ixN, dUn, negD, dB, truD, bNot, bAnd, bOr, bYes, dAndV, dOrV, dNotV, dChain, dFld, recvOk, dIsi, tyD, kitB, dCallN, callG, refs, renum, lives, PK.putAll, hNm, hSub, hNil, hCons, hTup, setIx, asgT, setAll, dMt, appD, extD, dLc, lcGo, wipeD, iSq, iRg1, iRg2, iZipD, iEnumD, iRevD, srcOf, rangeD, zipD, small, itemsD, List.range, List.range.loop, eqD_int, dSl, dRev, slD, cutD, okR, enc, tupI, go, back, q1, q2, q3, q4, q5, q6, q7, q8, dotI]
  · intro x y hb
    unfold G_apply_step f_apply_step
    simp [fnD, sSeq, sSet, sDrop, sRet, sRetN, sIf, sAsg, sPar, sFor, forD, dC, dVar, dOp, der, ders, frz, frzs, dTup, dLst, aNil, aCons, aStar, PK.mk, dCB, PK.g1, PK.g2, lenD, absD, maxD, minD, PK.intD, listD, tupD, sumD, allD, intsD, bls, addD, subD, mulD, divD, modD, powD, cmpD, ixD, atI, ixN, dUn, negD, dB, truD, bNot, bAnd, bOr, bYes, dAndV, dOrV, dNotV, dChain, dFld, recvOk, dIsi, tyD, kitB, dCallN, callG, refs, renum, lives, PK.putAll, hNm, hSub, hNil, hCons, hTup, setIx, asgT, setAll, dMt, appD, extD, dLc, lcGo, wipeD, iSq, iRg1, iRg2, iZipD, iEnumD, iRevD, srcOf, rangeD, zipD, small, itemsD, List.range, List.range.loop, eqD_int, dSl, dRev, slD, cutD, okR, enc, tupI, go, back, q1, q2, q3, q4, q5, q6, q7, q8, dotI]
  · intro x y z w u m d hw hu h1 h2 h3 h4 hb
    have e1 := okMul_of (i := 0) (by decide) (hb x (by simp)) hk
    have e2 := okMul_of (i := w) hw (hb y (by simp)) hk
    have e4 := okMul_of (i := u) hu (hb z (by simp)) hk
    have e3 := okDiv_of h3 (by omega)
    unfold G_apply_step f_apply_step
    simp [fnD, sSeq, sSet, sDrop, sRet, sRetN, sIf, sAsg, sPar, sFor, forD, dC, dVar, dOp, der, ders, frz, frzs, dTup, dLst, aNil, aCons, aStar, PK.mk, dCB, PK.g1, PK.g2, lenD, absD, maxD, minD, PK.intD, listD, tupD, sumD, allD, intsD, bls, addD, subD, mulD, divD, modD, powD, cmpD, ixD, atI, ixN, dUn, negD, dB, truD, bNot, bAnd, bOr, bYes, dAndV, dOrV, dNotV, dChain, dFld, recvOk, dIsi, tyD, kitB, dCallN, callG, refs, renum, lives, PK.putAll, hNm, hSub, hNil, hCons, hTup, setIx, asgT, setAll, dMt, appD, extD, dLc, lcGo, wipeD, iSq, iRg1, iRg2, iZipD, iEnumD, iRevD, srcOf, rangeD, zipD, small, itemsD, List.range, List.range.loop, eqD_int, dSl, dRev, slD, cutD, okR, enc, tupI, go, back, q1, q2, q3, q4, q5, q6, q7, q8, e3, dotI, g_dot3 _ _ _ _ _ _ e1 e2 e4]
  · intro x y z w u m d hw hu h1 h2 h3 h4 hb
    have e1 := okMul_of (i := w) hw (hb x (by simp)) hk
    have e2 := okMul_of (i := 0) (by decide) (hb y (by simp)) hk
    have e4 := okMul_of (i := u) hu (hb z (by simp)) hk
    have e3 := okDiv_of h3 (by omega)
    unfold G_apply_step f_apply_step
    simp [fnD, sSeq, sSet, sDrop, sRet, sRetN, sIf, sAsg, sPar, sFor, forD, dC, dVar, dOp, der, ders, frz, frzs, dTup, dLst, aNil, aCons, aStar, PK.mk, dCB, PK.g1, PK.g2, lenD, absD, maxD, minD, PK.intD, listD, tupD, sumD, allD, intsD, bls, addD, subD, mulD, divD, modD, powD, cmpD, ixD, atI, ixN, dUn, negD, dB, truD, bNot, bAnd, bOr, bYes, dAndV, dOrV, dNotV, dChain, dFld, recvOk, dIsi, tyD, kitB, dCallN, callG, refs, renum, lives, PK.putAll, hNm, hSub, hNil, hCons, hTup, setIx, asgT, setAll, dMt, appD, extD, dLc, lcGo, wipeD, iSq, iRg1, iRg2, iZipD, iEnumD, iRevD, srcOf, rangeD, zipD, small, itemsD, List.range, List.range.loop, eqD_int, dSl, dRev, slD, cutD, okR, enc, tupI, go, back, q1, q2, q3, q4, q5, q6, q7, q8, e3, dotI, g_dot3 _ _ _ _ _ _ e1 e2 e4]
  · intro x y z w u m d hw hu h1 h2 h3 h4 hb
    have e1 := okMul_of (i := w) hw (hb x (by simp)) hk
    have e2 := okMul_of (i := u) hu (hb y (by simp)) hk
    have e4 := okMul_of (i := 0) (by decide) (hb z (by simp)) hk
    have e3 := okDiv_of h3 (by omega)
    unfold G_apply_step f_apply_step
    simp [fnD, sSeq, sSet, sDrop, sRet, sRetN, sIf, sAsg, sPar, sFor, forD, dC, dVar, dOp, der, ders, frz, frzs, dTup, dLst, aNil, aCons, aStar, PK.mk, dCB, PK.g1, PK.g2, lenD, absD, maxD, minD, PK.intD, listD, tupD, sumD, allD, intsD, bls, addD, subD, mulD, divD, modD, powD, cmpD, ixD, atI, ixN, dUn, negD, dB, truD, bNot, bAnd, bOr, bYes, dAndV, dOrV, dNotV, dChain, dFld, recvOk, dIsi, tyD, kitB, dCallN, callG, refs, renum, lives, PK.putAll, hNm, hSub, hNil, hCons, hTup, setIx, asgT, setAll, dMt, appD, extD, dLc, lcGo, wipeD, iSq, iRg1, iRg2, iZipD, iEnumD, iRevD, srcOf, rangeD, zipD, small, itemsD, List.range, List.range.loop, eqD_int, dSl, dRev, slD, cutD, okR, enc, tupI, go, back, q1, q2, q3, q4, q5, q6, q7, q8, e3, dotI, g_dot3 _ _ _ _ _ _ e1 e2 e4]
  · intro x y z hb
    unfold G_apply_step f_apply_step
    simp [fnD, sSeq, sSet, sDrop, sRet, sRetN, sIf, sAsg, sPar, sFor, forD, dC, dVar, dOp, der, ders, frz, frzs, dTup, dLst, aNil, aCons, aStar, PK.mk, dCB, PK.g1, PK.g2, lenD, absD, maxD, minD, PK.intD, listD, tupD, sumD, allD, intsD, bls, addD, subD, mulD, divD, modD, powD, cmpD, ixD, atI, ixN, dUn, negD, dB, truD, bNot, bAnd, bOr, bYes, dAndV, dOrV, dNotV, dChain, dFld, recvOk, dIsi, tyD, kitB, dCallN, callG, refs, renum, lives, PK.putAll, hNm, hSub, hNil, hCons, hTup, setIx, asgT, setAll, dMt, appD, extD, dLc, lcGo, wipeD, iSq, iRg1, iRg2, iZipD, iEnumD, iRevD, srcOf, rangeD, zipD, small, itemsD, List.range, List.range.loop, eqD_int, dSl, dRev, slD, cutD, okR, enc, tupI, go, back, q1, q2, q3, q4, q5, q6, q7, q8, dotI]
  · intro x y z hb
    unfold G_apply_step f_apply_step
    simp [fnD, sSeq, sSet, sDrop, sRet, sRetN, sIf, sAsg, sPar, sFor, forD, dC, dVar, dOp, der, ders, frz, frzs, dTup, dLst, aNil, aCons, aStar, PK.mk, dCB, PK.g1, PK.g2, lenD, absD, maxD, minD, PK.intD, listD, tupD, sumD, allD, intsD, bls, addD, subD, mulD, divD, modD, powD, cmpD, ixD, atI, ixN, dUn, negD, dB, truD, bNot, bAnd, bOr, bYes, dAndV, dOrV, dNotV, dChain, dFld, recvOk, dIsi, tyD, kitB, dCallN, callG, refs, renum, lives, PK.putAll, hNm, hSub, hNil, hCons, hTup, setIx, asgT, setAll, dMt, appD, extD, dLc, lcGo, wipeD, iSq, iRg1, iRg2, iZipD, iEnumD, iRevD, srcOf, rangeD, zipD, small, itemsD, List.range, List.range.loop, eqD_int, dSl, dRev, slD, cutD, okR, enc, tupI, go, back, q1, q2, q3, q4, q5, q6, q7, q8, dotI]
  · intro x y z hb
    unfold G_apply_step f_apply_step
    simp [fnD, sSeq, sSet, sDrop, sRet, sRetN, sIf, sAsg, sPar, sFor, forD, dC, dVar, dOp, der, ders, frz, frzs, dTup, dLst, aNil, aCons, aStar, PK.mk, dCB, PK.g1, PK.g2, lenD, absD, maxD, minD, PK.intD, listD, tupD, sumD, allD, intsD, bls, addD, subD, mulD, divD, modD, powD, cmpD, ixD, atI, ixN, dUn, negD, dB, truD, bNot, bAnd, bOr, bYes, dAndV, dOrV, dNotV, dChain, dFld, recvOk, dIsi, tyD, kitB, dCallN, callG, refs, renum, lives, PK.putAll, hNm, hSub, hNil, hCons, hTup, setIx, asgT, setAll, dMt, appD, extD, dLc, lcGo, wipeD, iSq, iRg1, iRg2, iZipD, iEnumD, iRevD, srcOf, rangeD, zipD, small, itemsD, List.range, List.range.loop, eqD_int, dSl, dRev, slD, cutD, okR, enc, tupI, go, back, q1, q2, q3, q4, q5, q6, q7, q8, dotI]
  · intro x y z hb
    unfold G_apply_step f_apply_step
    simp [fnD, sSeq, sSet, sDrop, sRet, sRetN, sIf, sAsg, sPar, sFor, forD, dC, dVar, dOp, der, ders, frz, frzs, dTup, dLst, aNil, aCons, aStar, PK.mk, dCB, PK.g1, PK.g2, lenD, absD, maxD, minD, PK.intD, listD, tupD, sumD, allD, intsD, bls, addD, subD, mulD, divD, modD, powD, cmpD, ixD, atI, ixN, dUn, negD, dB, truD, bNot, bAnd, bOr, bYes, dAndV, dOrV, dNotV, dChain, dFld, recvOk, dIsi, tyD, kitB, dCallN, callG, refs, renum, lives, PK.putAll, hNm, hSub, hNil, hCons, hTup, setIx, asgT, setAll, dMt, appD, extD, dLc, lcGo, wipeD, iSq, iRg1, iRg2, iZipD, iEnumD, iRevD, srcOf, rangeD, zipD, small, itemsD, List.range, List.range.loop, eqD_int, dSl, dRev, slD, cutD, okR, enc, tupI, go, back, q1, q2, q3, q4, q5, q6, q7, q8, dotI]
  · intro x y z hb
    unfold G_apply_step f_apply_step
    simp [fnD, sSeq, sSet, sDrop, sRet, sRetN, sIf, sAsg, sPar, sFor, forD, dC, dVar, dOp, der, ders, frz, frzs, dTup, dLst, aNil, aCons, aStar, PK.mk, dCB, PK.g1, PK.g2, lenD, absD, maxD, minD, PK.intD, listD, tupD, sumD, allD, intsD, bls, addD, subD, mulD, divD, modD, powD, cmpD, ixD, atI, ixN, dUn, negD, dB, truD, bNot, bAnd, bOr, bYes, dAndV, dOrV, dNotV, dChain, dFld, recvOk, dIsi, tyD, kitB, dCallN, callG, refs, renum, lives, PK.putAll, hNm, hSub, hNil, hCons, hTup, setIx, asgT, setAll, dMt, appD, extD, dLc, lcGo, wipeD, iSq, iRg1, iRg2, iZipD, iEnumD, iRevD, srcOf, rangeD, zipD, small, itemsD, List.range, List.range.loop, eqD_int, dSl, dRev, slD, cutD, okR, enc, tupI, go, back, q1, q2, q3, q4, q5, q6, q7, q8, dotI]
  · intro x y z hb
    unfold G_apply_step f_apply_step
    simp [fnD, sSeq, sSet, sDrop, sRet, sRetN, sIf, sAsg, sPar, sFor, forD, dC, dVar, dOp, der, ders, frz, frzs, dTup, dLst, aNil, aCons, aStar, PK.mk, dCB, PK.g1, PK.g2, lenD, absD, maxD, minD, PK.intD, listD, tupD, sumD, allD, intsD, bls, addD, subD, mulD, divD, modD, powD, cmpD, ixD, atI, ixN, dUn, negD, dB, truD, bNot, bAnd, bOr, bYes, dAndV, dOrV, dNotV, dChain, dFld, recvOk, dIsi, tyD, kitB, dCallN, callG, refs, renum, lives, PK.putAll, hNm, hSub, hNil, hCons, hTup, setIx, asgT, setAll, dMt, appD, extD, dLc, lcGo, wipeD, iSq, iRg1, iRg2, iZipD, iEnumD, iRevD, srcOf, rangeD, zipD, small, itemsD, List.range, List.range.loop, eqD_int, dSl, dRev, slD, cutD, okR, enc, tupI, go, back, q1, q2, q3, q4, q5, q6, q7, q8, dotI]
theorem g_done {n k : Nat} (hn : n = 2 ∨ n = 3) {v : List Int} (hv : v.length = n) {s : S} (h : Ok n s) (hb : Bd k v) (hk : k ≤ 1000) : G_law_done [.fz (enc s), .fz (tupI v)] [] = some (.val (tupI (go s v)), []) := by
  revert hb
  refine ok_cases (P := fun n v s => Bd k v → G_law_done [.fz (enc s), .fz (tupI v)] [] = some (.val (tupI (go s v)), [])) hn hv h ?_ ?_ ?_ ?_ ?_ ?_ ?_ ?_ ?_ ?_ ?_ ?_ ?_ ?_
  · intro x y w m d hw h1 h2 h3 h4 hb
    have e1 := okMul_of (i := 0) (by decide) (hb x (by simp)) hk
    have e2 := okMul_of (i := w) hw (hb y (by simp)) hk
    have e3 := okDiv_of h3 (by omega)
    unfold G_law_done f_law_done
    simp [fnD, sSeq, sSet, sDrop, sRet, sRetN, sIf, sAsg, sPar, sFor, forD, dC, dVar, dOp, der, ders, frz, frzs, dTup, dLst, aNil, aCons, aStar, PK.mk, dCB, PK.g1, PK.g2, lenD, absD, maxD, minD, PK.intD, listD, tupD, sumD, allD, intsD, bls, addD, subD, mulD, divD, modD, powD, cmpD, ixD, atI, ixN, dUn, negD, dB, truD, bNot, bAnd, bOr, bYes, dAndV, dOrV, dNotV, dChain, dFld, recvOk, dIsi, tyD, kitB, dCallN, callG, refs, renum, lives, PK.putAll, hNm, hSub, hNil, hCons, hTup, setIx, asgT, setAll, dMt, appD, extD, dLc, lcGo, wipeD, iSq, iRg1, iRg2, iZipD, iEnumD, iRevD, srcOf, rangeD, zipD, small, itemsD, List.range, List.range.loop, eqD_int, dSl, dRev, slD, cutD, okR, enc, tupI, go, back, q1, q2, q3, q4, q5, q6, q7, q8, e3, dotI, e1, e2]
    all_goals (congr 1; omega)
  · intro x y w m d hw h1 h2 h3 h4 hb
    have e1 := okMul_of (i := w) hw (hb x (by simp)) hk
    have e2 := okMul_of (i := 0) (by decide) (hb y (by simp)) hk
    have e3 := okDiv_of h3 (by omega)
    unfold G_law_done f_law_done
    simp [fnD, sSeq, sSet, sDrop, sRet, sRetN, sIf, sAsg, sPar, sFor, forD, dC, dVar, dOp, der, ders, frz, frzs, dTup, dLst, aNil, aCons, aStar, PK.mk, dCB, PK.g1, PK.g2, lenD, absD, maxD, minD, PK.intD, listD, tupD, sumD, allD, intsD, bls, addD, subD, mulD, divD, modD, powD, cmpD, ixD, atI, ixN, dUn, negD, dB, truD, bNot, bAnd, bOr, bYes, dAndV, dOrV, dNotV, dChain, dFld, recvOk, dIsi, tyD, kitB, dCallN, callG, refs, renum, lives, PK.putAll, hNm, hSub, hNil, hCons, hTup, setIx, asgT, setAll, dMt, appD, extD, dLc, lcGo, wipeD, iSq, iRg1, iRg2, iZipD, iEnumD, iRevD, srcOf, rangeD, zipD, small, itemsD, List.range, List.range.loop, eqD_int, dSl, dRev, slD, cutD, okR, enc, tupI, go, back, q1, q2, q3, q4, q5, q6, q7, q8, e3, dotI, e1, e2]
    all_goals (congr 1; omega)
  · intro x y hb
    unfold G_law_done f_law_done
    simp [fnD, sSeq, sSet, sDrop, sRet, sRetN, sIf, sAsg, sPar, sFor, forD, dC, dVar, dOp, der, ders, frz, frzs, dTup, dLst, aNil, aCons, aStar, PK.mk, dCB, PK.g1, PK.g2, lenD, absD, maxD, minD, PK.intD, listD, tupD, sumD, allD, intsD, bls, addD, subD, mulD, divD, modD, powD, cmpD, ixD, atI, ixN, dUn, negD, dB, truD, bNot, bAnd, bOr, bYes, dAndV, dOrV, dNotV, dChain, dFld, recvOk, dIsi, tyD, kitB, dCallN, callG, refs, renum, lives, PK.putAll, hNm, hSub, hNil, hCons, hTup, setIx, asgT, setAll, dMt, appD, extD, dLc, lcGo, wipeD, iSq, iRg1, iRg2, iZipD, iEnumD, iRevD, srcOf, rangeD, zipD, small, itemsD, List.range, List.range.loop, eqD_int, dSl, dRev, slD, cutD, okR, enc, tupI, go, back, q1, q2, q3, q4, q5, q6, q7, q8, dotI]
  · intro x y hb
    unfold G_law_done f_law_done
    simp [fnD, sSeq, sSet, sDrop, sRet, sRetN, sIf, sAsg, sPar, sFor, forD, dC, dVar, dOp, der, ders, frz, frzs, dTup, dLst, aNil, aCons, aStar, PK.mk, dCB, PK.g1, PK.g2, lenD, absD, maxD, minD, PK.intD, listD, tupD, sumD, allD, intsD, bls, addD, subD, mulD, divD, modD, powD, cmpD, ixD, atI, ixN, dUn, negD, dB, truD, bNot, bAnd, bOr, bYes, dAndV, dOrV, dNotV, dChain, dFld, recvOk, dIsi, tyD, kitB, dCallN, callG, refs, renum, lives, PK.putAll, hNm, hSub, hNil, hCons, hTup, setIx, asgT, setAll, dMt, appD, extD, dLc, lcGo, wipeD, iSq, iRg1, iRg2, iZipD, iEnumD, iRevD, srcOf, rangeD, zipD, small, itemsD, List.range, List.range.loop, eqD_int, dSl, dRev, slD, cutD, okR, enc, tupI, go, back, q1, q2, q3, q4, q5, q6, q7, q8, dotI]
  · intro x y hb
    unfold G_law_done f_law_done
    simp [fnD, sSeq, sSet, sDrop, sRet, sRetN, sIf, sAsg, sPar, sFor, forD, dC, dVar, dOp, der, ders, frz, frzs, dTup, dLst, aNil, aCons, aStar, PK.mk, dCB, PK.g1, PK.g2, lenD, absD, maxD, minD, PK.intD, listD, tupD, sumD, allD, intsD, bls, addD, subD, mulD, divD, modD, powD, cmpD, ixD, atI, ixN, dUn, negD, dB, truD, bNot, bAnd, bOr, bYes, dAndV, dOrV, dNotV, dChain, dFld, recvOk, dIsi, tyD, kitB, dCallN, callG, refs, renum, lives, PK.putAll, hNm, hSub, hNil, hCons, hTup, setIx, asgT, setAll, dMt, appD, extD, dLc, lcGo, wipeD, iSq, iRg1, iRg2, iZipD, iEnumD, iRevD, srcOf, rangeD, zipD, small, itemsD, List.range, List.range.loop, eqD_int, dSl, dRev, slD, cutD, okR, enc, tupI, go, back, q1, q2, q3, q4, q5, q6, q7, q8, dotI]
  · intro x y z w u m d hw hu h1 h2 h3 h4 hb
    have e1 := okMul_of (i := 0) (by decide) (hb x (by simp)) hk
    have e2 := okMul_of (i := w) hw (hb y (by simp)) hk
    have e4 := okMul_of (i := u) hu (hb z (by simp)) hk
    have e3 := okDiv_of h3 (by omega)
    unfold G_law_done f_law_done
    simp [fnD, sSeq, sSet, sDrop, sRet, sRetN, sIf, sAsg, sPar, sFor, forD, dC, dVar, dOp, der, ders, frz, frzs, dTup, dLst, aNil, aCons, aStar, PK.mk, dCB, PK.g1, PK.g2, lenD, absD, maxD, minD, PK.intD, listD, tupD, sumD, allD, intsD, bls, addD, subD, mulD, divD, modD, powD, cmpD, ixD, atI, ixN, dUn, negD, dB, truD, bNot, bAnd, bOr, bYes, dAndV, dOrV, dNotV, dChain, dFld, recvOk, dIsi, tyD, kitB, dCallN, callG, refs, renum, lives, PK.putAll, hNm, hSub, hNil, hCons, hTup, setIx, asgT, setAll, dMt, appD, extD, dLc, lcGo, wipeD, iSq, iRg1, iRg2, iZipD, iEnumD, iRevD, srcOf, rangeD, zipD, small, itemsD, List.range, List.range.loop, eqD_int, dSl, dRev, slD, cutD, okR, enc, tupI, go, back, q1, q2, q3, q4, q5, q6, q7, q8, e3, dotI, e1, e2, e4]
    all_goals (congr 1; omega)
  · intro x y z w u m d hw hu h1 h2 h3 h4 hb
    have e1 := okMul_of (i := w) hw (hb x (by simp)) hk
    have e2 := okMul_of (i := 0) (by decide) (hb y (by simp)) hk
    have e4 := okMul_of (i := u) hu (hb z (by simp)) hk
    have e3 := okDiv_of h3 (by omega)
    unfold G_law_done f_law_done
    simp [fnD, sSeq, sSet, sDrop, sRet, sRetN, sIf, sAsg, sPar, sFor, forD, dC, dVar, dOp, der, ders, frz, frzs, dTup, dLst, aNil, aCons, aStar, PK.mk, dCB, PK.g1, PK.g2, lenD, absD, maxD, minD, PK.intD, listD, tupD, sumD, allD, intsD, bls, addD, subD, mulD, divD, modD, powD, cmpD, ixD, atI, ixN, dUn, negD, dB, truD, bNot, bAnd, bOr, bYes, dAndV, dOrV, dNotV, dChain, dFld, recvOk, dIsi, tyD, kitB, dCallN, callG, refs, renum, lives, PK.putAll, hNm, hSub, hNil, hCons, hTup, setIx, asgT, setAll, dMt, appD, extD, dLc, lcGo, wipeD, iSq, iRg1, iRg2, iZipD, iEnumD, iRevD, srcOf, rangeD, zipD, small, itemsD, List.range, List.range.loop, eqD_int, dSl, dRev, slD, cutD, okR, enc, tupI, go, back, q1, q2, q3, q4, q5, q6, q7, q8, e3, dotI, e1, e2, e4]
    all_goals (congr 1; omega)
  · intro x y z w u m d hw hu h1 h2 h3 h4 hb
    have e1 := okMul_of (i := w) hw (hb x (by simp)) hk
    have e2 := okMul_of (i := u) hu (hb y (by simp)) hk
    have e4 := okMul_of (i := 0) (by decide) (hb z (by simp)) hk
    have e3 := okDiv_of h3 (by omega)
    unfold G_law_done f_law_done
    simp [fnD, sSeq, sSet, sDrop, sRet, sRetN, sIf, sAsg, sPar, sFor, forD, dC, dVar, dOp, der, ders, frz, frzs, dTup, dLst, aNil, aCons, aStar, PK.mk, dCB, PK.g1, PK.g2, lenD, absD, maxD, minD, PK.intD, listD, tupD, sumD, allD, intsD, bls, addD, subD, mulD, divD, modD, powD, cmpD, ixD, atI, ixN, dUn, negD, dB, truD, bNot, bAnd, bOr, bYes, dAndV, dOrV, dNotV, dChain, dFld, recvOk, dIsi, tyD, kitB, dCallN, callG, refs, renum, lives, PK.putAll, hNm, hSub, hNil, hCons, hTup, setIx, asgT, setAll, dMt, appD, extD, dLc, lcGo, wipeD, iSq, iRg1, iRg2, iZipD, iEnumD, iRevD, srcOf, rangeD, zipD, small, itemsD, List.range, List.range.loop, eqD_int, dSl, dRev, slD, cutD, okR, enc, tupI, go, back, q1, q2, q3, q4, q5, q6, q7, q8, e3, dotI, e1, e2, e4]
    all_goals (congr 1; omega)
  · intro x y z hb
    unfold G_law_done f_law_done
    simp [fnD, sSeq, sSet, sDrop, sRet, sRetN, sIf, sAsg, sPar, sFor, forD, dC, dVar, dOp, der, ders, frz, frzs, dTup, dLst, aNil, aCons, aStar, PK.mk, dCB, PK.g1, PK.g2, lenD, absD, maxD, minD, PK.intD, listD, tupD, sumD, allD, intsD, bls, addD, subD, mulD, divD, modD, powD, cmpD, ixD, atI, ixN, dUn, negD, dB, truD, bNot, bAnd, bOr, bYes, dAndV, dOrV, dNotV, dChain, dFld, recvOk, dIsi, tyD, kitB, dCallN, callG, refs, renum, lives, PK.putAll, hNm, hSub, hNil, hCons, hTup, setIx, asgT, setAll, dMt, appD, extD, dLc, lcGo, wipeD, iSq, iRg1, iRg2, iZipD, iEnumD, iRevD, srcOf, rangeD, zipD, small, itemsD, List.range, List.range.loop, eqD_int, dSl, dRev, slD, cutD, okR, enc, tupI, go, back, q1, q2, q3, q4, q5, q6, q7, q8, dotI]
  · intro x y z hb
    unfold G_law_done f_law_done
    simp [fnD, sSeq, sSet, sDrop, sRet, sRetN, sIf, sAsg, sPar, sFor, forD, dC, dVar, dOp, der, ders, frz, frzs, dTup, dLst, aNil, aCons, aStar, PK.mk, dCB, PK.g1, PK.g2, lenD, absD, maxD, minD, PK.intD, listD, tupD, sumD, allD, intsD, bls, addD, subD, mulD, divD, modD, powD, cmpD, ixD, atI, ixN, dUn, negD, dB, truD, bNot, bAnd, bOr, bYes, dAndV, dOrV, dNotV, dChain, dFld, recvOk, dIsi, tyD, kitB, dCallN, callG, refs, renum, lives, PK.putAll, hNm, hSub, hNil, hCons, hTup, setIx, asgT, setAll, dMt, appD, extD, dLc, lcGo, wipeD, iSq, iRg1, iRg2, iZipD, iEnumD, iRevD, srcOf, rangeD, zipD, small, itemsD, List.range, List.range.loop, eqD_int, dSl, dRev, slD, cutD, okR, enc, tupI, go, back, q1, q2, q3, q4, q5, q6, q7, q8, dotI]
  · intro x y z hb
    unfold G_law_done f_law_done
    simp [fnD, sSeq, sSet, sDrop, sRet, sRetN, sIf, sAsg, sPar, sFor, forD, dC, dVar, dOp, der, ders, frz, frzs, dTup, dLst, aNil, aCons, aStar, PK.mk, dCB, PK.g1, PK.g2, lenD, absD, maxD, minD, PK.intD, listD, tupD, sumD, allD, intsD, bls, addD, subD, mulD, divD, modD, powD, cmpD, ixD, atI, ixN, dUn, negD, dB, truD, bNot, bAnd, bOr, bYes, dAndV, dOrV, dNotV, dChain, dFld, recvOk, dIsi, tyD, kitB, dCallN, callG, refs, renum, lives, PK.putAll, hNm, hSub, hNil, hCons, hTup, setIx, asgT, setAll, dMt, appD, extD, dLc, lcGo, wipeD, iSq, iRg1, iRg2, iZipD, iEnumD, iRevD, srcOf, rangeD, zipD, small, itemsD, List.range, List.range.loop, eqD_int, dSl, dRev, slD, cutD, okR, enc, tupI, go, back, q1, q2, q3, q4, q5, q6, q7, q8, dotI]
  · intro x y z hb
    unfold G_law_done f_law_done
    simp [fnD, sSeq, sSet, sDrop, sRet, sRetN, sIf, sAsg, sPar, sFor, forD, dC, dVar, dOp, der, ders, frz, frzs, dTup, dLst, aNil, aCons, aStar, PK.mk, dCB, PK.g1, PK.g2, lenD, absD, maxD, minD, PK.intD, listD, tupD, sumD, allD, intsD, bls, addD, subD, mulD, divD, modD, powD, cmpD, ixD, atI, ixN, dUn, negD, dB, truD, bNot, bAnd, bOr, bYes, dAndV, dOrV, dNotV, dChain, dFld, recvOk, dIsi, tyD, kitB, dCallN, callG, refs, renum, lives, PK.putAll, hNm, hSub, hNil, hCons, hTup, setIx, asgT, setAll, dMt, appD, extD, dLc, lcGo, wipeD, iSq, iRg1, iRg2, iZipD, iEnumD, iRevD, srcOf, rangeD, zipD, small, itemsD, List.range, List.range.loop, eqD_int, dSl, dRev, slD, cutD, okR, enc, tupI, go, back, q1, q2, q3, q4, q5, q6, q7, q8, dotI]
  · intro x y z hb
    unfold G_law_done f_law_done
    simp [fnD, sSeq, sSet, sDrop, sRet, sRetN, sIf, sAsg, sPar, sFor, forD, dC, dVar, dOp, der, ders, frz, frzs, dTup, dLst, aNil, aCons, aStar, PK.mk, dCB, PK.g1, PK.g2, lenD, absD, maxD, minD, PK.intD, listD, tupD, sumD, allD, intsD, bls, addD, subD, mulD, divD, modD, powD, cmpD, ixD, atI, ixN, dUn, negD, dB, truD, bNot, bAnd, bOr, bYes, dAndV, dOrV, dNotV, dChain, dFld, recvOk, dIsi, tyD, kitB, dCallN, callG, refs, renum, lives, PK.putAll, hNm, hSub, hNil, hCons, hTup, setIx, asgT, setAll, dMt, appD, extD, dLc, lcGo, wipeD, iSq, iRg1, iRg2, iZipD, iEnumD, iRevD, srcOf, rangeD, zipD, small, itemsD, List.range, List.range.loop, eqD_int, dSl, dRev, slD, cutD, okR, enc, tupI, go, back, q1, q2, q3, q4, q5, q6, q7, q8, dotI]
  · intro x y z hb
    unfold G_law_done f_law_done
    simp [fnD, sSeq, sSet, sDrop, sRet, sRetN, sIf, sAsg, sPar, sFor, forD, dC, dVar, dOp, der, ders, frz, frzs, dTup, dLst, aNil, aCons, aStar, PK.mk, dCB, PK.g1, PK.g2, lenD, absD, maxD, minD, PK.intD, listD, tupD, sumD, allD, intsD, bls, addD, subD, mulD, divD, modD, powD, cmpD, ixD, atI, ixN, dUn, negD, dB, truD, bNot, bAnd, bOr, bYes, dAndV, dOrV, dNotV, dChain, dFld, recvOk, dIsi, tyD, kitB, dCallN, callG, refs, renum, lives, PK.putAll, hNm, hSub, hNil, hCons, hTup, setIx, asgT, setAll, dMt, appD, extD, dLc, lcGo, wipeD, iSq, iRg1, iRg2, iZipD, iEnumD, iRevD, srcOf, rangeD, zipD, small, itemsD, List.range, List.range.loop, eqD_int, dSl, dRev, slD, cutD, okR, enc, tupI, go, back, q1, q2, q3, q4, q5, q6, q7, q8, dotI]
end K12

set_option maxHeartbeats 0
namespace K12
open PySem L2 PK
theorem go_len {s : S} {v : List Int} : (go s v).length = v.length := by cases s <;> simp [go]
theorem floor_back (X d : Int) (h : 1 ≤ d) : (d - 1 - X) / d = -(X / d) := by
  have h1 := Int.mul_ediv_add_emod X d
  have h2 := Int.emod_nonneg X (show d ≠ 0 by omega)
  have h3 := Int.emod_lt_of_pos X (show 0 < d by omega)
  have h4 : d - 1 - X = (d - 1 - X % d) + d * (-(X / d)) := by
    rw [Int.mul_neg]
    omega
  rw [h4, Int.add_mul_ediv_left _ _ (show d ≠ 0 by omega), Int.ediv_eq_zero_of_lt (by omega) (by omega)]
  omega
theorem fb1 (x w y m d : Int) (h : 1 ≤ d) : x + (w * y + m) / d + (-w * y + (d - 1 - m)) / d = x := by
  rw [show -w * y + (d - 1 - m) = d - 1 - (w * y + m) by rw [Int.neg_mul]; omega, floor_back _ _ h]
  omega
theorem back_back {n : Nat} {s : S} (h : Ok n s) : back (back s) = s := by
  cases s with
  | lift c ws m d =>
    simp only [back, S.lift.injEq, true_and, and_true]
    refine ⟨?_, by omega⟩
    rw [List.map_map]
    refine Eq.trans (List.map_congr_left fun w _ => ?_) (List.map_id _)
    simp
  | swap i j => rfl
  | turn i => rfl
theorem go_back {n : Nat} (hn : n = 2 ∨ n = 3) {v : List Int} (hv : v.length = n) {s : S} (h : Ok n s) : go (back s) (go s v) = v := by
  refine ok_cases (P := fun n v s => go (back s) (go s v) = v) hn hv h ?_ ?_ ?_ ?_ ?_ ?_ ?_ ?_ ?_ ?_ ?_ ?_ ?_ ?_
  · intro x y w m d hw h1 h2 h3 h4
    simp [go, back, dotI]
    have := fb1 x w y m d h3
    exact this
  · intro x y w m d hw h1 h2 h3 h4
    simp [go, back, dotI]
    have := fb1 y w x m d h3
    exact this
  · intros; simp [go, back]
  · intros; simp [go, back]
  · intros; simp [go, back]
  · intro x y z w u m d hw hu h1 h2 h3 h4
    simp [go, back, dotI, Int.neg_mul]
    rw [show -(w * y) + -(u * z) + (d - 1 - m) = d - 1 - (w * y + u * z + m) by omega, floor_back _ _ h3]
    omega
  · intro x y z w u m d hw hu h1 h2 h3 h4
    simp [go, back, dotI, Int.neg_mul]
    rw [show -(w * x) + -(u * z) + (d - 1 - m) = d - 1 - (w * x + u * z + m) by omega, floor_back _ _ h3]
    omega
  · intro x y z w u m d hw hu h1 h2 h3 h4
    simp [go, back, dotI, Int.neg_mul]
    rw [show -(w * x) + -(u * y) + (d - 1 - m) = d - 1 - (w * x + u * y + m) by omega, floor_back _ _ h3]
    omega
  all_goals (intros; simp [go, back])
/-- a step back may have a number more from -20 to 31 -/
theorem ok_back {n : Nat} {s : S} (h : Ok n s) (hm : ∀ c ws m d, s = .lift c ws m d → -20 ≤ m ∧ m ≤ 40) : Ok n (back s) := by
  cases s with
  | lift c ws m d =>
    obtain ⟨h1, h2, h3, h4, h5, h6, h7, h8⟩ := h
    have := hm _ _ _ _ rfl
    refine ⟨h1, by simpa using h2, ?_, ?_, by omega, by omega, h7, h8⟩
    · rw [List.getD_eq_getElem?_getD, List.getElem?_map]
      rw [List.getD_eq_getElem?_getD] at h3
      cases e : ws[c]? with
      | none => rfl
      | some w =>
        rw [e] at h3
        have : w = 0 := h3
        rw [this]
        rfl
    · intro w hw
      obtain ⟨u, hu, rfl⟩ := List.mem_map.mp hw
      have := h4 u hu
      omega
  | swap i j => exact h
  | turn i => exact h
theorem bd2 {k : Nat} {x y : Int} (hx : x.natAbs < 2 ^ k) (hy : y.natAbs < 2 ^ k) : Bd k [x, y] := by
  intro z hz
  simp at hz
  rcases hz with rfl | rfl <;> assumption
theorem bd3 {k : Nat} {x y z : Int} (hx : x.natAbs < 2 ^ k) (hy : y.natAbs < 2 ^ k) (hz : z.natAbs < 2 ^ k) : Bd k [x, y, z] := by
  intro u hu
  simp at hu
  rcases hu with rfl | rfl | rfl <;> assumption
theorem mulBd {w y : Int} {p : Nat} (hw : -6 ≤ w ∧ w ≤ 6) (hy : y.natAbs < p) : (w * y).natAbs ≤ 6 * p := by
  rw [Int.natAbs_mul]
  exact Nat.mul_le_mul (by omega) (Nat.le_of_lt hy)
theorem ediv_le {a d : Int} {p : Nat} (h : a.natAbs ≤ p) (hd : 1 ≤ d) : (a / d).natAbs ≤ p := by
  exact Nat.le_trans (Int.natAbs_ediv_le_natAbs _ _) h
theorem go_bd {n k : Nat} (hn : n = 2 ∨ n = 3) {v : List Int} (hv : v.length = n) {s : S} (h : Ok n s) (hb : Bd k v) : Bd (k + 8) (go s v) := by
  revert hb
  have hp : 2 ^ (k + 8) = 2 ^ k * 256 := by rw [Nat.pow_add]
  have hq : 0 < 2 ^ k := Nat.two_pow_pos k
  refine ok_cases (P := fun n v s => Bd k v → Bd (k + 8) (go s v)) hn hv h ?_ ?_ ?_ ?_ ?_ ?_ ?_ ?_ ?_ ?_ ?_ ?_ ?_ ?_
  · intro x y w m d hw h1 h2 h3 h4 hb
    have hx := hb x (by simp)
    have hy := hb y (by simp)
    have e1 := ediv_le (a := w * y + m) (p := 6 * 2 ^ k + 40) (by have := mulBd hw hy; omega) h3
    simp [go, dotI]
    exact bd2 (by omega) (by omega)
  · intro x y w m d hw h1 h2 h3 h4 hb
    have hx := hb x (by simp)
    have hy := hb y (by simp)
    have e1 := ediv_le (a := w * x + m) (p := 6 * 2 ^ k + 40) (by have := mulBd hw hx; omega) h3
    simp [go, dotI]
    exact bd2 (by omega) (by omega)
  · intro x y hb
    have hx := hb x (by simp)
    have hy := hb y (by simp)
    simp [go]
    exact bd2 (by omega) (by omega)
  · intro x y hb
    have hx := hb x (by simp)
    have hy := hb y (by simp)
    simp [go]
    exact bd2 (by omega) (by omega)
  · intro x y hb
    have hx := hb x (by simp)
    have hy := hb y (by simp)
    simp [go]
    exact bd2 (by omega) (by omega)
  · intro x y z w u m d hw hu h1 h2 h3 h4 hb
    have hx := hb x (by simp)
    have hy := hb y (by simp)
    have hz := hb z (by simp)
    have e1 := ediv_le (a := w * y + u * z + m) (p := 12 * 2 ^ k + 40) (by have := mulBd hw hy; have := mulBd hu hz; omega) h3
    simp [go, dotI]
    exact bd3 (by omega) (by omega) (by omega)
  · intro x y z w u m d hw hu h1 h2 h3 h4 hb
    have hx := hb x (by simp)
    have hy := hb y (by simp)
    have hz := hb z (by simp)
    have e1 := ediv_le (a := w * x + u * z + m) (p := 12 * 2 ^ k + 40) (by have := mulBd hw hx; have := mulBd hu hz; omega) h3
    simp [go, dotI]
    exact bd3 (by omega) (by omega) (by omega)
  · intro x y z w u m d hw hu h1 h2 h3 h4 hb
    have hx := hb x (by simp)
    have hy := hb y (by simp)
    have hz := hb z (by simp)
    have e1 := ediv_le (a := w * x + u * y + m) (p := 12 * 2 ^ k + 40) (by have := mulBd hw hx; have := mulBd hu hy; omega) h3
    simp [go, dotI]
    exact bd3 (by omega) (by omega) (by omega)
  all_goals
    intro x y z hb
    have hx := hb x (by simp)
    have hy := hb y (by simp)
    have hz := hb z (by simp)
    simp [go]
    exact bd3 (by omega) (by omega) (by omega)
/-! ### data of steps -/
theorem nice_tupI (v : List Int) : Nice 1 (tupI v) := nice_tup fun d hd => by
  obtain ⟨i, _, rfl⟩ := List.mem_map.mp hd
  exact nice_int
theorem Nice.up {j k : Nat} {d : D} (h : Nice j d) (hk : j ≤ k) : Nice k d := by
  obtain ⟨p, h1, h2, h3⟩ := h
  exact ⟨p, h1, h2, Nat.le_trans h3 hk⟩
theorem nice_enc (s : S) : Nice 2 (enc s) := by
  cases s with
  | lift c ws m d =>
    refine nice_tup (k := 1) fun x hx => ?_
    simp only [List.mem_cons, List.not_mem_nil, or_false] at hx
    rcases hx with rfl | rfl | rfl | rfl | rfl
    · exact nice_str okL
    · exact nice_int
    · exact nice_tupI _
    · exact nice_int
    · exact nice_int
  | swap i j =>
    refine nice_tup (k := 1) fun x hx => ?_
    simp only [List.mem_cons, List.not_mem_nil, or_false] at hx
    rcases hx with rfl | rfl | rfl
    · exact nice_str okS
    · exact nice_int
    · exact nice_int
  | turn i =>
    refine nice_tup (k := 1) fun x hx => ?_
    simp only [List.mem_cons, List.not_mem_nil, or_false] at hx
    rcases hx with rfl | rfl
    · exact nice_str okT
    · exact nice_int
end K12

set_option maxHeartbeats 0
namespace K12
open PySem L2 PK
/-! ### the program's defs at steps -/
theorem g_back {n : Nat} (hn : n = 2 ∨ n = 3) {s : S} (h : Ok n s) : G_law_back [.fz (enc s)] [] = some (.val (enc (back s)), []) := by
  cases s with
  | lift c ws m d =>
    obtain ⟨h1, h2, _⟩ := h
    rcases hn with rfl | rfl
    · obtain ⟨a, b, rfl⟩ := len2 h2
      unfold G_law_back f_law_back
      simp [fnD, sSeq, sSet, sDrop, sRet, sRetN, sIf, sAsg, sPar, sFor, forD, dC, dVar, dOp, der, ders, frz, frzs, dTup, dLst, aNil, aCons, aStar, PK.mk, dCB, PK.g1, PK.g2, lenD, absD, maxD, minD, PK.intD, listD, tupD, sumD, allD, intsD, bls, addD, subD, mulD, divD, modD, powD, cmpD, ixD, atI, ixN, dUn, negD, dB, truD, bNot, bAnd, bOr, bYes, dAndV, dOrV, dNotV, dChain, dFld, recvOk, dIsi, tyD, kitB, dCallN, callG, refs, renum, lives, PK.putAll, hNm, hSub, hNil, hCons, hTup, setIx, asgT, setAll, dMt, appD, extD, dLc, lcGo, wipeD, iSq, iRg1, iRg2, iZipD, iEnumD, iRevD, srcOf, rangeD, zipD, small, itemsD, List.range, List.range.loop, eqD_int, dSl, dRev, slD, cutD, okR, sNext, sNever, sBrk, sCnt, dMake, makeG, PK.initD, iSeq, iDrop, iSet, iFld, dMeth, dIfE, isND, PK.isNon, oSome, oNone, HT.sIx, enc, tupI, back, q1]
    · obtain ⟨a, b, e, rfl⟩ := len3 h2
      unfold G_law_back f_law_back
      simp [fnD, sSeq, sSet, sDrop, sRet, sRetN, sIf, sAsg, sPar, sFor, forD, dC, dVar, dOp, der, ders, frz, frzs, dTup, dLst, aNil, aCons, aStar, PK.mk, dCB, PK.g1, PK.g2, lenD, absD, maxD, minD, PK.intD, listD, tupD, sumD, allD, intsD, bls, addD, subD, mulD, divD, modD, powD, cmpD, ixD, atI, ixN, dUn, negD, dB, truD, bNot, bAnd, bOr, bYes, dAndV, dOrV, dNotV, dChain, dFld, recvOk, dIsi, tyD, kitB, dCallN, callG, refs, renum, lives, PK.putAll, hNm, hSub, hNil, hCons, hTup, setIx, asgT, setAll, dMt, appD, extD, dLc, lcGo, wipeD, iSq, iRg1, iRg2, iZipD, iEnumD, iRevD, srcOf, rangeD, zipD, small, itemsD, List.range, List.range.loop, eqD_int, dSl, dRev, slD, cutD, okR, sNext, sNever, sBrk, sCnt, dMake, makeG, PK.initD, iSeq, iDrop, iSet, iFld, dMeth, dIfE, isND, PK.isNon, oSome, oNone, HT.sIx, enc, tupI, back, q1]
  | swap i j => unfold G_law_back f_law_back; simp [fnD, sSeq, sSet, sDrop, sRet, sRetN, sIf, sAsg, sPar, sFor, forD, dC, dVar, dOp, der, ders, frz, frzs, dTup, dLst, aNil, aCons, aStar, PK.mk, dCB, PK.g1, PK.g2, lenD, absD, maxD, minD, PK.intD, listD, tupD, sumD, allD, intsD, bls, addD, subD, mulD, divD, modD, powD, cmpD, ixD, atI, ixN, dUn, negD, dB, truD, bNot, bAnd, bOr, bYes, dAndV, dOrV, dNotV, dChain, dFld, recvOk, dIsi, tyD, kitB, dCallN, callG, refs, renum, lives, PK.putAll, hNm, hSub, hNil, hCons, hTup, setIx, asgT, setAll, dMt, appD, extD, dLc, lcGo, wipeD, iSq, iRg1, iRg2, iZipD, iEnumD, iRevD, srcOf, rangeD, zipD, small, itemsD, List.range, List.range.loop, eqD_int, dSl, dRev, slD, cutD, okR, sNext, sNever, sBrk, sCnt, dMake, makeG, PK.initD, iSeq, iDrop, iSet, iFld, dMeth, dIfE, isND, PK.isNon, oSome, oNone, HT.sIx, enc, back, q2]
  | turn i => unfold G_law_back f_law_back; simp [fnD, sSeq, sSet, sDrop, sRet, sRetN, sIf, sAsg, sPar, sFor, forD, dC, dVar, dOp, der, ders, frz, frzs, dTup, dLst, aNil, aCons, aStar, PK.mk, dCB, PK.g1, PK.g2, lenD, absD, maxD, minD, PK.intD, listD, tupD, sumD, allD, intsD, bls, addD, subD, mulD, divD, modD, powD, cmpD, ixD, atI, ixN, dUn, negD, dB, truD, bNot, bAnd, bOr, bYes, dAndV, dOrV, dNotV, dChain, dFld, recvOk, dIsi, tyD, kitB, dCallN, callG, refs, renum, lives, PK.putAll, hNm, hSub, hNil, hCons, hTup, setIx, asgT, setAll, dMt, appD, extD, dLc, lcGo, wipeD, iSq, iRg1, iRg2, iZipD, iEnumD, iRevD, srcOf, rangeD, zipD, small, itemsD, List.range, List.range.loop, eqD_int, dSl, dRev, slD, cutD, okR, sNext, sNever, sBrk, sCnt, dMake, makeG, PK.initD, iSeq, iDrop, iSet, iFld, dMeth, dIfE, isND, PK.isNon, oSome, oNone, HT.sIx, enc, back, q3]
theorem xg_ints : ∀ {xs : List Int}, xs.length ≤ 5 → G_are_integers [.fz (.lst (xs.map D.int))] [] = some (.val (.bl true), []) ∧ G_are_integers [.fz (.tup (xs.map D.int))] [] = some (.val (.bl true), []) := by
  intro xs hx
  match xs, hx with
  | [], _ => constructor <;> (unfold G_are_integers f_are_integers; simp [fnD, sSeq, sSet, sDrop, sRet, sRetN, sIf, sAsg, sPar, sFor, forD, dC, dVar, dOp, der, ders, frz, frzs, dTup, dLst, aNil, aCons, aStar, PK.mk, dCB, PK.g1, PK.g2, lenD, absD, maxD, minD, PK.intD, listD, tupD, sumD, allD, intsD, bls, addD, subD, mulD, divD, modD, powD, cmpD, ixD, atI, ixN, dUn, negD, dB, truD, bNot, bAnd, bOr, bYes, dAndV, dOrV, dNotV, dChain, dFld, recvOk, dIsi, tyD, kitB, dCallN, callG, refs, renum, lives, PK.putAll, hNm, hSub, hNil, hCons, hTup, setIx, asgT, setAll, dMt, appD, extD, dLc, lcGo, wipeD, iSq, iRg1, iRg2, iZipD, iEnumD, iRevD, srcOf, rangeD, zipD, small, itemsD, List.range, List.range.loop, eqD_int, dSl, dRev, slD, cutD, okR, sNext, sNever, sBrk, sCnt, dMake, makeG, PK.initD, iSeq, iDrop, iSet, iFld, dMeth, dIfE, isND, PK.isNon, oSome, oNone, HT.sIx])
  | [a], _ => constructor <;> (unfold G_are_integers f_are_integers; simp [fnD, sSeq, sSet, sDrop, sRet, sRetN, sIf, sAsg, sPar, sFor, forD, dC, dVar, dOp, der, ders, frz, frzs, dTup, dLst, aNil, aCons, aStar, PK.mk, dCB, PK.g1, PK.g2, lenD, absD, maxD, minD, PK.intD, listD, tupD, sumD, allD, intsD, bls, addD, subD, mulD, divD, modD, powD, cmpD, ixD, atI, ixN, dUn, negD, dB, truD, bNot, bAnd, bOr, bYes, dAndV, dOrV, dNotV, dChain, dFld, recvOk, dIsi, tyD, kitB, dCallN, callG, refs, renum, lives, PK.putAll, hNm, hSub, hNil, hCons, hTup, setIx, asgT, setAll, dMt, appD, extD, dLc, lcGo, wipeD, iSq, iRg1, iRg2, iZipD, iEnumD, iRevD, srcOf, rangeD, zipD, small, itemsD, List.range, List.range.loop, eqD_int, dSl, dRev, slD, cutD, okR, sNext, sNever, sBrk, sCnt, dMake, makeG, PK.initD, iSeq, iDrop, iSet, iFld, dMeth, dIfE, isND, PK.isNon, oSome, oNone, HT.sIx])
  | [a, b], _ => constructor <;> (unfold G_are_integers f_are_integers; simp [fnD, sSeq, sSet, sDrop, sRet, sRetN, sIf, sAsg, sPar, sFor, forD, dC, dVar, dOp, der, ders, frz, frzs, dTup, dLst, aNil, aCons, aStar, PK.mk, dCB, PK.g1, PK.g2, lenD, absD, maxD, minD, PK.intD, listD, tupD, sumD, allD, intsD, bls, addD, subD, mulD, divD, modD, powD, cmpD, ixD, atI, ixN, dUn, negD, dB, truD, bNot, bAnd, bOr, bYes, dAndV, dOrV, dNotV, dChain, dFld, recvOk, dIsi, tyD, kitB, dCallN, callG, refs, renum, lives, PK.putAll, hNm, hSub, hNil, hCons, hTup, setIx, asgT, setAll, dMt, appD, extD, dLc, lcGo, wipeD, iSq, iRg1, iRg2, iZipD, iEnumD, iRevD, srcOf, rangeD, zipD, small, itemsD, List.range, List.range.loop, eqD_int, dSl, dRev, slD, cutD, okR, sNext, sNever, sBrk, sCnt, dMake, makeG, PK.initD, iSeq, iDrop, iSet, iFld, dMeth, dIfE, isND, PK.isNon, oSome, oNone, HT.sIx])
  | [a, b, c], _ => constructor <;> (unfold G_are_integers f_are_integers; simp [fnD, sSeq, sSet, sDrop, sRet, sRetN, sIf, sAsg, sPar, sFor, forD, dC, dVar, dOp, der, ders, frz, frzs, dTup, dLst, aNil, aCons, aStar, PK.mk, dCB, PK.g1, PK.g2, lenD, absD, maxD, minD, PK.intD, listD, tupD, sumD, allD, intsD, bls, addD, subD, mulD, divD, modD, powD, cmpD, ixD, atI, ixN, dUn, negD, dB, truD, bNot, bAnd, bOr, bYes, dAndV, dOrV, dNotV, dChain, dFld, recvOk, dIsi, tyD, kitB, dCallN, callG, refs, renum, lives, PK.putAll, hNm, hSub, hNil, hCons, hTup, setIx, asgT, setAll, dMt, appD, extD, dLc, lcGo, wipeD, iSq, iRg1, iRg2, iZipD, iEnumD, iRevD, srcOf, rangeD, zipD, small, itemsD, List.range, List.range.loop, eqD_int, dSl, dRev, slD, cutD, okR, sNext, sNever, sBrk, sCnt, dMake, makeG, PK.initD, iSeq, iDrop, iSet, iFld, dMeth, dIfE, isND, PK.isNon, oSome, oNone, HT.sIx])
  | [a, b, c, d], _ => constructor <;> (unfold G_are_integers f_are_integers; simp [fnD, sSeq, sSet, sDrop, sRet, sRetN, sIf, sAsg, sPar, sFor, forD, dC, dVar, dOp, der, ders, frz, frzs, dTup, dLst, aNil, aCons, aStar, PK.mk, dCB, PK.g1, PK.g2, lenD, absD, maxD, minD, PK.intD, listD, tupD, sumD, allD, intsD, bls, addD, subD, mulD, divD, modD, powD, cmpD, ixD, atI, ixN, dUn, negD, dB, truD, bNot, bAnd, bOr, bYes, dAndV, dOrV, dNotV, dChain, dFld, recvOk, dIsi, tyD, kitB, dCallN, callG, refs, renum, lives, PK.putAll, hNm, hSub, hNil, hCons, hTup, setIx, asgT, setAll, dMt, appD, extD, dLc, lcGo, wipeD, iSq, iRg1, iRg2, iZipD, iEnumD, iRevD, srcOf, rangeD, zipD, small, itemsD, List.range, List.range.loop, eqD_int, dSl, dRev, slD, cutD, okR, sNext, sNever, sBrk, sCnt, dMake, makeG, PK.initD, iSeq, iDrop, iSet, iFld, dMeth, dIfE, isND, PK.isNon, oSome, oNone, HT.sIx])
  | [a, b, c, d, e], _ => constructor <;> (unfold G_are_integers f_are_integers; simp [fnD, sSeq, sSet, sDrop, sRet, sRetN, sIf, sAsg, sPar, sFor, forD, dC, dVar, dOp, der, ders, frz, frzs, dTup, dLst, aNil, aCons, aStar, PK.mk, dCB, PK.g1, PK.g2, lenD, absD, maxD, minD, PK.intD, listD, tupD, sumD, allD, intsD, bls, addD, subD, mulD, divD, modD, powD, cmpD, ixD, atI, ixN, dUn, negD, dB, truD, bNot, bAnd, bOr, bYes, dAndV, dOrV, dNotV, dChain, dFld, recvOk, dIsi, tyD, kitB, dCallN, callG, refs, renum, lives, PK.putAll, hNm, hSub, hNil, hCons, hTup, setIx, asgT, setAll, dMt, appD, extD, dLc, lcGo, wipeD, iSq, iRg1, iRg2, iZipD, iEnumD, iRevD, srcOf, rangeD, zipD, small, itemsD, List.range, List.range.loop, eqD_int, dSl, dRev, slD, cutD, okR, sNext, sNever, sBrk, sCnt, dMake, makeG, PK.initD, iSeq, iDrop, iSet, iFld, dMeth, dIfE, isND, PK.isNon, oSome, oNone, HT.sIx])
end K12

set_option maxHeartbeats 0
namespace K12
open PySem L2 PK
theorem gi_lst {ds : List D} {xs : List Int} (e : ds = xs.map D.int) (h : xs.length ≤ 5) : G_are_integers [.fz (.lst ds)] [] = some (.val (.bl true), []) := by rw [e]; exact (xg_ints h).1
theorem gi_tup {ds : List D} {xs : List Int} (e : ds = xs.map D.int) (h : xs.length ≤ 5) : G_are_integers [.fz (.tup ds)] [] = some (.val (.bl true), []) := by rw [e]; exact (xg_ints h).2
theorem gc_lst1 {n c : Int} (h0 : 0 ≤ c) (h : c < n) : G_are_channels [.fz (.int n), .fz (.lst [.int c])] [] = some (.val (.bl true), []) := by
  have e := gi_lst (ds := [.int c]) (xs := [c]) rfl (by simp)
  unfold G_are_channels f_are_channels
  simp [fnD, sSeq, sSet, sDrop, sRet, sRetN, sIf, sAsg, sPar, sFor, forD, dC, dVar, dOp, der, ders, frz, frzs, dTup, dLst, aNil, aCons, aStar, PK.mk, dCB, PK.g1, PK.g2, lenD, absD, maxD, minD, PK.intD, listD, tupD, sumD, allD, intsD, bls, addD, subD, mulD, divD, modD, powD, cmpD, ixD, atI, ixN, dUn, negD, dB, truD, bNot, bAnd, bOr, bYes, dAndV, dOrV, dNotV, dChain, dFld, recvOk, dIsi, tyD, kitB, dCallN, callG, refs, renum, lives, PK.putAll, hNm, hSub, hNil, hCons, hTup, setIx, asgT, setAll, dMt, appD, extD, dLc, lcGo, wipeD, iSq, iRg1, iRg2, iZipD, iEnumD, iRevD, srcOf, rangeD, zipD, small, itemsD, List.range, List.range.loop, eqD_int, dSl, dRev, slD, cutD, okR, sNext, sNever, sBrk, sCnt, dMake, makeG, PK.initD, iSeq, iDrop, iSet, iFld, dMeth, dIfE, isND, PK.isNon, oSome, oNone, HT.sIx, e, h0, h]
theorem gc_tup1 {n c : Int} (h0 : 0 ≤ c) (h : c < n) : G_are_channels [.fz (.int n), .fz (.tup [.int c])] [] = some (.val (.bl true), []) := by
  have e := gi_tup (ds := [.int c]) (xs := [c]) rfl (by simp)
  unfold G_are_channels f_are_channels
  simp [fnD, sSeq, sSet, sDrop, sRet, sRetN, sIf, sAsg, sPar, sFor, forD, dC, dVar, dOp, der, ders, frz, frzs, dTup, dLst, aNil, aCons, aStar, PK.mk, dCB, PK.g1, PK.g2, lenD, absD, maxD, minD, PK.intD, listD, tupD, sumD, allD, intsD, bls, addD, subD, mulD, divD, modD, powD, cmpD, ixD, atI, ixN, dUn, negD, dB, truD, bNot, bAnd, bOr, bYes, dAndV, dOrV, dNotV, dChain, dFld, recvOk, dIsi, tyD, kitB, dCallN, callG, refs, renum, lives, PK.putAll, hNm, hSub, hNil, hCons, hTup, setIx, asgT, setAll, dMt, appD, extD, dLc, lcGo, wipeD, iSq, iRg1, iRg2, iZipD, iEnumD, iRevD, srcOf, rangeD, zipD, small, itemsD, List.range, List.range.loop, eqD_int, dSl, dRev, slD, cutD, okR, sNext, sNever, sBrk, sCnt, dMake, makeG, PK.initD, iSeq, iDrop, iSet, iFld, dMeth, dIfE, isND, PK.isNon, oSome, oNone, HT.sIx, e, h0, h]
theorem gc_tup2 {n c d : Int} (h0 : 0 ≤ c) (h : c < n) (h2 : 0 ≤ d) (h3 : d < n) : G_are_channels [.fz (.int n), .fz (.tup [.int c, .int d])] [] = some (.val (.bl true), []) := by
  have e := gi_tup (ds := [.int c, .int d]) (xs := [c, d]) rfl (by simp)
  unfold G_are_channels f_are_channels
  simp [fnD, sSeq, sSet, sDrop, sRet, sRetN, sIf, sAsg, sPar, sFor, forD, dC, dVar, dOp, der, ders, frz, frzs, dTup, dLst, aNil, aCons, aStar, PK.mk, dCB, PK.g1, PK.g2, lenD, absD, maxD, minD, PK.intD, listD, tupD, sumD, allD, intsD, bls, addD, subD, mulD, divD, modD, powD, cmpD, ixD, atI, ixN, dUn, negD, dB, truD, bNot, bAnd, bOr, bYes, dAndV, dOrV, dNotV, dChain, dFld, recvOk, dIsi, tyD, kitB, dCallN, callG, refs, renum, lives, PK.putAll, hNm, hSub, hNil, hCons, hTup, setIx, asgT, setAll, dMt, appD, extD, dLc, lcGo, wipeD, iSq, iRg1, iRg2, iZipD, iEnumD, iRevD, srcOf, rangeD, zipD, small, itemsD, List.range, List.range.loop, eqD_int, dSl, dRev, slD, cutD, okR, sNext, sNever, sBrk, sCnt, dMake, makeG, PK.initD, iSeq, iDrop, iSet, iFld, dMeth, dIfE, isND, PK.isNon, oSome, oNone, HT.sIx, e, h0, h, h2, h3]
theorem g_is_lift {n : Nat} (hn : n = 2 ∨ n = 3) {c : Nat} {ws : List Int} {m d : Int} (h : Ok n (.lift c ws m d)) : G_is_lift [.fz (.int n), .fz (enc (.lift c ws m d))] [] = some (.val (.bl true), []) := by
  obtain ⟨h1, h2, h3, h4, h5, h6, h7, h8⟩ := h
  rcases hn with rfl | rfl
  · obtain ⟨a, b, rfl⟩ := len2 h2
    have e := gi_lst (ds := [.int a, .int b, .int m, .int d]) (xs := [a, b, m, d]) rfl (by simp)
    have e2 := gc_lst1 (n := 2) (c := c) (by omega) (by omega)
    rcases nat2 h1 with rfl | rfl <;> simp at h3 <;> subst h3 <;> unfold G_is_lift f_is_lift <;> simp at e2 <;> simp [fnD, sSeq, sSet, sDrop, sRet, sRetN, sIf, sAsg, sPar, sFor, forD, dC, dVar, dOp, der, ders, frz, frzs, dTup, dLst, aNil, aCons, aStar, PK.mk, dCB, PK.g1, PK.g2, lenD, absD, maxD, minD, PK.intD, listD, tupD, sumD, allD, intsD, bls, addD, subD, mulD, divD, modD, powD, cmpD, ixD, atI, ixN, dUn, negD, dB, truD, bNot, bAnd, bOr, bYes, dAndV, dOrV, dNotV, dChain, dFld, recvOk, dIsi, tyD, kitB, dCallN, callG, refs, renum, lives, PK.putAll, hNm, hSub, hNil, hCons, hTup, setIx, asgT, setAll, dMt, appD, extD, dLc, lcGo, wipeD, iSq, iRg1, iRg2, iZipD, iEnumD, iRevD, srcOf, rangeD, zipD, small, itemsD, List.range, List.range.loop, eqD_int, dSl, dRev, slD, cutD, okR, sNext, sNever, sBrk, sCnt, dMake, makeG, PK.initD, iSeq, iDrop, iSet, iFld, dMeth, dIfE, isND, PK.isNon, oSome, oNone, HT.sIx, enc, tupI, e, e2, h7]
  · obtain ⟨a, b, f, rfl⟩ := len3 h2
    have e := gi_lst (ds := [.int a, .int b, .int f, .int m, .int d]) (xs := [a, b, f, m, d]) rfl (by simp)
    have e2 := gc_lst1 (n := 3) (c := c) (by omega) (by omega)
    rcases nat3 h1 with rfl | rfl | rfl <;> simp at h3 <;> subst h3 <;> unfold G_is_lift f_is_lift <;> simp at e2 <;> simp [fnD, sSeq, sSet, sDrop, sRet, sRetN, sIf, sAsg, sPar, sFor, forD, dC, dVar, dOp, der, ders, frz, frzs, dTup, dLst, aNil, aCons, aStar, PK.mk, dCB, PK.g1, PK.g2, lenD, absD, maxD, minD, PK.intD, listD, tupD, sumD, allD, intsD, bls, addD, subD, mulD, divD, modD, powD, cmpD, ixD, atI, ixN, dUn, negD, dB, truD, bNot, bAnd, bOr, bYes, dAndV, dOrV, dNotV, dChain, dFld, recvOk, dIsi, tyD, kitB, dCallN, callG, refs, renum, lives, PK.putAll, hNm, hSub, hNil, hCons, hTup, setIx, asgT, setAll, dMt, appD, extD, dLc, lcGo, wipeD, iSq, iRg1, iRg2, iZipD, iEnumD, iRevD, srcOf, rangeD, zipD, small, itemsD, List.range, List.range.loop, eqD_int, dSl, dRev, slD, cutD, okR, sNext, sNever, sBrk, sCnt, dMake, makeG, PK.initD, iSeq, iDrop, iSet, iFld, dMeth, dIfE, isND, PK.isNon, oSome, oNone, HT.sIx, enc, tupI, e, e2, h7]
theorem g_is_step {n : Nat} (hn : n = 2 ∨ n = 3) {s : S} (h : Ok n s) : G_is_step [.fz (.int n), .fz (enc s)] [] = some (.val (.bl true), []) := by
  cases s with
  | lift c ws m d =>
    have e := g_is_lift hn h
    unfold enc at e
    unfold G_is_step f_is_step
    simp [fnD, sSeq, sSet, sDrop, sRet, sRetN, sIf, sAsg, sPar, sFor, forD, dC, dVar, dOp, der, ders, frz, frzs, dTup, dLst, aNil, aCons, aStar, PK.mk, dCB, PK.g1, PK.g2, lenD, absD, maxD, minD, PK.intD, listD, tupD, sumD, allD, intsD, bls, addD, subD, mulD, divD, modD, powD, cmpD, ixD, atI, ixN, dUn, negD, dB, truD, bNot, bAnd, bOr, bYes, dAndV, dOrV, dNotV, dChain, dFld, recvOk, dIsi, tyD, kitB, dCallN, callG, refs, renum, lives, PK.putAll, hNm, hSub, hNil, hCons, hTup, setIx, asgT, setAll, dMt, appD, extD, dLc, lcGo, wipeD, iSq, iRg1, iRg2, iZipD, iEnumD, iRevD, srcOf, rangeD, zipD, small, itemsD, List.range, List.range.loop, eqD_int, dSl, dRev, slD, cutD, okR, sNext, sNever, sBrk, sCnt, dMake, makeG, PK.initD, iSeq, iDrop, iSet, iFld, dMeth, dIfE, isND, PK.isNon, oSome, oNone, HT.sIx, enc, q1, e]
  | swap i j =>
    obtain ⟨h1, h2⟩ := h
    have e := gc_tup2 (n := n) (c := i) (d := j) (by omega) (by omega) (by omega) (by omega)
    unfold G_is_step f_is_step
    simp [fnD, sSeq, sSet, sDrop, sRet, sRetN, sIf, sAsg, sPar, sFor, forD, dC, dVar, dOp, der, ders, frz, frzs, dTup, dLst, aNil, aCons, aStar, PK.mk, dCB, PK.g1, PK.g2, lenD, absD, maxD, minD, PK.intD, listD, tupD, sumD, allD, intsD, bls, addD, subD, mulD, divD, modD, powD, cmpD, ixD, atI, ixN, dUn, negD, dB, truD, bNot, bAnd, bOr, bYes, dAndV, dOrV, dNotV, dChain, dFld, recvOk, dIsi, tyD, kitB, dCallN, callG, refs, renum, lives, PK.putAll, hNm, hSub, hNil, hCons, hTup, setIx, asgT, setAll, dMt, appD, extD, dLc, lcGo, wipeD, iSq, iRg1, iRg2, iZipD, iEnumD, iRevD, srcOf, rangeD, zipD, small, itemsD, List.range, List.range.loop, eqD_int, dSl, dRev, slD, cutD, okR, sNext, sNever, sBrk, sCnt, dMake, makeG, PK.initD, iSeq, iDrop, iSet, iFld, dMeth, dIfE, isND, PK.isNon, oSome, oNone, HT.sIx, enc, q4, e, h1]
  | turn i =>
    have h1 : i < n := h
    have e := gc_tup1 (n := n) (c := i) (by omega) (by omega)
    unfold G_is_step f_is_step
    simp [fnD, sSeq, sSet, sDrop, sRet, sRetN, sIf, sAsg, sPar, sFor, forD, dC, dVar, dOp, der, ders, frz, frzs, dTup, dLst, aNil, aCons, aStar, PK.mk, dCB, PK.g1, PK.g2, lenD, absD, maxD, minD, PK.intD, listD, tupD, sumD, allD, intsD, bls, addD, subD, mulD, divD, modD, powD, cmpD, ixD, atI, ixN, dUn, negD, dB, truD, bNot, bAnd, bOr, bYes, dAndV, dOrV, dNotV, dChain, dFld, recvOk, dIsi, tyD, kitB, dCallN, callG, refs, renum, lives, PK.putAll, hNm, hSub, hNil, hCons, hTup, setIx, asgT, setAll, dMt, appD, extD, dLc, lcGo, wipeD, iSq, iRg1, iRg2, iZipD, iEnumD, iRevD, srcOf, rangeD, zipD, small, itemsD, List.range, List.range.loop, eqD_int, dSl, dRev, slD, cutD, okR, sNext, sNever, sBrk, sCnt, dMake, makeG, PK.initD, iSeq, iDrop, iSet, iFld, dMeth, dIfE, isND, PK.isNon, oSome, oNone, HT.sIx, enc, q6, e]
end K12

set_option maxHeartbeats 0
namespace K12
open PySem L2 PK
/-! ### chains -/
def encs (ss : List S) : List D := ss.map enc
abbrev fsC : List Str := ["_channels", "_steps"]
def chD (n : Nat) (ss : List S) : D := .ins "Chain" fsC [.int n, .lst (encs ss)]
def runs : List S → List Int → List Int
  | [], v => v
  | s :: ss, v => runs ss (go s v)
def rows : List S → List Int → List (List Int)
  | [], v => [v]
  | s :: ss, v => v :: rows ss (go s v)
def backs (ss : List S) : List S := ss.reverse.map back
theorem kn : ¬ (("_steps" : Str) = ("_channels" : Str)) := by decide +kernel
theorem fl_steps {d e : D} : (fsC.zip [d, e]).lookup ("_steps" : Str) = some e := by
  have h : (("_steps" : Str) == ("_channels" : Str)) = false := by decide +kernel
  show List.lookup ("_steps" : Str) [(("_channels" : Str), d), (("_steps" : Str), e)] = some e
  simp only [List.lookup, h, beq_self_eq_true]
theorem fl_ch {d e : D} : (fsC.zip [d, e]).lookup ("_channels" : Str) = some d := by
  show List.lookup ("_channels" : Str) [(("_channels" : Str), d), (("_steps" : Str), e)] = some d
  simp only [List.lookup, beq_self_eq_true]
theorem fl_steps' {d e : D} : List.lookup ("_steps" : Str) [(("_channels" : Str), d), (("_steps" : Str), e)] = some e := fl_steps
theorem fl_ch' {d e : D} : List.lookup ("_channels" : Str) [(("_channels" : Str), d), (("_steps" : Str), e)] = some d := fl_ch
theorem fd_steps {n : Nat} {ss : List S} {f : EF} {δ δ' : Dl} (h : f δ = some (.fz (chD n ss), δ')) : dFld "Chain" "_steps" f δ = some (.fz (.lst (encs ss)), δ') := by
  simp only [dFld, h, Option.bind_some, chD, if_true, fl_steps, Option.map_some]
theorem fd_ch {n : Nat} {ss : List S} {f : EF} {δ δ' : Dl} (h : f δ = some (.fz (chD n ss), δ')) : dFld "Chain" "_channels" f δ = some (.fz (.int n), δ') := by
  simp only [dFld, h, Option.bind_some, chD, if_true, fl_ch, Option.map_some]
theorem rv_at {n : Nat} {ss : List S} : recvOk "Chain" "at" (.fz (chD n ss)) = true := by
  show (decide (("Chain" : Str) = ("Chain" : Str)) && !fsC.contains ("at" : Str)) = true
  decide +kernel
theorem rv_no {n : Nat} {ss : List S} : recvOk "Chain" "" (.fz (chD n ss)) = true := by
  show (decide (("Chain" : Str) = ("Chain" : Str)) && !fsC.contains ("" : Str)) = true
  decide +kernel
theorem inD23 {n : Nat} (hn : n = 2 ∨ n = 3) {δ : Dl} : PK.inD true δ (.int n) (.tup [.int 2, .int 3]) = some (.fz (.bl false), δ) := by rcases hn with rfl | rfl <;> rfl
theorem g_check {n : Nat} (hn : n = 2 ∨ n = 3) {ss : List S} (h : ∀ s ∈ ss, Ok n s) : G_check_chain [.fz (.int n), .fz (.lst (encs ss))] [] = some (.val .non, []) := by
  have loop : ∀ (L : Option Vl) (ss : List S) (i : Nat) (a b : Option Vl), (∀ s ∈ ss, Ok n s) → ∃ a' b', forD [] (.tp [2, 3]) (sIf (bNot (dB (dCallN false 2 G_is_step (aCons (dVar 0) (aCons (dVar 3) aNil))))) sNever sNext) (enumD i (encs ss)) ⟨[some (.fz (.int n)), L, a, b], []⟩ = some (.nx, ⟨[some (.fz (.int n)), L, a', b'], []⟩) := by
    intro L ss
    induction ss with
    | nil => intro i a b _; exact ⟨a, b, by simp [encs, enumD, forD]⟩
    | cons s ss ih =>
      intro i a b hs
      obtain ⟨a', b', e⟩ := ih (i + 1) (some (.fz (.int i))) (some (.fz (enc s))) fun x hx => hs x (List.mem_cons_of_mem _ hx)
      refine ⟨a', b', ?_⟩
      have e1 := g_is_step hn (hs s List.mem_cons_self)
      simp only [encs, List.map_cons, enumD]
      rw [forD]
      rw [← e]
      simp [fnD, sSeq, sSet, sDrop, sRet, sRetN, sIf, sAsg, sPar, sFor, forD, dC, dVar, dOp, der, ders, frz, frzs, dTup, dLst, aNil, aCons, aStar, PK.mk, dCB, PK.g1, PK.g2, lenD, absD, maxD, minD, PK.intD, listD, tupD, sumD, allD, intsD, bls, addD, subD, mulD, divD, modD, powD, cmpD, ixD, atI, ixN, dUn, negD, dB, truD, bNot, bAnd, bOr, bYes, dAndV, dOrV, dNotV, dChain, dFld, recvOk, dIsi, tyD, kitB, dCallN, callG, refs, renum, lives, PK.putAll, hNm, hSub, hNil, hCons, hTup, setIx, asgT, setAll, dMt, appD, extD, dLc, lcGo, wipeD, iSq, iRg1, iRg2, iZipD, iEnumD, iRevD, srcOf, rangeD, zipD, small, itemsD, List.range, List.range.loop, eqD_int, dSl, dRev, slD, cutD, okR, sNext, sNever, sBrk, sCnt, dMake, makeG, PK.initD, iSeq, iDrop, iSet, iFld, dMeth, dIfE, isND, PK.isNon, oSome, oNone, HT.sIx, e1]
      rfl
  obtain ⟨a', b', e⟩ := loop (some (.fz (.lst (encs ss)))) ss 0 none none h
  unfold G_check_chain f_check_chain
  simp [fnD, sSeq, sSet, sDrop, sRet, sRetN, sIf, sAsg, sPar, sFor, forD, dC, dVar, dOp, der, ders, frz, frzs, dTup, dLst, aNil, aCons, aStar, PK.mk, dCB, PK.g1, PK.g2, lenD, absD, maxD, minD, PK.intD, listD, tupD, sumD, allD, intsD, bls, addD, subD, mulD, divD, modD, powD, cmpD, ixD, atI, ixN, dUn, negD, dB, truD, bNot, bAnd, bOr, bYes, dAndV, dOrV, dNotV, dChain, dFld, recvOk, dIsi, tyD, kitB, dCallN, callG, refs, renum, lives, PK.putAll, hNm, hSub, hNil, hCons, hTup, setIx, asgT, setAll, dMt, appD, extD, dLc, lcGo, wipeD, iSq, iRg1, iRg2, iZipD, iEnumD, iRevD, srcOf, rangeD, zipD, small, itemsD, List.range, List.range.loop, eqD_int, dSl, dRev, slD, cutD, okR, sNext, sNever, sBrk, sCnt, dMake, makeG, PK.initD, iSeq, iDrop, iSet, iFld, dMeth, dIfE, isND, PK.isNon, oSome, oNone, HT.sIx, inD23 hn, e]
theorem g_init {n : Nat} (hn : n = 2 ∨ n = 3) {ss : List S} (h : ∀ s ∈ ss, Ok n s) : G_Chain_init [.fz (.int n), .fz (.lst (encs ss))] [] = some (fsC, [.int n, .lst (encs ss)], []) := by
  have e := g_check hn h
  unfold G_Chain_init f_Chain_init
  simp [fnD, sSeq, sSet, sDrop, sRet, sRetN, sIf, sAsg, sPar, sFor, forD, dC, dVar, dOp, der, ders, frz, frzs, dTup, dLst, aNil, aCons, aStar, PK.mk, dCB, PK.g1, PK.g2, lenD, absD, maxD, minD, PK.intD, listD, tupD, sumD, allD, intsD, bls, addD, subD, mulD, divD, modD, powD, cmpD, ixD, atI, ixN, dUn, negD, dB, truD, bNot, bAnd, bOr, bYes, dAndV, dOrV, dNotV, dChain, dFld, recvOk, dIsi, tyD, kitB, dCallN, callG, refs, renum, lives, PK.putAll, hNm, hSub, hNil, hCons, hTup, setIx, asgT, setAll, dMt, appD, extD, dLc, lcGo, wipeD, iSq, iRg1, iRg2, iZipD, iEnumD, iRevD, srcOf, rangeD, zipD, small, itemsD, List.range, List.range.loop, eqD_int, dSl, dRev, slD, cutD, okR, sNext, sNever, sBrk, sCnt, dMake, makeG, PK.initD, iSeq, iDrop, iSet, iFld, dMeth, dIfE, isND, PK.isNon, oSome, oNone, HT.sIx, e, kn]
theorem mk_chain {n : Nat} (hn : n = 2 ∨ n = 3) {ss : List S} (h : ∀ s ∈ ss, Ok n s) {fa : AF} {δ δ' : Dl} (e : fa δ = some ([.fz (.int n), .fz (.lst (encs ss))], δ')) : dMake "Chain" 3 G_Chain_init fa δ = some (.fz (chD n ss), δ') := by
  simp [dMake, e, makeG, refs, renum, lives, g_init hn h, PK.putAll, chD]
/-! ### its methods -/
def Oks (n : Nat) (ss : List S) : Prop := ∀ s ∈ ss, Ok n s
theorem g_at {n k : Nat} (hn : n = 2 ∨ n = 3) {ss : List S} {v : List Int} (h : Oks n ss) (hv : v.length = n) (hb : Bd k v) (hk : k + 8 * ss.length ≤ 1000) : G_Chain_at [.fz (chD n ss), .fz (tupI v)] [] = some (.val (tupI (runs ss v)), []) := by
  have loop : ∀ (A B : Option Vl) (ss : List S) (v : List Int) (k : Nat) (b : Option Vl), Oks n ss → v.length = n → Bd k v → k + 8 * ss.length ≤ 1000 → ∃ b', forD [] (.nm 3) (sSet 2 (dCallN false 2 G_apply_step (aCons (dVar 3) (aCons (dVar 2) aNil)))) (encs ss) ⟨[A, B, some (.fz (tupI v)), b], []⟩ = some (.nx, ⟨[A, B, some (.fz (tupI (runs ss v))), b'], []⟩) := by
    intro A B ss
    induction ss with
    | nil => intro v k b _ _ _ _; exact ⟨b, by simp [encs, forD, runs]⟩
    | cons s ss ih =>
      intro v k b hs hv hb hk
      have h1 := hs s List.mem_cons_self
      rw [List.length_cons] at hk
      obtain ⟨b', e⟩ := ih (go s v) (k + 8) (some (.fz (enc s))) (fun x hx => hs x (List.mem_cons_of_mem _ hx)) (by rw [go_len, hv]) (go_bd hn hv h1 hb) (by omega)
      refine ⟨b', ?_⟩
      have e1 := g_apply hn hv h1 hb (by omega)
      simp only [encs, List.map_cons, runs]
      rw [forD]
      unfold encs at e
      rw [← e]
      simp [fnD, sSeq, sSet, sDrop, sRet, sRetN, sIf, sAsg, sPar, sFor, forD, dC, dVar, dOp, der, ders, frz, frzs, dTup, dLst, aNil, aCons, aStar, PK.mk, dCB, PK.g1, PK.g2, lenD, absD, maxD, minD, PK.intD, listD, tupD, sumD, allD, intsD, bls, addD, subD, mulD, divD, modD, powD, cmpD, ixD, atI, ixN, dUn, negD, dB, truD, bNot, bAnd, bOr, bYes, dAndV, dOrV, dNotV, dChain, dFld, recvOk, dIsi, tyD, kitB, dCallN, callG, refs, renum, lives, PK.putAll, hNm, hSub, hNil, hCons, hTup, setIx, asgT, setAll, dMt, appD, extD, dLc, lcGo, wipeD, iSq, iRg1, iRg2, iZipD, iEnumD, iRevD, srcOf, rangeD, zipD, small, itemsD, List.range, List.range.loop, eqD_int, dSl, dRev, slD, cutD, okR, sNext, sNever, sBrk, sCnt, dMake, makeG, PK.initD, iSeq, iDrop, iSet, iFld, dMeth, dIfE, isND, PK.isNon, oSome, oNone, HT.sIx, e1]
  obtain ⟨b', e⟩ := loop (some (.fz (chD n ss))) (some (.fz (tupI v))) ss v k none h hv hb hk
  unfold tupI chD at e
  unfold G_Chain_at f_Chain_at
  simp [fnD, sSeq, sSet, sDrop, sRet, sRetN, sIf, sAsg, sPar, sFor, forD, dC, dVar, dOp, der, ders, frz, frzs, dTup, dLst, aNil, aCons, aStar, PK.mk, dCB, PK.g1, PK.g2, lenD, absD, maxD, minD, PK.intD, listD, tupD, sumD, allD, intsD, bls, addD, subD, mulD, divD, modD, powD, cmpD, ixD, atI, ixN, dUn, negD, dB, truD, bNot, bAnd, bOr, bYes, dAndV, dOrV, dNotV, dChain, dFld, recvOk, dIsi, tyD, kitB, dCallN, callG, refs, renum, lives, PK.putAll, hNm, hSub, hNil, hCons, hTup, setIx, asgT, setAll, dMt, appD, extD, dLc, lcGo, wipeD, iSq, iRg1, iRg2, iZipD, iEnumD, iRevD, srcOf, rangeD, zipD, small, itemsD, List.range, List.range.loop, eqD_int, dSl, dRev, slD, cutD, okR, sNext, sNever, sBrk, sCnt, dMake, makeG, PK.initD, iSeq, iDrop, iSet, iFld, dMeth, dIfE, isND, PK.isNon, oSome, oNone, HT.sIx, chD, fl_steps', e, tupI]
end K12

set_option maxHeartbeats 0
namespace K12
open PySem L2 PK
theorem atI_last {α : Type} (xs : List α) (x : α) : atI (xs ++ [x]) (-1) = some x := by
  unfold atI ixN
  rw [if_neg (by decide), List.length_append, List.length_singleton, if_pos (by omega), Option.bind_some, show (-1 + ((xs.length + 1 : Nat) : Int)).toNat = xs.length by omega]
  simp
theorem g_walk {n k : Nat} (hn : n = 2 ∨ n = 3) {ss : List S} {v : List Int} (h : Oks n ss) (hv : v.length = n) (hb : Bd k v) (hk : k + 8 * ss.length ≤ 1000) (hl : ss.length ≤ 1000) : G_law_walk [.fz (.lst (encs ss)), .fz (tupI v)] [] = some (.fresh ((rows ss v).map tupI), []) := by
  have loop : ∀ (A B : Option Vl) (ss : List S) (v : List Int) (k : Nat) (b : Option Vl) (acc : List D), Oks n ss → v.length = n → Bd k v → k + 8 * ss.length ≤ 1000 → acc.length + ss.length ≤ 2000 → ∃ b', forD [] (.nm 3) (sDrop (dMt appD (dVar 2) (aCons (dCallN false 2 G_law_done (aCons (dVar 3) (aCons (dOp ixD (dVar 2) (dUn negD (dC (.int 1)))) aNil))) aNil))) (encs ss) ⟨[A, B, some (.rf 0), b], [some (acc ++ [tupI v])]⟩ = some (.nx, ⟨[A, B, some (.rf 0), b'], [some (acc ++ (rows ss v).map tupI)]⟩) := by
    intro A B ss
    induction ss with
    | nil => intro v k b acc _ _ _ _ _; exact ⟨b, by simp [encs, forD, rows]⟩
    | cons s ss ih =>
      intro v k b acc hs hv hb hk hl
      have h1 := hs s List.mem_cons_self
      rw [List.length_cons] at hk hl
      obtain ⟨b', e⟩ := ih (go s v) (k + 8) (some (.fz (enc s))) (acc ++ [tupI v]) (fun x hx => hs x (List.mem_cons_of_mem _ hx)) (by rw [go_len, hv]) (go_bd hn hv h1 hb) (by omega) (by simp; omega)
      refine ⟨b', ?_⟩
      have e1 := g_done hn hv h1 hb (by omega)
      simp only [encs, List.map_cons, rows]
      rw [forD]
      unfold encs at e
      rw [List.append_assoc] at e
      simp only [List.singleton_append, List.append_assoc] at e
      rw [← e]
      have h3 : acc.length + 1 < 100000 := by omega
      have h4 : atI (acc ++ [tupI v]) (-1) = some (tupI v) := atI_last _ _
      have h5 : dOp ixD (dVar 2) (dUn negD (dC (.int 1))) ⟨[A, B, some (.rf 0), some (.fz (enc s))], [some (acc ++ [tupI v])]⟩ = some (.fz (tupI v), ⟨[A, B, some (.rf 0), some (.fz (enc s))], [some (acc ++ [tupI v])]⟩) := by
        simp [dOp, dVar, dUn, dC, negD, der, ixD, h4]
      simp [asgT, sDrop, dMt, dVar, aCons, aNil, dCallN, h5, callG, refs, lives, renum, e1, PK.putAll, frzs, frz, appD, h3, small]
  obtain ⟨b', e⟩ := loop (some (.fz (.lst (encs ss)))) (some (.fz (tupI v))) ss v k none [] h hv hb hk (by simp; omega)
  simp only [List.nil_append] at e
  unfold G_law_walk f_law_walk
  simp [fnD, sSeq, sSet, sDrop, sRet, sRetN, sIf, sAsg, sPar, sFor, forD, dC, dVar, dOp, der, ders, frz, frzs, dTup, dLst, aNil, aCons, aStar, PK.mk, dCB, PK.g1, PK.g2, lenD, absD, maxD, minD, PK.intD, listD, tupD, sumD, allD, intsD, bls, addD, subD, mulD, divD, modD, powD, cmpD, ixD, atI, ixN, dUn, negD, dB, truD, bNot, bAnd, bOr, bYes, dAndV, dOrV, dNotV, dChain, dFld, recvOk, dIsi, tyD, kitB, dCallN, callG, refs, renum, lives, PK.putAll, hNm, hSub, hNil, hCons, hTup, setIx, asgT, setAll, dMt, appD, extD, dLc, lcGo, wipeD, iSq, iRg1, iRg2, iZipD, iEnumD, iRevD, srcOf, rangeD, zipD, small, itemsD, List.range, List.range.loop, eqD_int, dSl, dRev, slD, cutD, okR, sNext, sNever, sBrk, sCnt, dMake, makeG, PK.initD, iSeq, iDrop, iSet, iFld, dMeth, dIfE, isND, PK.isNon, oSome, oNone, HT.sIx, e]
/-! ### back and forth -/
theorem backs_len (ss : List S) : (backs ss).length = ss.length := by simp [backs]
theorem runs_len {ss : List S} : ∀ {v : List Int}, (runs ss v).length = v.length := by
  induction ss with
  | nil => intro v; rfl
  | cons s ss ih => intro v; rw [runs, ih, go_len]
theorem runs_bd {n : Nat} (hn : n = 2 ∨ n = 3) {ss : List S} : ∀ {k : Nat} {v : List Int}, Oks n ss → v.length = n → Bd k v → Bd (k + 8 * ss.length) (runs ss v) := by
  induction ss with
  | nil => intro k v _ _ h; exact h
  | cons s ss ih =>
    intro k v h hv hb
    have := ih (k := k + 8) (fun x hx => h x (List.mem_cons_of_mem _ hx)) (by rw [go_len, hv]) (go_bd hn hv (h s List.mem_cons_self) hb)
    rw [List.length_cons, show k + 8 * (ss.length + 1) = k + 8 + 8 * ss.length by omega]
    exact this
theorem runs_app (ss ts : List S) : ∀ (v : List Int), runs (ss ++ ts) v = runs ts (runs ss v) := by
  induction ss with
  | nil => intro v; rfl
  | cons s ss ih => intro v; exact ih _
theorem rows_app (ss : List S) (s : S) : ∀ (v : List Int), rows (ss ++ [s]) v = rows ss v ++ [go s (runs ss v)] := by
  induction ss with
  | nil => intro v; rfl
  | cons t ss ih => intro v; simp only [List.cons_append, rows, ih, runs]
theorem runs_back {n : Nat} (hn : n = 2 ∨ n = 3) {ss : List S} : ∀ {v : List Int}, Oks n ss → v.length = n → runs (backs ss) (runs ss v) = v := by
  induction ss with
  | nil => intro v _ _; rfl
  | cons s ss ih =>
    intro v h hv
    have e : backs (s :: ss) = backs ss ++ [back s] := by simp [backs]
    have e2 := ih (v := go s v) (fun x hx => h x (List.mem_cons_of_mem _ hx)) (by rw [go_len, hv])
    rw [e, runs_app]
    simp only [runs, e2]
    exact go_back hn hv (h s List.mem_cons_self)
theorem backs_backs {n : Nat} {ss : List S} (h : Oks n ss) : backs (backs ss) = ss := by
  unfold backs
  rw [← List.map_reverse, List.reverse_reverse, List.map_map]
  refine Eq.trans (List.map_congr_left fun s hs => ?_) (List.map_id _)
  exact back_back (h s hs)
end K12

set_option maxHeartbeats 0
namespace K12
open PySem L2 PK
/-! ### the draws -/
def Pool (m : Nat) (p : List D) : Prop := ∃ a b c : Int, p = [.int a, .int b, .int c] ∧ 0 ≤ b ∧ b < 2 ^ 80 ∧ 0 ≤ c ∧ c ≤ m
theorem Pool.up {m n : Nat} {p : List D} (h : Pool m p) (hn : m ≤ n) : Pool n p := by
  obtain ⟨a, b, c, h1, h2, h3, h4, h5⟩ := h
  exact ⟨a, b, c, h1, h2, h3, h4, by omega⟩
theorem log_of {i : Int} {n : Nat} (h : i.natAbs < 2 ^ n) : i.natAbs.log2 ≤ n := by
  rcases Nat.eq_zero_or_pos i.natAbs with e | e
  · rw [e]; simp
  · exact Nat.le_of_lt ((Nat.log2_lt (by omega)).mpr h)
theorem okMul_nn {i j : Int} (hi : i.natAbs < 2 ^ 200) (hj : j.natAbs < 2 ^ 200) : okMul i j = true := by
  unfold okMul
  have := log_of hi
  have := log_of hj
  exact decide_eq_true (by omega)
theorem okPow_of {i : Int} (hi : i.natAbs < 2 ^ 200) : okPow i = true := by
  unfold okPow
  have := log_of hi
  exact decide_eq_true (by omega)
theorem g_draw {m : Nat} {p : List D} {many : Int} (hp : Pool m p) (h0 : 0 < many) (h1 : many < 2 ^ 200) (hm : m ≤ 10000) :
    ∃ d p', G_law_draw [.rf 0, .fz (.int many)] [p] = some (.val (.int d), [p']) ∧ 0 ≤ d ∧ d < many ∧ Pool (m + 1) p' := by
  obtain ⟨a, b, c, rfl, hb, hb2, hc, hc2⟩ := hp
  have e1 : okDiv many = true := okDiv_of (by omega) (by omega)
  by_cases ha : 0 < a
  · refine ⟨a % many, [.int (a / many), .int b, .int c], ?_, Int.emod_nonneg _ (by omega), Int.emod_lt_of_pos _ h0, ⟨_, _, _, rfl, hb, hb2, hc, by omega⟩⟩
    unfold G_law_draw f_law_draw
    simp [fnD, sSeq, sSet, sDrop, sRet, sRetN, sIf, sAsg, sPar, sFor, forD, dC, dVar, dOp, der, ders, frz, frzs, dTup, dLst, aNil, aCons, aStar, PK.mk, dCB, PK.g1, PK.g2, lenD, absD, maxD, minD, PK.intD, listD, tupD, sumD, allD, intsD, bls, addD, subD, mulD, divD, modD, powD, cmpD, ixD, atI, ixN, dUn, negD, dB, truD, bNot, bAnd, bOr, bYes, dAndV, dOrV, dNotV, dChain, dFld, recvOk, dIsi, tyD, kitB, dCallN, callG, refs, renum, lives, PK.putAll, hNm, hSub, hNil, hCons, hTup, setIx, asgT, setAll, dMt, appD, extD, dLc, lcGo, wipeD, iSq, iRg1, iRg2, iZipD, iEnumD, iRevD, srcOf, rangeD, zipD, small, itemsD, List.range, List.range.loop, eqD_int, dSl, dRev, slD, cutD, okR, sNext, sNever, sBrk, sCnt, dMake, makeG, PK.initD, iSeq, iDrop, iSet, iFld, dMeth, dIfE, isND, PK.isNon, oSome, oNone, HT.sIx, ha, h0, e1]
  · generalize hx : ((b + 15485863 * (c + 1)) ^ 3) % 162259276829213363391578010288127 = x
    have hx0 : 0 ≤ x := by rw [← hx]; exact Int.emod_nonneg _ (by decide)
    have hx1 : x < 162259276829213363391578010288127 := by rw [← hx]; exact Int.emod_lt_of_pos _ (by decide)
    refine ⟨((x + 32452843 * (c + 1)) ^ 3) % 170141183460469231731687303715884105727 / 1048576 % many, [.int a, .int b, .int (c + 1)], ?_, Int.emod_nonneg _ (by omega), Int.emod_lt_of_pos _ h0, ⟨_, _, _, rfl, hb, hb2, by omega, by omega⟩⟩
    have e2 : okMul 15485863 (c + 1) = true := okMul_nn (by decide) (by omega)
    have e3 : okMul 32452843 (c + 1) = true := okMul_nn (by decide) (by omega)
    have e4 : okPow (b + 15485863 * (c + 1)) = true := okPow_of (by omega)
    have e5 : okPow (x + 32452843 * (c + 1)) = true := okPow_of (by omega)
    have e6 : okDiv 1048576 = true := by decide
    unfold G_law_draw f_law_draw
    simp [fnD, sSeq, sSet, sDrop, sRet, sRetN, sIf, sAsg, sPar, sFor, forD, dC, dVar, dOp, der, ders, frz, frzs, dTup, dLst, aNil, aCons, aStar, PK.mk, dCB, PK.g1, PK.g2, lenD, absD, maxD, minD, PK.intD, listD, tupD, sumD, allD, intsD, bls, addD, subD, mulD, divD, modD, powD, cmpD, ixD, atI, ixN, dUn, negD, dB, truD, bNot, bAnd, bOr, bYes, dAndV, dOrV, dNotV, dChain, dFld, recvOk, dIsi, tyD, kitB, dCallN, callG, refs, renum, lives, PK.putAll, hNm, hSub, hNil, hCons, hTup, setIx, asgT, setAll, dMt, appD, extD, dLc, lcGo, wipeD, iSq, iRg1, iRg2, iZipD, iEnumD, iRevD, srcOf, rangeD, zipD, small, itemsD, List.range, List.range.loop, eqD_int, dSl, dRev, slD, cutD, okR, sNext, sNever, sBrk, sCnt, dMake, makeG, PK.initD, iSeq, iDrop, iSet, iFld, dMeth, dIfE, isND, PK.isNon, oSome, oNone, HT.sIx, ha, h0, e1, e2, e3, e4, e5, e6, hx]
/-- a draw within a call's own numbering -/
theorem d_draw {m : Nat} {p : List D} {many : Int} (hp : Pool m p) (h0 : 0 < many) (h1 : many < 2 ^ 200) (hm : m ≤ 10000) : ∃ d p', 0 ≤ d ∧ d < many ∧ Pool (m + 1) p' ∧
    ∀ {fa : AF} {δ δ' : Dl} {k : Nat}, fa δ = some ([.rf k, .fz (.int many)], δ') → δ'.st[k]? = some (some p) → dCallN false 2 G_law_draw fa δ = some (.fz (.int d), { δ' with st := δ'.st.set k (some p') }) := by
  obtain ⟨d, p', e, h2, h3, h4⟩ := g_draw hp h0 h1 hm
  refine ⟨d, p', h2, h3, h4, fun ea ek => ?_⟩
  simp [dCallN, ea, callG, refs, lives, ek, renum, e, PK.putAll]
end K12

set_option maxHeartbeats 0
namespace K12
open PySem L2 PK
theorem six {d : Int} (h0 : 0 ≤ d) (h : d < 6) : d = 0 ∨ d = 1 ∨ d = 2 ∨ d = 3 ∨ d = 4 ∨ d = 5 := by omega
theorem g_more {m : Nat} {p : List D} (hp : Pool m p) (hm : m ≤ 9000) : ∃ v p', G_law_more [.rf 0] [p] = some (.val (.int v), [p']) ∧ -20 ≤ v ∧ v ≤ 20 ∧ Pool (m + 2) p' := by
  obtain ⟨d, p1, e1, h1, h2, hp1⟩ := g_draw (many := 41) hp (by decide) (by decide) (by omega)
  obtain ⟨k, p2, e2, h3, h4, hp2⟩ := g_draw (many := 6) hp1 (by decide) (by decide) (by omega)
  rcases six h3 h4 with rfl | rfl | rfl | rfl | rfl | rfl
  · exact ⟨0, p2, by unfold G_law_more f_law_more; simp [fnD, sSeq, sSet, sDrop, sRet, sRetN, sIf, sAsg, sPar, sFor, forD, dC, dVar, dOp, der, ders, frz, frzs, dTup, dLst, aNil, aCons, aStar, PK.mk, dCB, PK.g1, PK.g2, lenD, absD, maxD, minD, PK.intD, listD, tupD, sumD, allD, intsD, bls, addD, subD, mulD, divD, modD, powD, cmpD, ixD, atI, ixN, dUn, negD, dB, truD, bNot, bAnd, bOr, bYes, dAndV, dOrV, dNotV, dChain, dFld, recvOk, dIsi, tyD, kitB, dCallN, callG, refs, renum, lives, PK.putAll, hNm, hSub, hNil, hCons, hTup, setIx, asgT, setAll, dMt, appD, extD, dLc, lcGo, wipeD, iSq, iRg1, iRg2, iZipD, iEnumD, iRevD, srcOf, rangeD, zipD, small, itemsD, List.range, List.range.loop, eqD_int, dSl, dRev, slD, cutD, okR, sNext, sNever, sBrk, sCnt, dMake, makeG, PK.initD, iSeq, iDrop, iSet, iFld, dMeth, dIfE, isND, PK.isNon, oSome, oNone, HT.sIx, e1, e2], by omega, by omega, hp2⟩
  · exact ⟨1, p2, by unfold G_law_more f_law_more; simp [fnD, sSeq, sSet, sDrop, sRet, sRetN, sIf, sAsg, sPar, sFor, forD, dC, dVar, dOp, der, ders, frz, frzs, dTup, dLst, aNil, aCons, aStar, PK.mk, dCB, PK.g1, PK.g2, lenD, absD, maxD, minD, PK.intD, listD, tupD, sumD, allD, intsD, bls, addD, subD, mulD, divD, modD, powD, cmpD, ixD, atI, ixN, dUn, negD, dB, truD, bNot, bAnd, bOr, bYes, dAndV, dOrV, dNotV, dChain, dFld, recvOk, dIsi, tyD, kitB, dCallN, callG, refs, renum, lives, PK.putAll, hNm, hSub, hNil, hCons, hTup, setIx, asgT, setAll, dMt, appD, extD, dLc, lcGo, wipeD, iSq, iRg1, iRg2, iZipD, iEnumD, iRevD, srcOf, rangeD, zipD, small, itemsD, List.range, List.range.loop, eqD_int, dSl, dRev, slD, cutD, okR, sNext, sNever, sBrk, sCnt, dMake, makeG, PK.initD, iSeq, iDrop, iSet, iFld, dMeth, dIfE, isND, PK.isNon, oSome, oNone, HT.sIx, e1, e2], by omega, by omega, hp2⟩
  · exact ⟨-1, p2, by unfold G_law_more f_law_more; simp [fnD, sSeq, sSet, sDrop, sRet, sRetN, sIf, sAsg, sPar, sFor, forD, dC, dVar, dOp, der, ders, frz, frzs, dTup, dLst, aNil, aCons, aStar, PK.mk, dCB, PK.g1, PK.g2, lenD, absD, maxD, minD, PK.intD, listD, tupD, sumD, allD, intsD, bls, addD, subD, mulD, divD, modD, powD, cmpD, ixD, atI, ixN, dUn, negD, dB, truD, bNot, bAnd, bOr, bYes, dAndV, dOrV, dNotV, dChain, dFld, recvOk, dIsi, tyD, kitB, dCallN, callG, refs, renum, lives, PK.putAll, hNm, hSub, hNil, hCons, hTup, setIx, asgT, setAll, dMt, appD, extD, dLc, lcGo, wipeD, iSq, iRg1, iRg2, iZipD, iEnumD, iRevD, srcOf, rangeD, zipD, small, itemsD, List.range, List.range.loop, eqD_int, dSl, dRev, slD, cutD, okR, sNext, sNever, sBrk, sCnt, dMake, makeG, PK.initD, iSeq, iDrop, iSet, iFld, dMeth, dIfE, isND, PK.isNon, oSome, oNone, HT.sIx, e1, e2], by omega, by omega, hp2⟩
  · exact ⟨d - 20, p2, by unfold G_law_more f_law_more; simp [fnD, sSeq, sSet, sDrop, sRet, sRetN, sIf, sAsg, sPar, sFor, forD, dC, dVar, dOp, der, ders, frz, frzs, dTup, dLst, aNil, aCons, aStar, PK.mk, dCB, PK.g1, PK.g2, lenD, absD, maxD, minD, PK.intD, listD, tupD, sumD, allD, intsD, bls, addD, subD, mulD, divD, modD, powD, cmpD, ixD, atI, ixN, dUn, negD, dB, truD, bNot, bAnd, bOr, bYes, dAndV, dOrV, dNotV, dChain, dFld, recvOk, dIsi, tyD, kitB, dCallN, callG, refs, renum, lives, PK.putAll, hNm, hSub, hNil, hCons, hTup, setIx, asgT, setAll, dMt, appD, extD, dLc, lcGo, wipeD, iSq, iRg1, iRg2, iZipD, iEnumD, iRevD, srcOf, rangeD, zipD, small, itemsD, List.range, List.range.loop, eqD_int, dSl, dRev, slD, cutD, okR, sNext, sNever, sBrk, sCnt, dMake, makeG, PK.initD, iSeq, iDrop, iSet, iFld, dMeth, dIfE, isND, PK.isNon, oSome, oNone, HT.sIx, e1, e2], by omega, by omega, hp2⟩
  · exact ⟨20, p2, by unfold G_law_more f_law_more; simp [fnD, sSeq, sSet, sDrop, sRet, sRetN, sIf, sAsg, sPar, sFor, forD, dC, dVar, dOp, der, ders, frz, frzs, dTup, dLst, aNil, aCons, aStar, PK.mk, dCB, PK.g1, PK.g2, lenD, absD, maxD, minD, PK.intD, listD, tupD, sumD, allD, intsD, bls, addD, subD, mulD, divD, modD, powD, cmpD, ixD, atI, ixN, dUn, negD, dB, truD, bNot, bAnd, bOr, bYes, dAndV, dOrV, dNotV, dChain, dFld, recvOk, dIsi, tyD, kitB, dCallN, callG, refs, renum, lives, PK.putAll, hNm, hSub, hNil, hCons, hTup, setIx, asgT, setAll, dMt, appD, extD, dLc, lcGo, wipeD, iSq, iRg1, iRg2, iZipD, iEnumD, iRevD, srcOf, rangeD, zipD, small, itemsD, List.range, List.range.loop, eqD_int, dSl, dRev, slD, cutD, okR, sNext, sNever, sBrk, sCnt, dMake, makeG, PK.initD, iSeq, iDrop, iSet, iFld, dMeth, dIfE, isND, PK.isNon, oSome, oNone, HT.sIx, e1, e2], by omega, by omega, hp2⟩
  · exact ⟨-20, p2, by unfold G_law_more f_law_more; simp [fnD, sSeq, sSet, sDrop, sRet, sRetN, sIf, sAsg, sPar, sFor, forD, dC, dVar, dOp, der, ders, frz, frzs, dTup, dLst, aNil, aCons, aStar, PK.mk, dCB, PK.g1, PK.g2, lenD, absD, maxD, minD, PK.intD, listD, tupD, sumD, allD, intsD, bls, addD, subD, mulD, divD, modD, powD, cmpD, ixD, atI, ixN, dUn, negD, dB, truD, bNot, bAnd, bOr, bYes, dAndV, dOrV, dNotV, dChain, dFld, recvOk, dIsi, tyD, kitB, dCallN, callG, refs, renum, lives, PK.putAll, hNm, hSub, hNil, hCons, hTup, setIx, asgT, setAll, dMt, appD, extD, dLc, lcGo, wipeD, iSq, iRg1, iRg2, iZipD, iEnumD, iRevD, srcOf, rangeD, zipD, small, itemsD, List.range, List.range.loop, eqD_int, dSl, dRev, slD, cutD, okR, sNext, sNever, sBrk, sCnt, dMake, makeG, PK.initD, iSeq, iDrop, iSet, iFld, dMeth, dIfE, isND, PK.isNon, oSome, oNone, HT.sIx, e1, e2], by omega, by omega, hp2⟩
/-- one weight -/
theorem d_item {m : Nat} {p acc : List D} {A B C x : Option Vl} (hp : Pool m p) (hm : m ≤ 9000) : ∃ v p', -6 ≤ v ∧ v ≤ 6 ∧ Pool (m + 2) p' ∧
    (dOp ixD (dLst false (aCons (dC (.int 0)) (aCons (dC (.int 1)) (aCons (dUn negD (dC (.int 1))) (aCons (dOp subD (dCallN false 2 G_law_draw (aCons (dVar 0) (aCons (dC (.int 13)) aNil))) (dC (.int 6))) (aCons (dC (.int 6)) (aCons (dUn negD (dC (.int 6))) aNil))))))) (dCallN false 2 G_law_draw (aCons (dVar 0) (aCons (dC (.int 6)) aNil))))
      ⟨[some (.rf 0), A, B, C, x], [some p, some acc]⟩ = some (.fz (.int v), ⟨[some (.rf 0), A, B, C, x], [some p', some acc]⟩) := by
  obtain ⟨d, p1, e1, h1, h2, hp1⟩ := g_draw (many := 13) hp (by decide) (by decide) (by omega)
  obtain ⟨k, p2, e2, h3, h4, hp2⟩ := g_draw (many := 6) hp1 (by decide) (by decide) (by omega)
  rcases six h3 h4 with rfl | rfl | rfl | rfl | rfl | rfl
  · exact ⟨0, p2, by omega, by omega, hp2, by simp [fnD, sSeq, sSet, sDrop, sRet, sRetN, sIf, sAsg, sPar, sFor, forD, dC, dVar, dOp, der, ders, frz, frzs, dTup, dLst, aNil, aCons, aStar, PK.mk, dCB, PK.g1, PK.g2, lenD, absD, maxD, minD, PK.intD, listD, tupD, sumD, allD, intsD, bls, addD, subD, mulD, divD, modD, powD, cmpD, ixD, atI, ixN, dUn, negD, dB, truD, bNot, bAnd, bOr, bYes, dAndV, dOrV, dNotV, dChain, dFld, recvOk, dIsi, tyD, kitB, dCallN, callG, refs, renum, lives, PK.putAll, hNm, hSub, hNil, hCons, hTup, setIx, asgT, setAll, dMt, appD, extD, dLc, lcGo, wipeD, iSq, iRg1, iRg2, iZipD, iEnumD, iRevD, srcOf, rangeD, zipD, small, itemsD, List.range, List.range.loop, eqD_int, dSl, dRev, slD, cutD, okR, sNext, sNever, sBrk, sCnt, dMake, makeG, PK.initD, iSeq, iDrop, iSet, iFld, dMeth, dIfE, isND, PK.isNon, oSome, oNone, HT.sIx, e1, e2]⟩
  · exact ⟨1, p2, by omega, by omega, hp2, by simp [fnD, sSeq, sSet, sDrop, sRet, sRetN, sIf, sAsg, sPar, sFor, forD, dC, dVar, dOp, der, ders, frz, frzs, dTup, dLst, aNil, aCons, aStar, PK.mk, dCB, PK.g1, PK.g2, lenD, absD, maxD, minD, PK.intD, listD, tupD, sumD, allD, intsD, bls, addD, subD, mulD, divD, modD, powD, cmpD, ixD, atI, ixN, dUn, negD, dB, truD, bNot, bAnd, bOr, bYes, dAndV, dOrV, dNotV, dChain, dFld, recvOk, dIsi, tyD, kitB, dCallN, callG, refs, renum, lives, PK.putAll, hNm, hSub, hNil, hCons, hTup, setIx, asgT, setAll, dMt, appD, extD, dLc, lcGo, wipeD, iSq, iRg1, iRg2, iZipD, iEnumD, iRevD, srcOf, rangeD, zipD, small, itemsD, List.range, List.range.loop, eqD_int, dSl, dRev, slD, cutD, okR, sNext, sNever, sBrk, sCnt, dMake, makeG, PK.initD, iSeq, iDrop, iSet, iFld, dMeth, dIfE, isND, PK.isNon, oSome, oNone, HT.sIx, e1, e2]⟩
  · exact ⟨-1, p2, by omega, by omega, hp2, by simp [fnD, sSeq, sSet, sDrop, sRet, sRetN, sIf, sAsg, sPar, sFor, forD, dC, dVar, dOp, der, ders, frz, frzs, dTup, dLst, aNil, aCons, aStar, PK.mk, dCB, PK.g1, PK.g2, lenD, absD, maxD, minD, PK.intD, listD, tupD, sumD, allD, intsD, bls, addD, subD, mulD, divD, modD, powD, cmpD, ixD, atI, ixN, dUn, negD, dB, truD, bNot, bAnd, bOr, bYes, dAndV, dOrV, dNotV, dChain, dFld, recvOk, dIsi, tyD, kitB, dCallN, callG, refs, renum, lives, PK.putAll, hNm, hSub, hNil, hCons, hTup, setIx, asgT, setAll, dMt, appD, extD, dLc, lcGo, wipeD, iSq, iRg1, iRg2, iZipD, iEnumD, iRevD, srcOf, rangeD, zipD, small, itemsD, List.range, List.range.loop, eqD_int, dSl, dRev, slD, cutD, okR, sNext, sNever, sBrk, sCnt, dMake, makeG, PK.initD, iSeq, iDrop, iSet, iFld, dMeth, dIfE, isND, PK.isNon, oSome, oNone, HT.sIx, e1, e2]⟩
  · exact ⟨d - 6, p2, by omega, by omega, hp2, by simp [fnD, sSeq, sSet, sDrop, sRet, sRetN, sIf, sAsg, sPar, sFor, forD, dC, dVar, dOp, der, ders, frz, frzs, dTup, dLst, aNil, aCons, aStar, PK.mk, dCB, PK.g1, PK.g2, lenD, absD, maxD, minD, PK.intD, listD, tupD, sumD, allD, intsD, bls, addD, subD, mulD, divD, modD, powD, cmpD, ixD, atI, ixN, dUn, negD, dB, truD, bNot, bAnd, bOr, bYes, dAndV, dOrV, dNotV, dChain, dFld, recvOk, dIsi, tyD, kitB, dCallN, callG, refs, renum, lives, PK.putAll, hNm, hSub, hNil, hCons, hTup, setIx, asgT, setAll, dMt, appD, extD, dLc, lcGo, wipeD, iSq, iRg1, iRg2, iZipD, iEnumD, iRevD, srcOf, rangeD, zipD, small, itemsD, List.range, List.range.loop, eqD_int, dSl, dRev, slD, cutD, okR, sNext, sNever, sBrk, sCnt, dMake, makeG, PK.initD, iSeq, iDrop, iSet, iFld, dMeth, dIfE, isND, PK.isNon, oSome, oNone, HT.sIx, e1, e2]⟩
  · exact ⟨6, p2, by omega, by omega, hp2, by simp [fnD, sSeq, sSet, sDrop, sRet, sRetN, sIf, sAsg, sPar, sFor, forD, dC, dVar, dOp, der, ders, frz, frzs, dTup, dLst, aNil, aCons, aStar, PK.mk, dCB, PK.g1, PK.g2, lenD, absD, maxD, minD, PK.intD, listD, tupD, sumD, allD, intsD, bls, addD, subD, mulD, divD, modD, powD, cmpD, ixD, atI, ixN, dUn, negD, dB, truD, bNot, bAnd, bOr, bYes, dAndV, dOrV, dNotV, dChain, dFld, recvOk, dIsi, tyD, kitB, dCallN, callG, refs, renum, lives, PK.putAll, hNm, hSub, hNil, hCons, hTup, setIx, asgT, setAll, dMt, appD, extD, dLc, lcGo, wipeD, iSq, iRg1, iRg2, iZipD, iEnumD, iRevD, srcOf, rangeD, zipD, small, itemsD, List.range, List.range.loop, eqD_int, dSl, dRev, slD, cutD, okR, sNext, sNever, sBrk, sCnt, dMake, makeG, PK.initD, iSeq, iDrop, iSet, iFld, dMeth, dIfE, isND, PK.isNon, oSome, oNone, HT.sIx, e1, e2]⟩
  · exact ⟨-6, p2, by omega, by omega, hp2, by simp [fnD, sSeq, sSet, sDrop, sRet, sRetN, sIf, sAsg, sPar, sFor, forD, dC, dVar, dOp, der, ders, frz, frzs, dTup, dLst, aNil, aCons, aStar, PK.mk, dCB, PK.g1, PK.g2, lenD, absD, maxD, minD, PK.intD, listD, tupD, sumD, allD, intsD, bls, addD, subD, mulD, divD, modD, powD, cmpD, ixD, atI, ixN, dUn, negD, dB, truD, bNot, bAnd, bOr, bYes, dAndV, dOrV, dNotV, dChain, dFld, recvOk, dIsi, tyD, kitB, dCallN, callG, refs, renum, lives, PK.putAll, hNm, hSub, hNil, hCons, hTup, setIx, asgT, setAll, dMt, appD, extD, dLc, lcGo, wipeD, iSq, iRg1, iRg2, iZipD, iEnumD, iRevD, srcOf, rangeD, zipD, small, itemsD, List.range, List.range.loop, eqD_int, dSl, dRev, slD, cutD, okR, sNext, sNever, sBrk, sCnt, dMake, makeG, PK.initD, iSeq, iDrop, iSet, iFld, dMeth, dIfE, isND, PK.isNon, oSome, oNone, HT.sIx, e1, e2]⟩
noncomputable def bodyW : SF := sDrop (dMt appD (dVar 3) (aCons (dOp ixD (dLst false (aCons (dC (.int 0)) (aCons (dC (.int 1)) (aCons (dUn negD (dC (.int 1))) (aCons (dOp subD (dCallN false 2 G_law_draw (aCons (dVar 0) (aCons (dC (.int 13)) aNil))) (dC (.int 6))) (aCons (dC (.int 6)) (aCons (dUn negD (dC (.int 6))) aNil))))))) (dCallN false 2 G_law_draw (aCons (dVar 0) (aCons (dC (.int 6)) aNil)))) aNil))
theorem d_bodyW {m : Nat} {p acc : List D} {A B x : Option Vl} (hp : Pool m p) (hm : m ≤ 9000) (ha : acc.length ≤ 10) : ∃ v p', -6 ≤ v ∧ v ≤ 6 ∧ Pool (m + 2) p' ∧
    bodyW ⟨[some (.rf 0), A, B, some (.rf 1), x], [some p, some acc]⟩ = some (.nx, ⟨[some (.rf 0), A, B, some (.rf 1), x], [some p', some (acc ++ [.int v])]⟩) := by
  obtain ⟨v, p', h1, h2, h3, e⟩ := d_item (A := A) (B := B) (C := some (.rf 1)) (x := x) (acc := acc) hp hm
  refine ⟨v, p', h1, h2, h3, ?_⟩
  have h5 : acc.length < 100000 := by omega
  unfold bodyW
  simp [sDrop, dMt, dVar, aCons, aNil, e, frzs, frz, appD, small, h5]
theorem g_weights {n c m : Nat} (hn : n = 2 ∨ n = 3) (hc : c < n) {p : List D} (hp : Pool m p) (hm : m ≤ 8000) : ∃ ws p', G_law_weights [.rf 0, .fz (.int n), .fz (.int c)] [p] = some (.val (tupI ws), [p']) ∧ ws.length = n ∧ ws.getD c 0 = 0 ∧ (∀ w ∈ ws, -6 ≤ w ∧ w ≤ 6) ∧ Pool (m + 6) p' := by
  rcases hn with rfl | rfl
  · obtain ⟨v, p1, a1, a2, hp1, e1⟩ := d_bodyW (A := some (.fz (.int 2))) (B := some (.fz (.int c))) (x := some (.fz (.int 0))) (acc := []) hp (by omega) (by simp)
    obtain ⟨u, p2, b1, b2, hp2, e2⟩ := d_bodyW (A := some (.fz (.int 2))) (B := some (.fz (.int c))) (x := some (.fz (.int 1))) (acc := [.int v]) hp1 (by omega) (by simp)
    refine ⟨[v, u].set c 0, p2, ?_, by simp, ?_, ?_, hp2.up (by omega)⟩
    · unfold G_law_weights f_law_weights
      rw [show sDrop (dMt appD (dVar 3) (aCons (dOp ixD (dLst false (aCons (dC (.int 0)) (aCons (dC (.int 1)) (aCons (dUn negD (dC (.int 1))) (aCons (dOp subD (dCallN false 2 G_law_draw (aCons (dVar 0) (aCons (dC (.int 13)) aNil))) (dC (.int 6))) (aCons (dC (.int 6)) (aCons (dUn negD (dC (.int 6))) aNil))))))) (dCallN false 2 G_law_draw (aCons (dVar 0) (aCons (dC (.int 6)) aNil)))) aNil)) = bodyW from rfl]
      simp only [List.nil_append, List.singleton_append, List.cons_append] at e1 e2
      rcases nat2 hc with rfl | rfl <;> simp at e1 e2 <;> simp [fnD, sSeq, sSet, sDrop, sRet, sRetN, sIf, sAsg, sPar, sFor, forD, dC, dVar, dOp, der, ders, frz, frzs, dTup, dLst, aNil, aCons, aStar, PK.mk, dCB, PK.g1, PK.g2, lenD, absD, maxD, minD, PK.intD, listD, tupD, sumD, allD, intsD, bls, addD, subD, mulD, divD, modD, powD, cmpD, ixD, atI, ixN, dUn, negD, dB, truD, bNot, bAnd, bOr, bYes, dAndV, dOrV, dNotV, dChain, dFld, recvOk, dIsi, tyD, kitB, dCallN, callG, refs, renum, lives, PK.putAll, hNm, hSub, hNil, hCons, hTup, setIx, asgT, setAll, dMt, appD, extD, dLc, lcGo, wipeD, iSq, iRg1, iRg2, iZipD, iEnumD, iRevD, srcOf, rangeD, zipD, small, itemsD, List.range, List.range.loop, eqD_int, dSl, dRev, slD, cutD, okR, sNext, sNever, sBrk, sCnt, dMake, makeG, PK.initD, iSeq, iDrop, iSet, iFld, dMeth, dIfE, isND, PK.isNon, oSome, oNone, HT.sIx, e1, e2, tupI]
    · rcases nat2 hc with rfl | rfl <;> simp
    · rcases nat2 hc with rfl | rfl <;> simp <;> omega
  · obtain ⟨v, p1, a1, a2, hp1, e1⟩ := d_bodyW (A := some (.fz (.int 3))) (B := some (.fz (.int c))) (x := some (.fz (.int 0))) (acc := []) hp (by omega) (by simp)
    obtain ⟨u, p2, b1, b2, hp2, e2⟩ := d_bodyW (A := some (.fz (.int 3))) (B := some (.fz (.int c))) (x := some (.fz (.int 1))) (acc := [.int v]) hp1 (by omega) (by simp)
    obtain ⟨t, p3, c1, c2, hp3, e3⟩ := d_bodyW (A := some (.fz (.int 3))) (B := some (.fz (.int c))) (x := some (.fz (.int 2))) (acc := [.int v, .int u]) hp2 (by omega) (by simp)
    refine ⟨[v, u, t].set c 0, p3, ?_, by simp, ?_, ?_, hp3.up (by omega)⟩
    · unfold G_law_weights f_law_weights
      rw [show sDrop (dMt appD (dVar 3) (aCons (dOp ixD (dLst false (aCons (dC (.int 0)) (aCons (dC (.int 1)) (aCons (dUn negD (dC (.int 1))) (aCons (dOp subD (dCallN false 2 G_law_draw (aCons (dVar 0) (aCons (dC (.int 13)) aNil))) (dC (.int 6))) (aCons (dC (.int 6)) (aCons (dUn negD (dC (.int 6))) aNil))))))) (dCallN false 2 G_law_draw (aCons (dVar 0) (aCons (dC (.int 6)) aNil)))) aNil)) = bodyW from rfl]
      simp only [List.nil_append, List.singleton_append, List.cons_append] at e1 e2 e3
      rcases nat3 hc with rfl | rfl | rfl <;> simp at e1 e2 e3 <;> simp [fnD, sSeq, sSet, sDrop, sRet, sRetN, sIf, sAsg, sPar, sFor, forD, dC, dVar, dOp, der, ders, frz, frzs, dTup, dLst, aNil, aCons, aStar, PK.mk, dCB, PK.g1, PK.g2, lenD, absD, maxD, minD, PK.intD, listD, tupD, sumD, allD, intsD, bls, addD, subD, mulD, divD, modD, powD, cmpD, ixD, atI, ixN, dUn, negD, dB, truD, bNot, bAnd, bOr, bYes, dAndV, dOrV, dNotV, dChain, dFld, recvOk, dIsi, tyD, kitB, dCallN, callG, refs, renum, lives, PK.putAll, hNm, hSub, hNil, hCons, hTup, setIx, asgT, setAll, dMt, appD, extD, dLc, lcGo, wipeD, iSq, iRg1, iRg2, iZipD, iEnumD, iRevD, srcOf, rangeD, zipD, small, itemsD, List.range, List.range.loop, eqD_int, dSl, dRev, slD, cutD, okR, sNext, sNever, sBrk, sCnt, dMake, makeG, PK.initD, iSeq, iDrop, iSet, iFld, dMeth, dIfE, isND, PK.isNon, oSome, oNone, HT.sIx, e1, e2, e3, tupI]
    · rcases nat3 hc with rfl | rfl | rfl <;> simp
    · rcases nat3 hc with rfl | rfl | rfl <;> simp <;> omega
end K12

set_option maxHeartbeats 0
namespace K12
open PySem L2 PK
theorem g_divisor {m : Nat} {p : List D} {R : Int} (hp : Pool m p) (hm : m ≤ 9000) (h1 : 1 ≤ R) (h2 : R ≤ 12) : ∃ (d R' : Int) (p' : List D), G_law_divisor [.rf 0, .rf 1] [p, [.int R]] = some (.val (.int d), [p', [.int R']]) ∧ 1 ≤ d ∧ d ≤ 6 ∧ 1 ≤ R' ∧ R' ≤ 12 ∧ Pool (m + 1) p' := by
  obtain ⟨d, p1, e1, a1, a2, hp1⟩ := g_draw (many := if R < 6 then R else 6) hp (by split <;> omega) (by split <;> omega) (by omega)
  have hd : 1 + d ≤ R ∧ 1 + d ≤ 6 := by split at a2 <;> omega
  refine ⟨1 + d, R / (1 + d), p1, ?_, by omega, by omega, ?_, ?_, hp1⟩
  · have e2 : okDiv (1 + d) = true := okDiv_of (by omega) (by omega)
    unfold G_law_divisor f_law_divisor
    by_cases h : R < 6
    · rw [if_pos h] at e1
      simp [fnD, sSeq, sSet, sDrop, sRet, sRetN, sIf, sAsg, sPar, sFor, forD, dC, dVar, dOp, der, ders, frz, frzs, dTup, dLst, aNil, aCons, aStar, PK.mk, dCB, PK.g1, PK.g2, lenD, absD, maxD, minD, PK.intD, listD, tupD, sumD, allD, intsD, bls, addD, subD, mulD, divD, modD, powD, cmpD, ixD, atI, ixN, dUn, negD, dB, truD, bNot, bAnd, bOr, bYes, dAndV, dOrV, dNotV, dChain, dFld, recvOk, dIsi, tyD, kitB, dCallN, callG, refs, renum, lives, PK.putAll, hNm, hSub, hNil, hCons, hTup, setIx, asgT, setAll, dMt, appD, extD, dLc, lcGo, wipeD, iSq, iRg1, iRg2, iZipD, iEnumD, iRevD, srcOf, rangeD, zipD, small, itemsD, List.range, List.range.loop, eqD_int, dSl, dRev, slD, cutD, okR, sNext, sNever, sBrk, sCnt, dMake, makeG, PK.initD, iSeq, iDrop, iSet, iFld, dMeth, dIfE, isND, PK.isNon, oSome, oNone, HT.sIx, e1, e2, h]
    · rw [if_neg h] at e1
      simp [fnD, sSeq, sSet, sDrop, sRet, sRetN, sIf, sAsg, sPar, sFor, forD, dC, dVar, dOp, der, ders, frz, frzs, dTup, dLst, aNil, aCons, aStar, PK.mk, dCB, PK.g1, PK.g2, lenD, absD, maxD, minD, PK.intD, listD, tupD, sumD, allD, intsD, bls, addD, subD, mulD, divD, modD, powD, cmpD, ixD, atI, ixN, dUn, negD, dB, truD, bNot, bAnd, bOr, bYes, dAndV, dOrV, dNotV, dChain, dFld, recvOk, dIsi, tyD, kitB, dCallN, callG, refs, renum, lives, PK.putAll, hNm, hSub, hNil, hCons, hTup, setIx, asgT, setAll, dMt, appD, extD, dLc, lcGo, wipeD, iSq, iRg1, iRg2, iZipD, iEnumD, iRevD, srcOf, rangeD, zipD, small, itemsD, List.range, List.range.loop, eqD_int, dSl, dRev, slD, cutD, okR, sNext, sNever, sBrk, sCnt, dMake, makeG, PK.initD, iSeq, iDrop, iSet, iFld, dMeth, dIfE, isND, PK.isNon, oSome, oNone, HT.sIx, e1, e2, h]
  · exact (Int.le_ediv_iff_mul_le (by omega)).mpr (by omega)
  · exact Int.le_trans (Int.ediv_le_self _ (by omega)) h2
/-- a step as the law draws it -/
def Dr (n : Nat) (s : S) : Prop := Ok n s ∧ ∀ c ws m d, s = .lift c ws m d → -20 ≤ m ∧ m ≤ 20
theorem g_lift {n m : Nat} (hn : n = 2 ∨ n = 3) {p : List D} {R : Int} (hp : Pool m p) (hm : m ≤ 7000) (h1 : 1 ≤ R) (h2 : R ≤ 12) : ∃ (s : S) (R' : Int) (p' : List D), G_law_lift [.rf 0, .fz (.int n), .rf 1] [p, [.int R]] = some (.val (enc s), [p', [.int R']]) ∧ Dr n s ∧ 1 ≤ R' ∧ R' ≤ 12 ∧ Pool (m + 10) p' := by
  obtain ⟨c, p1, e1, a1, a2, hp1⟩ := g_draw (many := n) hp (by omega) (by omega) (by omega)
  obtain ⟨c, rfl⟩ := Int.eq_ofNat_of_zero_le a1
  obtain ⟨ws, p2, e2, b1, b2, b3, hp2⟩ := g_weights hn (c := c) (by omega) hp1 (by omega)
  obtain ⟨v, p3, e3, c1, c2, hp3⟩ := g_more hp2 (by omega)
  obtain ⟨d, R', p4, e4, d1, d2, d3, d4, hp4⟩ := g_divisor hp3 (by omega) h1 h2
  refine ⟨.lift c ws v d, R', p4, ?_, ⟨⟨by omega, b1, b2, b3, by omega, by omega, by omega, by omega⟩, ?_⟩, d3, d4, hp4.up (by omega)⟩
  · have s1 : sSet 3 (dCallN false 2 G_law_draw (aCons (dVar 0) (aCons (dVar 1) aNil))) ⟨[some (.rf 0), some (.fz (.int n)), some (.rf 1), none, none, none], [some p, some [.int R]]⟩ = some (.nx, ⟨[some (.rf 0), some (.fz (.int n)), some (.rf 1), some (.fz (.int c)), none, none], [some p1, some [.int R]]⟩) := by
      have e := cl1 (G := G_law_draw) (m := false) (n := 2) (fa := aCons (dVar 0) (aCons (dVar 1) aNil)) (δ := ⟨[some (.rf 0), some (.fz (.int n)), some (.rf 1), none, none, none], [some p, some [.int R]]⟩) (k := 0) rfl rfl rfl rfl e1
      rw [sSet_ e]
      rfl
    have s2 : sPar [4, 5] (aCons (dCallN false 3 G_law_weights (aCons (dVar 0) (aCons (dVar 1) (aCons (dVar 3) aNil)))) (aCons (dCallN false 1 G_law_more (aCons (dVar 0) aNil)) aNil)) ⟨[some (.rf 0), some (.fz (.int n)), some (.rf 1), some (.fz (.int c)), none, none], [some p1, some [.int R]]⟩ = some (.nx, ⟨[some (.rf 0), some (.fz (.int n)), some (.rf 1), some (.fz (.int c)), some (.fz (tupI ws)), some (.fz (.int v))], [some p3, some [.int R]]⟩) := by
      have e := cl1 (G := G_law_weights) (m := false) (n := 3) (fa := aCons (dVar 0) (aCons (dVar 1) (aCons (dVar 3) aNil))) (δ := ⟨[some (.rf 0), some (.fz (.int n)), some (.rf 1), some (.fz (.int c)), none, none], [some p1, some [.int R]]⟩) (k := 0) rfl rfl rfl rfl e2
      have e' := cl1 (G := G_law_more) (m := false) (n := 1) (fa := aCons (dVar 0) aNil) (δ := ⟨[some (.rf 0), some (.fz (.int n)), some (.rf 1), some (.fz (.int c)), none, none], [some p2, some [.int R]]⟩) (k := 0) rfl rfl rfl rfl e3
      rw [sPar2 (aC e (aC e' rfl))]
      rfl
    have s3 : sRet (dTup (aCons (dC (.str "lift")) (aCons (dVar 3) (aCons (dVar 4) (aCons (dVar 5) (aCons (dCallN false 2 G_law_divisor (aCons (dVar 0) (aCons (dVar 2) aNil))) aNil)))))) ⟨[some (.rf 0), some (.fz (.int n)), some (.rf 1), some (.fz (.int c)), some (.fz (tupI ws)), some (.fz (.int v))], [some p3, some [.int R]]⟩ = some (.rt (.fz (enc (.lift c ws v d))), ⟨[some (.rf 0), some (.fz (.int n)), some (.rf 1), some (.fz (.int c)), some (.fz (tupI ws)), some (.fz (.int v))], [some p4, some [.int R']]⟩) := by
      have e5 := cl2 (G := G_law_divisor) (m := false) (n := 2) (fa := aCons (dVar 0) (aCons (dVar 2) aNil)) (δ := ⟨[some (.rf 0), some (.fz (.int n)), some (.rf 1), some (.fz (.int c)), some (.fz (tupI ws)), some (.fz (.int v))], [some p3, some [.int R]]⟩) (k := 0) (l := 1) rfl rfl rfl (by decide) rfl rfl e4
      simp [sRet, dTup, dC, aCons, aNil, dVar, e5, frzs, frz, small, enc]
    unfold G_law_lift f_law_lift fnD
    simp only [List.map_cons, List.map_nil, List.length_cons, List.length_nil, List.replicate, List.cons_append, List.nil_append]
    rw [sSeq_nx s1, sSeq_nx s2, s3]
    simp [lives, List.range, List.range.loop]
  · intro c' ws' m' d' e
    cases e
    exact ⟨c1, c2⟩
theorem g_plain {n m : Nat} (hn : n = 2 ∨ n = 3) {p : List D} (hp : Pool m p) (hm : m ≤ 9000) : ∃ (s : S) (p' : List D), G_law_plain [.rf 0, .fz (.int n)] [p] = some (.val (enc s), [p']) ∧ Dr n s ∧ Pool (m + 3) p' := by
  obtain ⟨d, p1, e1, a1, a2, hp1⟩ := g_draw (many := 2) hp (by decide) (by decide) (by omega)
  by_cases hd : d = 0
  · subst hd
    obtain ⟨c, p2, e2, b1, b2, hp2⟩ := g_draw (many := n) hp1 (by omega) (by omega) (by omega)
    obtain ⟨c, rfl⟩ := Int.eq_ofNat_of_zero_le b1
    refine ⟨.turn c, p2, ?_, ⟨show c < n by omega, fun _ _ _ _ e => by cases e⟩, hp2.up (by omega)⟩
    unfold G_law_plain f_law_plain
    simp [fnD, sSeq, sSet, sDrop, sRet, sRetN, sIf, sAsg, sPar, sFor, forD, dC, dVar, dOp, der, ders, frz, frzs, dTup, dLst, aNil, aCons, aStar, PK.mk, dCB, PK.g1, PK.g2, lenD, absD, maxD, minD, PK.intD, listD, tupD, sumD, allD, intsD, bls, addD, subD, mulD, divD, modD, powD, cmpD, ixD, atI, ixN, dUn, negD, dB, truD, bNot, bAnd, bOr, bYes, dAndV, dOrV, dNotV, dChain, dFld, recvOk, dIsi, tyD, kitB, dCallN, callG, refs, renum, lives, PK.putAll, hNm, hSub, hNil, hCons, hTup, setIx, asgT, setAll, dMt, appD, extD, dLc, lcGo, wipeD, iSq, iRg1, iRg2, iZipD, iEnumD, iRevD, srcOf, rangeD, zipD, small, itemsD, List.range, List.range.loop, eqD_int, dSl, dRev, slD, cutD, okR, sNext, sNever, sBrk, sCnt, dMake, makeG, PK.initD, iSeq, iDrop, iSet, iFld, dMeth, dIfE, isND, PK.isNon, oSome, oNone, HT.sIx, e1, e2, enc]
  · obtain ⟨c, p2, e2, b1, b2, hp2⟩ := g_draw (many := (n : Int) - 1) hp1 (by omega) (by omega) (by omega)
    obtain ⟨c, rfl⟩ := Int.eq_ofNat_of_zero_le b1
    obtain ⟨k, p3, e3, c1, c2, hp3⟩ := g_draw (many := (n : Int) - 1 - c) hp2 (by omega) (by omega) (by omega)
    obtain ⟨k, rfl⟩ := Int.eq_ofNat_of_zero_le c1
    refine ⟨.swap c (c + 1 + k), p3, ?_, ⟨⟨by omega, by omega⟩, fun _ _ _ _ e => by cases e⟩, hp3.up (by omega)⟩
    unfold G_law_plain f_law_plain
    simp [fnD, sSeq, sSet, sDrop, sRet, sRetN, sIf, sAsg, sPar, sFor, forD, dC, dVar, dOp, der, ders, frz, frzs, dTup, dLst, aNil, aCons, aStar, PK.mk, dCB, PK.g1, PK.g2, lenD, absD, maxD, minD, PK.intD, listD, tupD, sumD, allD, intsD, bls, addD, subD, mulD, divD, modD, powD, cmpD, ixD, atI, ixN, dUn, negD, dB, truD, bNot, bAnd, bOr, bYes, dAndV, dOrV, dNotV, dChain, dFld, recvOk, dIsi, tyD, kitB, dCallN, callG, refs, renum, lives, PK.putAll, hNm, hSub, hNil, hCons, hTup, setIx, asgT, setAll, dMt, appD, extD, dLc, lcGo, wipeD, iSq, iRg1, iRg2, iZipD, iEnumD, iRevD, srcOf, rangeD, zipD, small, itemsD, List.range, List.range.loop, eqD_int, dSl, dRev, slD, cutD, okR, sNext, sNever, sBrk, sCnt, dMake, makeG, PK.initD, iSeq, iDrop, iSet, iFld, dMeth, dIfE, isND, PK.isNon, oSome, oNone, HT.sIx, e1, e2, e3, enc, hd]
theorem g_entry {m : Nat} {p : List D} {far : Int} (hp : Pool m p) (hm : m ≤ 9000) (h1 : 1 ≤ far) (h2 : far ≤ 10 ^ 31) : ∃ (v : Int) (p' : List D), G_law_entry [.rf 0, .fz (.int far)] [p] = some (.val (.int v), [p']) ∧ v.natAbs < 2 ^ 110 ∧ Pool (m + 4) p' := by
  obtain ⟨a, p1, e1, a1, a2, hp1⟩ := g_draw (many := 9) hp (by decide) (by decide) (by omega)
  obtain ⟨b, p2, e2, b1, b2, hp2⟩ := g_draw (many := 61) hp1 (by decide) (by decide) (by omega)
  obtain ⟨c, p3, e3, c1, c2, hp3⟩ := g_draw (many := 2 * far + 1) hp2 (by omega) (by omega) (by omega)
  obtain ⟨k, p4, e4, d1, d2, hp4⟩ := g_draw (many := 5) hp3 (by decide) (by decide) (by omega)
  have e5 : okMul 2 far = true := okMul_nn (by decide) (by omega)
  rcases (show k = 0 ∨ k = 1 ∨ k = 2 ∨ k = 3 ∨ k = 4 by omega) with rfl | rfl | rfl | rfl | rfl
  · exact ⟨a - 4, p4, by unfold G_law_entry f_law_entry; simp [fnD, sSeq, sSet, sDrop, sRet, sRetN, sIf, sAsg, sPar, sFor, forD, dC, dVar, dOp, der, ders, frz, frzs, dTup, dLst, aNil, aCons, aStar, PK.mk, dCB, PK.g1, PK.g2, lenD, absD, maxD, minD, PK.intD, listD, tupD, sumD, allD, intsD, bls, addD, subD, mulD, divD, modD, powD, cmpD, ixD, atI, ixN, dUn, negD, dB, truD, bNot, bAnd, bOr, bYes, dAndV, dOrV, dNotV, dChain, dFld, recvOk, dIsi, tyD, kitB, dCallN, callG, refs, renum, lives, PK.putAll, hNm, hSub, hNil, hCons, hTup, setIx, asgT, setAll, dMt, appD, extD, dLc, lcGo, wipeD, iSq, iRg1, iRg2, iZipD, iEnumD, iRevD, srcOf, rangeD, zipD, small, itemsD, List.range, List.range.loop, eqD_int, dSl, dRev, slD, cutD, okR, sNext, sNever, sBrk, sCnt, dMake, makeG, PK.initD, iSeq, iDrop, iSet, iFld, dMeth, dIfE, isND, PK.isNon, oSome, oNone, HT.sIx, e1, e2, e3, e4, e5], by omega, hp4⟩
  · exact ⟨b - 30, p4, by unfold G_law_entry f_law_entry; simp [fnD, sSeq, sSet, sDrop, sRet, sRetN, sIf, sAsg, sPar, sFor, forD, dC, dVar, dOp, der, ders, frz, frzs, dTup, dLst, aNil, aCons, aStar, PK.mk, dCB, PK.g1, PK.g2, lenD, absD, maxD, minD, PK.intD, listD, tupD, sumD, allD, intsD, bls, addD, subD, mulD, divD, modD, powD, cmpD, ixD, atI, ixN, dUn, negD, dB, truD, bNot, bAnd, bOr, bYes, dAndV, dOrV, dNotV, dChain, dFld, recvOk, dIsi, tyD, kitB, dCallN, callG, refs, renum, lives, PK.putAll, hNm, hSub, hNil, hCons, hTup, setIx, asgT, setAll, dMt, appD, extD, dLc, lcGo, wipeD, iSq, iRg1, iRg2, iZipD, iEnumD, iRevD, srcOf, rangeD, zipD, small, itemsD, List.range, List.range.loop, eqD_int, dSl, dRev, slD, cutD, okR, sNext, sNever, sBrk, sCnt, dMake, makeG, PK.initD, iSeq, iDrop, iSet, iFld, dMeth, dIfE, isND, PK.isNon, oSome, oNone, HT.sIx, e1, e2, e3, e4, e5], by omega, hp4⟩
  · exact ⟨c - far, p4, by unfold G_law_entry f_law_entry; simp [fnD, sSeq, sSet, sDrop, sRet, sRetN, sIf, sAsg, sPar, sFor, forD, dC, dVar, dOp, der, ders, frz, frzs, dTup, dLst, aNil, aCons, aStar, PK.mk, dCB, PK.g1, PK.g2, lenD, absD, maxD, minD, PK.intD, listD, tupD, sumD, allD, intsD, bls, addD, subD, mulD, divD, modD, powD, cmpD, ixD, atI, ixN, dUn, negD, dB, truD, bNot, bAnd, bOr, bYes, dAndV, dOrV, dNotV, dChain, dFld, recvOk, dIsi, tyD, kitB, dCallN, callG, refs, renum, lives, PK.putAll, hNm, hSub, hNil, hCons, hTup, setIx, asgT, setAll, dMt, appD, extD, dLc, lcGo, wipeD, iSq, iRg1, iRg2, iZipD, iEnumD, iRevD, srcOf, rangeD, zipD, small, itemsD, List.range, List.range.loop, eqD_int, dSl, dRev, slD, cutD, okR, sNext, sNever, sBrk, sCnt, dMake, makeG, PK.initD, iSeq, iDrop, iSet, iFld, dMeth, dIfE, isND, PK.isNon, oSome, oNone, HT.sIx, e1, e2, e3, e4, e5], by omega, hp4⟩
  · exact ⟨far, p4, by unfold G_law_entry f_law_entry; simp [fnD, sSeq, sSet, sDrop, sRet, sRetN, sIf, sAsg, sPar, sFor, forD, dC, dVar, dOp, der, ders, frz, frzs, dTup, dLst, aNil, aCons, aStar, PK.mk, dCB, PK.g1, PK.g2, lenD, absD, maxD, minD, PK.intD, listD, tupD, sumD, allD, intsD, bls, addD, subD, mulD, divD, modD, powD, cmpD, ixD, atI, ixN, dUn, negD, dB, truD, bNot, bAnd, bOr, bYes, dAndV, dOrV, dNotV, dChain, dFld, recvOk, dIsi, tyD, kitB, dCallN, callG, refs, renum, lives, PK.putAll, hNm, hSub, hNil, hCons, hTup, setIx, asgT, setAll, dMt, appD, extD, dLc, lcGo, wipeD, iSq, iRg1, iRg2, iZipD, iEnumD, iRevD, srcOf, rangeD, zipD, small, itemsD, List.range, List.range.loop, eqD_int, dSl, dRev, slD, cutD, okR, sNext, sNever, sBrk, sCnt, dMake, makeG, PK.initD, iSeq, iDrop, iSet, iFld, dMeth, dIfE, isND, PK.isNon, oSome, oNone, HT.sIx, e1, e2, e3, e4, e5], by omega, hp4⟩
  · exact ⟨0 - far, p4, by unfold G_law_entry f_law_entry; simp [fnD, sSeq, sSet, sDrop, sRet, sRetN, sIf, sAsg, sPar, sFor, forD, dC, dVar, dOp, der, ders, frz, frzs, dTup, dLst, aNil, aCons, aStar, PK.mk, dCB, PK.g1, PK.g2, lenD, absD, maxD, minD, PK.intD, listD, tupD, sumD, allD, intsD, bls, addD, subD, mulD, divD, modD, powD, cmpD, ixD, atI, ixN, dUn, negD, dB, truD, bNot, bAnd, bOr, bYes, dAndV, dOrV, dNotV, dChain, dFld, recvOk, dIsi, tyD, kitB, dCallN, callG, refs, renum, lives, PK.putAll, hNm, hSub, hNil, hCons, hTup, setIx, asgT, setAll, dMt, appD, extD, dLc, lcGo, wipeD, iSq, iRg1, iRg2, iZipD, iEnumD, iRevD, srcOf, rangeD, zipD, small, itemsD, List.range, List.range.loop, eqD_int, dSl, dRev, slD, cutD, okR, sNext, sNever, sBrk, sCnt, dMake, makeG, PK.initD, iSeq, iDrop, iSet, iFld, dMeth, dIfE, isND, PK.isNon, oSome, oNone, HT.sIx, e1, e2, e3, e4, e5], by omega, hp4⟩
theorem g_place {n m : Nat} (hn : n = 2 ∨ n = 3) {p : List D} {far : Int} (hp : Pool m p) (hm : m ≤ 8000) (h1 : 1 ≤ far) (h2 : far ≤ 10 ^ 31) : ∃ (v : List Int) (p' : List D), G_law_place [.rf 0, .fz (.int n), .fz (.int far)] [p] = some (.val (tupI v), [p']) ∧ v.length = n ∧ Bd 110 v ∧ Pool (m + 12) p' := by
  obtain ⟨a, p1, e1, a1, hp1⟩ := g_entry hp (by omega) h1 h2
  obtain ⟨b, p2, e2, b1, hp2⟩ := g_entry hp1 (by omega) h1 h2
  rcases hn with rfl | rfl
  · refine ⟨[a, b], p2, ?_, rfl, bd2 a1 b1, hp2.up (by omega)⟩
    unfold G_law_place f_law_place
    simp [fnD, sSeq, sSet, sDrop, sRet, sRetN, sIf, sAsg, sPar, sFor, forD, dC, dVar, dOp, der, ders, frz, frzs, dTup, dLst, aNil, aCons, aStar, PK.mk, dCB, PK.g1, PK.g2, lenD, absD, maxD, minD, PK.intD, listD, tupD, sumD, allD, intsD, bls, addD, subD, mulD, divD, modD, powD, cmpD, ixD, atI, ixN, dUn, negD, dB, truD, bNot, bAnd, bOr, bYes, dAndV, dOrV, dNotV, dChain, dFld, recvOk, dIsi, tyD, kitB, dCallN, callG, refs, renum, lives, PK.putAll, hNm, hSub, hNil, hCons, hTup, setIx, asgT, setAll, dMt, appD, extD, dLc, lcGo, wipeD, iSq, iRg1, iRg2, iZipD, iEnumD, iRevD, srcOf, rangeD, zipD, small, itemsD, List.range, List.range.loop, eqD_int, dSl, dRev, slD, cutD, okR, sNext, sNever, sBrk, sCnt, dMake, makeG, PK.initD, iSeq, iDrop, iSet, iFld, dMeth, dIfE, isND, PK.isNon, oSome, oNone, HT.sIx, e1, e2, tupI]
  · obtain ⟨c, p3, e3, c1, hp3⟩ := g_entry hp2 (by omega) h1 h2
    refine ⟨[a, b, c], p3, ?_, rfl, bd3 a1 b1 c1, hp3⟩
    unfold G_law_place f_law_place
    simp [fnD, sSeq, sSet, sDrop, sRet, sRetN, sIf, sAsg, sPar, sFor, forD, dC, dVar, dOp, der, ders, frz, frzs, dTup, dLst, aNil, aCons, aStar, PK.mk, dCB, PK.g1, PK.g2, lenD, absD, maxD, minD, PK.intD, listD, tupD, sumD, allD, intsD, bls, addD, subD, mulD, divD, modD, powD, cmpD, ixD, atI, ixN, dUn, negD, dB, truD, bNot, bAnd, bOr, bYes, dAndV, dOrV, dNotV, dChain, dFld, recvOk, dIsi, tyD, kitB, dCallN, callG, refs, renum, lives, PK.putAll, hNm, hSub, hNil, hCons, hTup, setIx, asgT, setAll, dMt, appD, extD, dLc, lcGo, wipeD, iSq, iRg1, iRg2, iZipD, iEnumD, iRevD, srcOf, rangeD, zipD, small, itemsD, List.range, List.range.loop, eqD_int, dSl, dRev, slD, cutD, okR, sNext, sNever, sBrk, sCnt, dMake, makeG, PK.initD, iSeq, iDrop, iSet, iFld, dMeth, dIfE, isND, PK.isNon, oSome, oNone, HT.sIx, e1, e2, e3, tupI]
theorem g_pool {ns : List Int} {i : Nat} (hi : i ≤ 10) : ∃ p, G_law_pool [.fz (.scr ns), .fz (.int i)] [] = some (.fresh p, []) ∧ Pool 0 p := by
  have e1 : okPow 10 = true := by decide
  have e2 : okMul 7368787 ((i : Int) + 1) = true := okMul_nn (by decide) (by omega)
  by_cases h : i < ns.length
  · have hz0 := Int.emod_nonneg ns[i] (show (2305843009213693951 : Int) ≠ 0 by decide)
    have hz1 := Int.emod_lt_of_pos ns[i] (show (0 : Int) < 2305843009213693951 by decide)
    have e3 : ns[i]? = some ns[i] := List.getElem?_eq_getElem h
    have e4 : G_law_pool [.fz (.scr ns), .fz (.int i)] [] = some (.fresh [.int (if 1000000000000000000 < (if ns[i] < 0 then -ns[i] else ns[i]) then (if ns[i] < 0 then -ns[i] else ns[i]) - 1000000000000000000 else 0), .int (ns[i] % 2305843009213693951 + 7368787 * ((i : Int) + 1)), .int 0], []) := by
      unfold G_law_pool f_law_pool
      simp [fnD, sSeq, sSet, sDrop, sRet, sRetN, sIf, sAsg, sPar, sFor, forD, dC, dVar, dOp, der, ders, frz, frzs, dTup, dLst, aNil, aCons, aStar, PK.mk, dCB, PK.g1, PK.g2, lenD, absD, maxD, minD, PK.intD, listD, tupD, sumD, allD, intsD, bls, addD, subD, mulD, divD, modD, powD, cmpD, ixD, atI, ixN, dUn, negD, dB, truD, bNot, bAnd, bOr, bYes, dAndV, dOrV, dNotV, dChain, dFld, recvOk, dIsi, tyD, kitB, dCallN, callG, refs, renum, lives, PK.putAll, hNm, hSub, hNil, hCons, hTup, setIx, asgT, setAll, dMt, appD, extD, dLc, lcGo, wipeD, iSq, iRg1, iRg2, iZipD, iEnumD, iRevD, srcOf, rangeD, zipD, small, itemsD, List.range, List.range.loop, eqD_int, dSl, dRev, slD, cutD, okR, sNext, sNever, sBrk, sCnt, dMake, makeG, PK.initD, iSeq, iDrop, iSet, iFld, dMeth, dIfE, isND, PK.isNon, oSome, oNone, HT.sIx, e1, e2, e3, h]
    exact ⟨_, e4, _, ns[i] % 2305843009213693951 + 7368787 * ((i : Int) + 1), 0, rfl, by omega, by omega, by omega, by omega⟩
  · have e4 : G_law_pool [.fz (.scr ns), .fz (.int i)] [] = some (.fresh [.int 0, .int (7368787 * ((i : Int) + 1)), .int 0], []) := by
      unfold G_law_pool f_law_pool
      simp [fnD, sSeq, sSet, sDrop, sRet, sRetN, sIf, sAsg, sPar, sFor, forD, dC, dVar, dOp, der, ders, frz, frzs, dTup, dLst, aNil, aCons, aStar, PK.mk, dCB, PK.g1, PK.g2, lenD, absD, maxD, minD, PK.intD, listD, tupD, sumD, allD, intsD, bls, addD, subD, mulD, divD, modD, powD, cmpD, ixD, atI, ixN, dUn, negD, dB, truD, bNot, bAnd, bOr, bYes, dAndV, dOrV, dNotV, dChain, dFld, recvOk, dIsi, tyD, kitB, dCallN, callG, refs, renum, lives, PK.putAll, hNm, hSub, hNil, hCons, hTup, setIx, asgT, setAll, dMt, appD, extD, dLc, lcGo, wipeD, iSq, iRg1, iRg2, iZipD, iEnumD, iRevD, srcOf, rangeD, zipD, small, itemsD, List.range, List.range.loop, eqD_int, dSl, dRev, slD, cutD, okR, sNext, sNever, sBrk, sCnt, dMake, makeG, PK.initD, iSeq, iDrop, iSet, iFld, dMeth, dIfE, isND, PK.isNon, oSome, oNone, HT.sIx, e1, e2, h]
    exact ⟨_, e4, 0, 7368787 * ((i : Int) + 1), 0, rfl, by omega, by omega, by omega, by omega⟩
end K12

set_option maxHeartbeats 0
namespace K12
open PySem L2 PK
theorem nice_encs {ss : List S} : ∀ x ∈ encs ss, Nice 2 x := fun x hx => by
  obtain ⟨s, _, rfl⟩ := List.mem_map.mp hx
  exact nice_enc s
/-- the state of the loop that draws steps -/
def mv (n : Nat) (T R0 : Int) (p : List D) (R : Int) (acc : List D) (x6 x7 x8 : Option Vl) : Dl := ⟨[some (.rf 0), some (.fz (.int n)), some (.fz (.int T)), some (.fz (.int R0)), some (.rf 1), some (.rf 2), x6, x7, x8], [some p, some [.int R], some acc]⟩
noncomputable def mA : SF := sPar [7, 8] (aCons (dCallN false 2 G_law_draw (aCons (dVar 0) (aCons (dC (.int 9)) aNil))) (aCons (dC .non) aNil))
noncomputable def mB1 : SF := sSet 8 (dOp ixD (dLst false (aCons (dOp ixD (dVar 5) (dUn negD (dC (.int 1)))) (aCons (dCallN false 1 G_law_back (aCons (dOp ixD (dVar 5) (dUn negD (dC (.int 1)))) aNil)) aNil))) (dOp subD (dVar 7) (dC (.int 7))))
def mB2 : SF := sIf (bAnd (dB (dOp (eqD false) (dOp ixD (dVar 8) (dC (.int 0))) (dC (.str "lift")))) (bOr (dB (dOp gtD (dOp ixD (dVar 8) (dC (.int 4))) (dOp ixD (dVar 4) (dC (.int 0))))) (dB (dOp gtD (dCB absD (aCons (dOp ixD (dVar 8) (dC (.int 3))) aNil)) (dC (.int 20)))))) (sSet 8 (dC .non)) (sIf (dB (dOp (eqD false) (dOp ixD (dVar 8) (dC (.int 0))) (dC (.str "lift")))) (sAsg (hSub (dVar 4) (dC (.int 0))) (dOp divD (dOp ixD (dVar 4) (dC (.int 0))) (dOp ixD (dVar 8) (dC (.int 4))))) sNext)
noncomputable def mB : SF := sIf (bAnd (dB (dOp (eqD true) (dVar 5) (dLst false aNil))) (dB (dOp gtD (dVar 7) (dC (.int 6))))) (sSeq mB1 mB2) sNext
noncomputable def mC : SF := sIf (dB (dOp isND (dVar 8) (dC .non))) (sSet 8 (dIfE (dB (dOp gtD (dVar 7) (dC (.int 2)))) (dCallN false 3 G_law_lift (aCons (dVar 0) (aCons (dVar 1) (aCons (dVar 4) aNil)))) (dCallN false 2 G_law_plain (aCons (dVar 0) (aCons (dVar 1) aNil))))) sNext
def mD : SF := sDrop (dMt appD (dVar 5) (aCons (dVar 8) aNil))
theorem f_moves_eq : f_law_moves = sSeq (sPar [4, 5] (aCons (dLst true (aCons (dVar 3) aNil)) (aCons (dLst true aNil) aNil))) (sSeq (sFor (iRg1 (dCallN false 2 G_law_draw (aCons (dVar 0) (aCons (dOp (addD false) (dVar 2) (dC (.int 1))) aNil)))) (.nm 6) (sSeq mA (sSeq mB (sSeq mC mD)))) (sRet (dVar 5))) := rfl
section
variable {n m : Nat} {T R0 R : Int} {p acc : List D} {x6 x7 x8 : Option Vl}
theorem d_mA (hp : Pool m p) (hm : m ≤ 9000) : ∃ w p', 0 ≤ w ∧ w < 9 ∧ Pool (m + 1) p' ∧ mA (mv n T R0 p R acc x6 x7 x8) = some (.nx, mv n T R0 p' R acc x6 (some (.fz (.int w))) (some (.fz .non))) := by
  obtain ⟨w, p', e, h1, h2, h3⟩ := g_draw (many := 9) hp (by decide) (by decide) (by omega)
  refine ⟨w, p', h1, h2, h3, ?_⟩
  have e' := cl1 (G := G_law_draw) (m := false) (n := 2) (fa := aCons (dVar 0) (aCons (dC (.int 9)) aNil)) (δ := mv n T R0 p R acc x6 x7 x8) (k := 0) rfl rfl rfl rfl e
  unfold mA
  rw [sPar2 (aC e' (aC rfl rfl))]
  rfl
theorem d_mB1 {ss : List S} {s : S} {w : Int} (hn : n = 2 ∨ n = 3) (h : Ok n s) (hw : w = 7 ∨ w = 8) : mB1 (mv n T R0 p R (encs ss ++ [enc s]) x6 (some (.fz (.int w))) x8) = some (.nx, mv n T R0 p R (encs ss ++ [enc s]) x6 (some (.fz (.int w))) (some (.fz (enc (if w = 7 then s else back s))))) := by
  have e1 : dOp ixD (dVar 5) (dUn negD (dC (.int 1))) (mv n T R0 p R (encs ss ++ [enc s]) x6 (some (.fz (.int w))) x8) = some (.fz (enc s), mv n T R0 p R (encs ss ++ [enc s]) x6 (some (.fz (.int w))) x8) := by
    have h4 : atI (encs ss ++ [enc s]) (-1) = some (enc s) := atI_last _ _
    simp [mv, dOp, dVar, dUn, dC, negD, der, ixD, h4]
  have e2 := cl0 (G := G_law_back) (m := false) (n := 1) (fa := aCons (dOp ixD (dVar 5) (dUn negD (dC (.int 1)))) aNil) (aC e1 rfl) rfl rfl (g_back hn h)
  have e3 : dLst false (aCons (dOp ixD (dVar 5) (dUn negD (dC (.int 1)))) (aCons (dCallN false 1 G_law_back (aCons (dOp ixD (dVar 5) (dUn negD (dC (.int 1)))) aNil)) aNil)) (mv n T R0 p R (encs ss ++ [enc s]) x6 (some (.fz (.int w))) x8) = some (.fz (.lst [enc s, enc (back s)]), mv n T R0 p R (encs ss ++ [enc s]) x6 (some (.fz (.int w))) x8) := by
    rw [dLst, aC e1 (aC e2 rfl)]
    rfl
  have e4 : dOp subD (dVar 7) (dC (.int 7)) (mv n T R0 p R (encs ss ++ [enc s]) x6 (some (.fz (.int w))) x8) = some (.fz (.int (w - 7)), mv n T R0 p R (encs ss ++ [enc s]) x6 (some (.fz (.int w))) x8) := rfl
  have e5 : dOp ixD (dLst false (aCons (dOp ixD (dVar 5) (dUn negD (dC (.int 1)))) (aCons (dCallN false 1 G_law_back (aCons (dOp ixD (dVar 5) (dUn negD (dC (.int 1)))) aNil)) aNil))) (dOp subD (dVar 7) (dC (.int 7))) (mv n T R0 p R (encs ss ++ [enc s]) x6 (some (.fz (.int w))) x8) = some (.fz (enc (if w = 7 then s else back s)), mv n T R0 p R (encs ss ++ [enc s]) x6 (some (.fz (.int w))) x8) := by
    rcases hw with rfl | rfl
    · rw [dOp, e3]
      simp [e4, der, ixD, atI, ixN]
    · rw [dOp, e3]
      simp [e4, der, ixD, atI, ixN]
  unfold mB1
  rw [sSet_ e5]
  rfl
theorem d_mB2 {t : S} (h : Ok n t) (h1 : 1 ≤ R) (h2 : R ≤ 12) : ∃ R' o, (o = Option.none ∨ ∃ s, o = some s ∧ Dr n s) ∧ 1 ≤ R' ∧ R' ≤ 12 ∧ mB2 (mv n T R0 p R acc x6 x7 (some (.fz (enc t)))) = some (.nx, mv n T R0 p R' acc x6 x7 (some (.fz (match o with | some s => enc s | none => .non)))) := by
  cases t with
  | lift c ws a d =>
    obtain ⟨g1, g2, g3, g4, g5, g6, g7, g8⟩ := id h
    by_cases hd : R < d
    · refine ⟨R, Option.none, .inl rfl, h1, h2, ?_⟩
      unfold mB2
      simp [fnD, sSeq, sSet, sDrop, sRet, sRetN, sIf, sAsg, sPar, sFor, forD, dC, dVar, dOp, der, ders, frz, frzs, dTup, dLst, aNil, aCons, aStar, PK.mk, dCB, PK.g1, PK.g2, lenD, absD, maxD, minD, PK.intD, listD, tupD, sumD, allD, intsD, bls, addD, subD, mulD, divD, modD, powD, cmpD, ixD, atI, ixN, dUn, negD, dB, truD, bNot, bAnd, bOr, bYes, dAndV, dOrV, dNotV, dChain, dFld, recvOk, dIsi, tyD, kitB, dCallN, callG, refs, renum, lives, PK.putAll, hNm, hSub, hNil, hCons, hTup, setIx, asgT, setAll, dMt, appD, extD, dLc, lcGo, wipeD, iSq, iRg1, iRg2, iZipD, iEnumD, iRevD, srcOf, rangeD, zipD, small, itemsD, List.range, List.range.loop, eqD_int, dSl, dRev, slD, cutD, okR, sNext, sNever, sBrk, sCnt, dMake, makeG, PK.initD, iSeq, iDrop, iSet, iFld, dMeth, dIfE, isND, PK.isNon, oSome, oNone, HT.sIx, mv, enc, q1, hd]
    · by_cases ha : 20 < (if a < 0 then -a else a)
      · refine ⟨R, Option.none, .inl rfl, h1, h2, ?_⟩
        unfold mB2
        simp [fnD, sSeq, sSet, sDrop, sRet, sRetN, sIf, sAsg, sPar, sFor, forD, dC, dVar, dOp, der, ders, frz, frzs, dTup, dLst, aNil, aCons, aStar, PK.mk, dCB, PK.g1, PK.g2, lenD, absD, maxD, minD, PK.intD, listD, tupD, sumD, allD, intsD, bls, addD, subD, mulD, divD, modD, powD, cmpD, ixD, atI, ixN, dUn, negD, dB, truD, bNot, bAnd, bOr, bYes, dAndV, dOrV, dNotV, dChain, dFld, recvOk, dIsi, tyD, kitB, dCallN, callG, refs, renum, lives, PK.putAll, hNm, hSub, hNil, hCons, hTup, setIx, asgT, setAll, dMt, appD, extD, dLc, lcGo, wipeD, iSq, iRg1, iRg2, iZipD, iEnumD, iRevD, srcOf, rangeD, zipD, small, itemsD, List.range, List.range.loop, eqD_int, dSl, dRev, slD, cutD, okR, sNext, sNever, sBrk, sCnt, dMake, makeG, PK.initD, iSeq, iDrop, iSet, iFld, dMeth, dIfE, isND, PK.isNon, oSome, oNone, HT.sIx, mv, enc, q1, hd, ha]
      · refine ⟨R / d, some (.lift c ws a d), .inr ⟨_, rfl, h, fun c' ws' m' d' e => ?_⟩, (Int.le_ediv_iff_mul_le (by omega)).mpr (by omega), Int.le_trans (Int.ediv_le_self _ (by omega)) h2, ?_⟩
        · cases e
          split at ha <;> omega
        · have e3 : okDiv d = true := okDiv_of g7 (by omega)
          unfold mB2
          simp [fnD, sSeq, sSet, sDrop, sRet, sRetN, sIf, sAsg, sPar, sFor, forD, dC, dVar, dOp, der, ders, frz, frzs, dTup, dLst, aNil, aCons, aStar, PK.mk, dCB, PK.g1, PK.g2, lenD, absD, maxD, minD, PK.intD, listD, tupD, sumD, allD, intsD, bls, addD, subD, mulD, divD, modD, powD, cmpD, ixD, atI, ixN, dUn, negD, dB, truD, bNot, bAnd, bOr, bYes, dAndV, dOrV, dNotV, dChain, dFld, recvOk, dIsi, tyD, kitB, dCallN, callG, refs, renum, lives, PK.putAll, hNm, hSub, hNil, hCons, hTup, setIx, asgT, setAll, dMt, appD, extD, dLc, lcGo, wipeD, iSq, iRg1, iRg2, iZipD, iEnumD, iRevD, srcOf, rangeD, zipD, small, itemsD, List.range, List.range.loop, eqD_int, dSl, dRev, slD, cutD, okR, sNext, sNever, sBrk, sCnt, dMake, makeG, PK.initD, iSeq, iDrop, iSet, iFld, dMeth, dIfE, isND, PK.isNon, oSome, oNone, HT.sIx, mv, enc, q1, hd, ha, e3]
  | swap i j =>
    refine ⟨R, some (.swap i j), .inr ⟨_, rfl, h, fun c' ws' m' d' e => by cases e⟩, h1, h2, ?_⟩
    unfold mB2
    simp [fnD, sSeq, sSet, sDrop, sRet, sRetN, sIf, sAsg, sPar, sFor, forD, dC, dVar, dOp, der, ders, frz, frzs, dTup, dLst, aNil, aCons, aStar, PK.mk, dCB, PK.g1, PK.g2, lenD, absD, maxD, minD, PK.intD, listD, tupD, sumD, allD, intsD, bls, addD, subD, mulD, divD, modD, powD, cmpD, ixD, atI, ixN, dUn, negD, dB, truD, bNot, bAnd, bOr, bYes, dAndV, dOrV, dNotV, dChain, dFld, recvOk, dIsi, tyD, kitB, dCallN, callG, refs, renum, lives, PK.putAll, hNm, hSub, hNil, hCons, hTup, setIx, asgT, setAll, dMt, appD, extD, dLc, lcGo, wipeD, iSq, iRg1, iRg2, iZipD, iEnumD, iRevD, srcOf, rangeD, zipD, small, itemsD, List.range, List.range.loop, eqD_int, dSl, dRev, slD, cutD, okR, sNext, sNever, sBrk, sCnt, dMake, makeG, PK.initD, iSeq, iDrop, iSet, iFld, dMeth, dIfE, isND, PK.isNon, oSome, oNone, HT.sIx, mv, enc, q2]
  | turn i =>
    refine ⟨R, some (.turn i), .inr ⟨_, rfl, h, fun c' ws' m' d' e => by cases e⟩, h1, h2, ?_⟩
    unfold mB2
    simp [fnD, sSeq, sSet, sDrop, sRet, sRetN, sIf, sAsg, sPar, sFor, forD, dC, dVar, dOp, der, ders, frz, frzs, dTup, dLst, aNil, aCons, aStar, PK.mk, dCB, PK.g1, PK.g2, lenD, absD, maxD, minD, PK.intD, listD, tupD, sumD, allD, intsD, bls, addD, subD, mulD, divD, modD, powD, cmpD, ixD, atI, ixN, dUn, negD, dB, truD, bNot, bAnd, bOr, bYes, dAndV, dOrV, dNotV, dChain, dFld, recvOk, dIsi, tyD, kitB, dCallN, callG, refs, renum, lives, PK.putAll, hNm, hSub, hNil, hCons, hTup, setIx, asgT, setAll, dMt, appD, extD, dLc, lcGo, wipeD, iSq, iRg1, iRg2, iZipD, iEnumD, iRevD, srcOf, rangeD, zipD, small, itemsD, List.range, List.range.loop, eqD_int, dSl, dRev, slD, cutD, okR, sNext, sNever, sBrk, sCnt, dMake, makeG, PK.initD, iSeq, iDrop, iSet, iFld, dMeth, dIfE, isND, PK.isNon, oSome, oNone, HT.sIx, mv, enc, q3]
end
end K12

set_option maxHeartbeats 0
namespace K12
open PySem L2 PK
def od (o : Option S) : D := match o with | some s => enc s | none => .non
section
variable {n m : Nat} {T R0 R : Int} {p : List D} {x6 x7 x8 : Option Vl}
theorem d_cond {ss : List S} {w : Int} : bAnd (dB (dOp (eqD true) (dVar 5) (dLst false aNil))) (dB (dOp gtD (dVar 7) (dC (.int 6)))) (mv n T R0 p R (encs ss) x6 (some (.fz (.int w))) x8) = some (decide (ss ≠ [] ∧ 6 < w), mv n T R0 p R (encs ss) x6 (some (.fz (.int w))) x8) := by
  have e1 : dLst false aNil (mv n T R0 p R (encs ss) x6 (some (.fz (.int w))) x8) = some (.fz (.lst []), mv n T R0 p R (encs ss) x6 (some (.fz (.int w))) x8) := rfl
  cases ss with
  | nil =>
    have e2 : dB (dOp (eqD true) (dVar 5) (dLst false aNil)) (mv n T R0 p R (encs []) x6 (some (.fz (.int w))) x8) = some (false, mv n T R0 p R (encs []) x6 (some (.fz (.int w))) x8) := by
      have e3 := eqD_nil (neg := true) (δ := mv n T R0 p R (encs []) x6 (some (.fz (.int w))) x8)
      exact dB_ ((dOp_ rfl e1 rfl rfl).trans e3)
    simp [bAnd, e2]
  | cons s ss =>
    have e2 : dB (dOp (eqD true) (dVar 5) (dLst false aNil)) (mv n T R0 p R (encs (s :: ss)) x6 (some (.fz (.int w))) x8) = some (true, mv n T R0 p R (encs (s :: ss)) x6 (some (.fz (.int w))) x8) := by
      have e3 := eqD_ne (k := 2) (neg := true) (δ := mv n T R0 p R (encs (s :: ss)) x6 (some (.fz (.int w))) x8) (acc := encs (s :: ss)) (by simp [encs]) nice_encs (by decide)
      exact dB_ ((dOp_ rfl e1 rfl rfl).trans e3)
    rw [bAnd, e2]
    simp [mv, dB, dOp, dVar, dC, der, cmpD, truD]
theorem d_mB {ss : List S} {w : Int} (hn : n = 2 ∨ n = 3) (hs : ∀ s ∈ ss, Dr n s) (hw : w < 9) (h1 : 1 ≤ R) (h2 : R ≤ 12) : ∃ R' o, (o = Option.none ∨ ∃ s, o = some s ∧ Dr n s) ∧ 1 ≤ R' ∧ R' ≤ 12 ∧
    mB (mv n T R0 p R (encs ss) x6 (some (.fz (.int w))) (some (.fz .non))) = some (.nx, mv n T R0 p R' (encs ss) x6 (some (.fz (.int w))) (some (.fz (od o)))) := by
  unfold mB
  rw [sIf_ d_cond]
  by_cases hc : ss ≠ [] ∧ 6 < w
  · rw [decide_eq_true hc, if_pos rfl]
    obtain ⟨ts, s, rfl⟩ : ∃ ts s, ss = ts ++ [s] := ⟨ss.dropLast, ss.getLast hc.1, (List.dropLast_concat_getLast hc.1).symm⟩
    have hs1 := hs s (by simp)
    have ee : encs (ts ++ [s]) = encs ts ++ [enc s] := by simp [encs]
    rw [ee, sSeq_nx (d_mB1 hn hs1.1 (by omega))]
    have ht : Ok n (if w = 7 then s else back s) := by
      split
      · exact hs1.1
      · exact ok_back hs1.1 fun c ws a d e => by have := hs1.2 c ws a d e; omega
    obtain ⟨R', o, g1, g2, g3, g4⟩ := d_mB2 (T := T) (R0 := R0) (p := p) (acc := encs ts ++ [enc s]) (x6 := x6) (x7 := some (.fz (.int w))) ht h1 h2
    exact ⟨R', o, g1, g2, g3, g4⟩
  · rw [decide_eq_false hc, if_neg Bool.false_ne_true]
    exact ⟨R, Option.none, .inl rfl, h1, h2, rfl⟩
theorem d_mC {acc : List D} {w : Int} {o : Option S} (hn : n = 2 ∨ n = 3) (ho : o = Option.none ∨ ∃ s, o = some s ∧ Dr n s) (hp : Pool m p) (hm : m ≤ 7000) (h1 : 1 ≤ R) (h2 : R ≤ 12) : ∃ R' p' s, Dr n s ∧ 1 ≤ R' ∧ R' ≤ 12 ∧ Pool (m + 10) p' ∧
    mC (mv n T R0 p R acc x6 (some (.fz (.int w))) (some (.fz (od o)))) = some (.nx, mv n T R0 p' R' acc x6 (some (.fz (.int w))) (some (.fz (enc s)))) := by
  rcases ho with rfl | ⟨s, rfl, hs⟩
  · have e1 : dB (dOp isND (dVar 8) (dC .non)) (mv n T R0 p R acc x6 (some (.fz (.int w))) (some (.fz (od Option.none)))) = some (true, mv n T R0 p R acc x6 (some (.fz (.int w))) (some (.fz (od Option.none)))) := rfl
    unfold mC
    rw [sIf_ e1, if_pos rfl]
    have e2 : dB (dOp gtD (dVar 7) (dC (.int 2))) (mv n T R0 p R acc x6 (some (.fz (.int w))) (some (.fz (od Option.none)))) = some (decide (2 < w), mv n T R0 p R acc x6 (some (.fz (.int w))) (some (.fz (od Option.none)))) := rfl
    by_cases hw : 2 < w
    · obtain ⟨s, R', p', e3, g1, g2, g3, g4⟩ := g_lift hn hp hm h1 h2
      have e4 := cl2 (G := G_law_lift) (m := false) (n := 3) (fa := aCons (dVar 0) (aCons (dVar 1) (aCons (dVar 4) aNil))) (δ := mv n T R0 p R acc x6 (some (.fz (.int w))) (some (.fz (od Option.none)))) (k := 0) (l := 1) rfl rfl rfl (by decide) rfl rfl e3
      refine ⟨R', p', s, g1, g2, g3, g4, ?_⟩
      rw [sSet, dIfE, e2, Option.bind_some, if_pos (decide_eq_true hw), e4]
      rfl
    · obtain ⟨s, p', e3, g1, g4⟩ := g_plain hn hp (by omega)
      have e4 := cl1 (G := G_law_plain) (m := false) (n := 2) (fa := aCons (dVar 0) (aCons (dVar 1) aNil)) (δ := mv n T R0 p R acc x6 (some (.fz (.int w))) (some (.fz (od Option.none)))) (k := 0) rfl rfl rfl rfl e3
      refine ⟨R, p', s, g1, h1, h2, g4.up (by omega), ?_⟩
      rw [sSet, dIfE, e2, Option.bind_some, if_neg (by simp [hw]), e4]
      rfl
  · have e1 : dB (dOp isND (dVar 8) (dC .non)) (mv n T R0 p R acc x6 (some (.fz (.int w))) (some (.fz (od (some s))))) = some (false, mv n T R0 p R acc x6 (some (.fz (.int w))) (some (.fz (od (some s))))) := by
      cases s <;> rfl
    unfold mC
    rw [sIf_ e1, if_neg Bool.false_ne_true]
    exact ⟨R, p, s, hs, h1, h2, hp.up (by omega), rfl⟩
theorem d_mD {ss : List S} {s : S} (hl : ss.length ≤ 100) : mD (mv n T R0 p R (encs ss) x6 x7 (some (.fz (enc s)))) = some (.nx, mv n T R0 p R (encs (ss ++ [s])) x6 x7 (some (.fz (enc s)))) := by
  have h3 : (encs ss).length < small := by simp [encs, small]; omega
  have ee : encs (ss ++ [s]) = encs ss ++ [enc s] := by simp [encs]
  unfold mD
  simp [mv, sDrop, dMt, dVar, aCons, aNil, frzs, frz, appD, h3, ee]
end
theorem g_moves {n m : Nat} {T R0 : Int} {p : List D} (hn : n = 2 ∨ n = 3) (hT : 0 ≤ T ∧ T ≤ 6) (hp : Pool m p) (hm : m ≤ 6000) (h1 : 1 ≤ R0) (h2 : R0 ≤ 12) : ∃ ss p', G_law_moves [.rf 0, .fz (.int n), .fz (.int T), .fz (.int R0)] [p] = some (.fresh (encs ss), [p']) ∧ (∀ s ∈ ss, Dr n s) ∧ ss.length ≤ 6 ∧ Pool (m + 67) p' := by
  obtain ⟨k, p1, e1, a1, a2, hp1⟩ := g_draw (many := T + 1) hp (by omega) (by omega) (by omega)
  obtain ⟨k, rfl⟩ := Int.eq_ofNat_of_zero_le a1
  obtain ⟨δ', e2, ⟨p2, R2, ss, x6, x7, x8, rfl, b1, b2, b3, b4, b5⟩⟩ := forD_inv (tg := .nm 6) (body := sSeq mA (sSeq mB (sSeq mC mD))) (ck := []) (fun i δ => ∃ p R ss x6 x7 x8, δ = mv n T R0 p R (encs ss) x6 x7 x8 ∧ Pool (m + 1 + 11 * i) p ∧ 1 ≤ R ∧ R ≤ 12 ∧ (∀ s ∈ ss, Dr n s) ∧ ss.length ≤ i) (fun i δ _ => by simp) (rangeD 0 k) 0 (mv n T R0 p1 R0 (encs []) none none none) ⟨p1, R0, [], none, none, none, rfl, hp1, h1, h2, by simp, by simp⟩ (by
      rintro j d δ hj ⟨p, R, ss, x6, x7, x8, rfl, c1, c2, c3, c4, c5⟩
      have hj7 : j < 7 := by
        obtain ⟨hlt, _⟩ := List.getElem?_eq_some_iff.mp hj
        simp [rangeD] at hlt
        omega
      refine ⟨_, rfl, ?_⟩
      obtain ⟨w, p3, w0, w9, hp3, e3⟩ := d_mA (n := n) (T := T) (R0 := R0) (R := R) (acc := encs ss) (x6 := some (.fz d)) (x7 := x7) (x8 := x8) c1 (by omega)
      obtain ⟨R4, o, ho, r1, r2, e4⟩ := d_mB (T := T) (R0 := R0) (p := p3) (x6 := some (.fz d)) hn c4 w9 c2 c3
      obtain ⟨R5, p5, s, hs, r3, r4, hp5, e5⟩ := d_mC (T := T) (R0 := R0) (acc := encs ss) (x6 := some (.fz d)) (w := w) hn ho hp3 (by omega) r1 r2
      have e6 := d_mD (n := n) (T := T) (R0 := R0) (R := R5) (p := p5) (x6 := some (.fz d)) (x7 := some (.fz (.int w))) (ss := ss) (s := s) (by omega)
      refine ⟨mv n T R0 p5 R5 (encs (ss ++ [s])) (some (.fz d)) (some (.fz (.int w))) (some (.fz (enc s))), ?_, p5, R5, ss ++ [s], _, _, _, rfl, hp5.up (by omega), r3, r4, ?_, by simp; omega⟩
      · show sSeq mA (sSeq mB (sSeq mC mD)) (mv n T R0 p R (encs ss) (some (.fz d)) x7 x8) = _
        rw [sSeq_nx e3, sSeq_nx e4, sSeq_nx e5, e6]
      · intro t ht
        rcases List.mem_append.mp ht with h | h
        · exact c4 t h
        · rw [List.mem_singleton.mp h]; exact hs)
  have hl : (rangeD 0 k).length = k := by simp [rangeD]
  refine ⟨ss, p2, ?_, b4, by omega, b1.up (by omega)⟩
  unfold G_law_moves fnD
  rw [f_moves_eq]
  have s1 : sPar [4, 5] (aCons (dLst true (aCons (dVar 3) aNil)) (aCons (dLst true aNil) aNil)) ⟨[some (.rf 0), some (.fz (.int n)), some (.fz (.int T)), some (.fz (.int R0)), none, none, none, none, none], [some p]⟩ = some (.nx, mv n T R0 p R0 (encs []) none none none) := rfl
  have e7 := cl1 (G := G_law_draw) (m := false) (n := 2) (fa := aCons (dVar 0) (aCons (dOp (addD false) (dVar 2) (dC (.int 1))) aNil)) (δ := mv n T R0 p R0 (encs []) none none none) (k := 0) rfl rfl rfl rfl e1
  have s2 : iRg1 (dCallN false 2 G_law_draw (aCons (dVar 0) (aCons (dOp (addD false) (dVar 2) (dC (.int 1))) aNil))) (mv n T R0 p R0 (encs []) none none none) = some (rangeD 0 k, [], mv n T R0 p1 R0 (encs []) none none none) := by
    rw [iRg1, e7, Option.bind_some]
    simp [okR, mv, show (k : Int) < 4611686018427387904 by omega, show (-4611686018427387904 : Int) ≤ k by omega]
  have s3 : sFor (iRg1 (dCallN false 2 G_law_draw (aCons (dVar 0) (aCons (dOp (addD false) (dVar 2) (dC (.int 1))) aNil)))) (.nm 6) (sSeq mA (sSeq mB (sSeq mC mD))) (mv n T R0 p R0 (encs []) none none none) = some (.nx, mv n T R0 p2 R2 (encs ss) x6 x7 x8) := by
    rw [sFor, s2]
    exact e2
  show ((sSeq _ (sSeq _ _) ⟨[some (.rf 0), some (.fz (.int n)), some (.fz (.int T)), some (.fz (.int R0)), none, none, none, none, none], [some p]⟩).bind _) = _
  rw [sSeq_nx s1, sSeq_nx s3]
  simp [sRet, dVar, mv, lives, List.range, List.range.loop]
end K12

set_option maxHeartbeats 0
namespace K12
open PySem L2 PK
/-- all that is asked of a chain here -/
structure Ch (n : Nat) (ss : List S) : Prop where
  hn : n = 2 ∨ n = 3
  ok : Oks n ss
  bk : Oks n (backs ss)
  len : ss.length ≤ 24
theorem Ch.back {n : Nat} {ss : List S} (h : Ch n ss) : Ch n (backs ss) := ⟨h.hn, h.bk, by rw [backs_backs h.ok]; exact h.ok, by rw [backs_len]; exact h.len⟩
theorem Ch.of {n : Nat} {ss : List S} (hn : n = 2 ∨ n = 3) (h : ∀ s ∈ ss, Dr n s) (hl : ss.length ≤ 24) : Ch n ss := ⟨hn, fun s hs => (h s hs).1, fun s hs => by
  obtain ⟨t, ht, rfl⟩ := List.mem_map.mp hs
  have := h t (by simpa using ht)
  exact ok_back this.1 fun c ws a d e => by have := this.2 c ws a d e; omega, hl⟩
section
variable {n : Nat} {ss : List S} {v : List Int}
theorem Ch.at (h : Ch n ss) {mm : Bool} {k : Nat} {fo fv : EF} {δ δ1 δ2 : Dl} (e : fo δ = some (.fz (chD n ss), δ1)) (e2 : fv δ1 = some (.fz (tupI v), δ2)) (hv : v.length = n) (hb : Bd k v) (hk : k ≤ 700) : dMeth mm "Chain" "at" 2 G_Chain_at fo (aCons fv aNil) δ = some (.fz (tupI (runs ss v)), δ2) :=
  mt0 e rv_at (aC e2 rfl) rfl rfl (g_at h.hn h.ok hv hb (by have := h.len; omega))
end
end K12

set_option maxHeartbeats 0
namespace K12
open PySem L2 PK
theorem g_steps {n : Nat} {ss : List S} : G_Chain_steps [.fz (chD n ss)] [] = some (.fresh (encs ss), []) := by
  unfold G_Chain_steps f_Chain_steps
  simp [fnD, sSeq, sSet, sDrop, sRet, sRetN, sIf, sAsg, sPar, sFor, forD, dC, dVar, dOp, der, ders, frz, frzs, dTup, dLst, aNil, aCons, aStar, PK.mk, dCB, PK.g1, PK.g2, lenD, absD, maxD, minD, PK.intD, listD, tupD, sumD, allD, intsD, bls, addD, subD, mulD, divD, modD, powD, cmpD, ixD, atI, ixN, dUn, negD, dB, truD, bNot, bAnd, bOr, bYes, dAndV, dOrV, dNotV, dChain, dFld, recvOk, dIsi, tyD, kitB, dCallN, callG, refs, renum, lives, PK.putAll, hNm, hSub, hNil, hCons, hTup, setIx, asgT, setAll, dMt, appD, extD, dLc, lcGo, wipeD, iSq, iRg1, iRg2, iZipD, iEnumD, iRevD, srcOf, rangeD, zipD, small, itemsD, List.range, List.range.loop, eqD_int, dSl, dRev, slD, cutD, okR, sNext, sNever, sBrk, sCnt, dMake, makeG, PK.initD, iSeq, iDrop, iSet, iFld, dMeth, dIfE, isND, PK.isNon, oSome, oNone, HT.sIx, chD, fl_steps']
theorem g_channels {n : Nat} {ss : List S} : G_Chain_channels [.fz (chD n ss)] [] = some (.val (.int n), []) := by
  unfold G_Chain_channels f_Chain_channels
  simp [fnD, sSeq, sSet, sDrop, sRet, sRetN, sIf, sAsg, sPar, sFor, forD, dC, dVar, dOp, der, ders, frz, frzs, dTup, dLst, aNil, aCons, aStar, PK.mk, dCB, PK.g1, PK.g2, lenD, absD, maxD, minD, PK.intD, listD, tupD, sumD, allD, intsD, bls, addD, subD, mulD, divD, modD, powD, cmpD, ixD, atI, ixN, dUn, negD, dB, truD, bNot, bAnd, bOr, bYes, dAndV, dOrV, dNotV, dChain, dFld, recvOk, dIsi, tyD, kitB, dCallN, callG, refs, renum, lives, PK.putAll, hNm, hSub, hNil, hCons, hTup, setIx, asgT, setAll, dMt, appD, extD, dLc, lcGo, wipeD, iSq, iRg1, iRg2, iZipD, iEnumD, iRevD, srcOf, rangeD, zipD, small, itemsD, List.range, List.range.loop, eqD_int, dSl, dRev, slD, cutD, okR, sNext, sNever, sBrk, sCnt, dMake, makeG, PK.initD, iSeq, iDrop, iSet, iFld, dMeth, dIfE, isND, PK.isNon, oSome, oNone, HT.sIx, chD, fl_ch']
theorem nice_lencs {ss : List S} : Nice 3 (.lst (encs ss)) := nice_lst nice_encs
section
variable {n m : Nat} {ss : List S} {p : List D}
theorem st_f {fo : EF} {δ δ1 : Dl} (e : fo δ = some (.fz (chD n ss), δ1)) : dMeth false "Chain" "" 1 G_Chain_steps fo aNil δ = some (.fz (.lst (encs ss)), δ1) := mt0f e rv_no rfl rfl rfl g_steps
theorem ch_f {fo : EF} {δ δ1 : Dl} (e : fo δ = some (.fz (chD n ss), δ1)) : dMeth false "Chain" "" 1 G_Chain_channels fo aNil δ = some (.fz (.int n), δ1) := mt0 e rv_no rfl rfl rfl g_channels
end

/-! ### the product of the divisors -/
def dv : S → Int
  | .lift _ _ _ d => d
  | _ => 1
def whole : List S → Int → Int
  | [], t => t
  | s :: ss, t => whole ss (t * dv s)
theorem dv_ok {n : Nat} {s : S} (h : Ok n s) : 1 ≤ dv s ∧ dv s ≤ 12 := by
  cases s with
  | lift c ws m d => exact ⟨h.2.2.2.2.2.2.1, h.2.2.2.2.2.2.2⟩
  | swap i j => exact ⟨Int.le_refl 1, by show (1 : Int) ≤ 12; decide⟩
  | turn i => exact ⟨Int.le_refl 1, by show (1 : Int) ≤ 12; decide⟩
theorem mul_bd {t d : Int} {k : Nat} (ht : t.natAbs < 2 ^ k) (hd : 1 ≤ d ∧ d ≤ 12) : (t * d).natAbs < 2 ^ (k + 4) := by
  have hp : 2 ^ (k + 4) = 2 ^ k * 16 := by rw [Nat.pow_add]
  rw [Int.natAbs_mul]
  have : t.natAbs * d.natAbs ≤ t.natAbs * 12 := Nat.mul_le_mul_left _ (by omega)
  omega
theorem okMul_d {t d : Int} {k : Nat} (ht : t.natAbs < 2 ^ k) (hk : k ≤ 1000) (hd : 1 ≤ d ∧ d ≤ 12) : okMul t d = true := by
  unfold okMul
  have h1 := log_of ht
  have h2 : d.natAbs.log2 ≤ d.natAbs := Nat.log2_le_self _
  exact decide_eq_true (by omega)
theorem g_whole {n : Nat} {ss : List S} (h : Oks n ss) (hl : ss.length ≤ 24) : G_law_whole [.fz (.lst (encs ss))] [] = some (.val (.int (whole ss 1)), []) := by
  have loop : ∀ (A : Option Vl) (ss : List S) (t : Int) (k : Nat) (b : Option Vl), Oks n ss → t.natAbs < 2 ^ k → k + 4 * ss.length ≤ 1000 → ∃ b', forD [] (.nm 2) (sSet 1 (dOp (mulD false) (dVar 1) (dIfE (dB (dOp (eqD false) (dOp ixD (dVar 2) (dC (.int 0))) (dC (.str "lift")))) (dOp ixD (dVar 2) (dC (.int 4))) (dC (.int 1))))) (encs ss) ⟨[A, some (.fz (.int t)), b], []⟩ = some (.nx, ⟨[A, some (.fz (.int (whole ss t))), b'], []⟩) := by
    intro A ss
    induction ss with
    | nil => intro t k b _ _ _; exact ⟨b, by simp [encs, forD, whole]⟩
    | cons s ss ih =>
      intro t k b hs ht hk
      rw [List.length_cons] at hk
      have h1 := dv_ok (hs s List.mem_cons_self)
      have h2 := okMul_d ht (by omega) h1
      obtain ⟨b', e⟩ := ih (t * dv s) (k + 4) (some (.fz (enc s))) (fun x hx => hs x (List.mem_cons_of_mem _ hx)) (mul_bd ht h1) (by omega)
      refine ⟨b', ?_⟩
      simp only [encs, List.map_cons, whole]
      rw [forD]
      unfold encs at e
      rw [← e]
      cases s with
      | lift c ws m d =>
        have h3 : okMul t d = true := h2
        simp [fnD, sSeq, sSet, sDrop, sRet, sRetN, sIf, sAsg, sPar, sFor, forD, dC, dVar, dOp, der, ders, frz, frzs, dTup, dLst, aNil, aCons, aStar, PK.mk, dCB, PK.g1, PK.g2, lenD, absD, maxD, minD, PK.intD, listD, tupD, sumD, allD, intsD, bls, addD, subD, mulD, divD, modD, powD, cmpD, ixD, atI, ixN, dUn, negD, dB, truD, bNot, bAnd, bOr, bYes, dAndV, dOrV, dNotV, dChain, dFld, recvOk, dIsi, tyD, kitB, dCallN, callG, refs, renum, lives, PK.putAll, hNm, hSub, hNil, hCons, hTup, setIx, asgT, setAll, dMt, appD, extD, dLc, lcGo, wipeD, iSq, iRg1, iRg2, iZipD, iEnumD, iRevD, srcOf, rangeD, zipD, small, itemsD, List.range, List.range.loop, eqD_int, dSl, dRev, slD, cutD, okR, sNext, sNever, sBrk, sCnt, dMake, makeG, PK.initD, iSeq, iDrop, iSet, iFld, dMeth, dIfE, isND, PK.isNon, oSome, oNone, HT.sIx, enc, q1, h3, dv]
      | swap i j =>
        have h3 : okMul t 1 = true := h2
        simp [fnD, sSeq, sSet, sDrop, sRet, sRetN, sIf, sAsg, sPar, sFor, forD, dC, dVar, dOp, der, ders, frz, frzs, dTup, dLst, aNil, aCons, aStar, PK.mk, dCB, PK.g1, PK.g2, lenD, absD, maxD, minD, PK.intD, listD, tupD, sumD, allD, intsD, bls, addD, subD, mulD, divD, modD, powD, cmpD, ixD, atI, ixN, dUn, negD, dB, truD, bNot, bAnd, bOr, bYes, dAndV, dOrV, dNotV, dChain, dFld, recvOk, dIsi, tyD, kitB, dCallN, callG, refs, renum, lives, PK.putAll, hNm, hSub, hNil, hCons, hTup, setIx, asgT, setAll, dMt, appD, extD, dLc, lcGo, wipeD, iSq, iRg1, iRg2, iZipD, iEnumD, iRevD, srcOf, rangeD, zipD, small, itemsD, List.range, List.range.loop, eqD_int, dSl, dRev, slD, cutD, okR, sNext, sNever, sBrk, sCnt, dMake, makeG, PK.initD, iSeq, iDrop, iSet, iFld, dMeth, dIfE, isND, PK.isNon, oSome, oNone, HT.sIx, enc, q2, h3, dv]
      | turn i =>
        have h3 : okMul t 1 = true := h2
        simp [fnD, sSeq, sSet, sDrop, sRet, sRetN, sIf, sAsg, sPar, sFor, forD, dC, dVar, dOp, der, ders, frz, frzs, dTup, dLst, aNil, aCons, aStar, PK.mk, dCB, PK.g1, PK.g2, lenD, absD, maxD, minD, PK.intD, listD, tupD, sumD, allD, intsD, bls, addD, subD, mulD, divD, modD, powD, cmpD, ixD, atI, ixN, dUn, negD, dB, truD, bNot, bAnd, bOr, bYes, dAndV, dOrV, dNotV, dChain, dFld, recvOk, dIsi, tyD, kitB, dCallN, callG, refs, renum, lives, PK.putAll, hNm, hSub, hNil, hCons, hTup, setIx, asgT, setAll, dMt, appD, extD, dLc, lcGo, wipeD, iSq, iRg1, iRg2, iZipD, iEnumD, iRevD, srcOf, rangeD, zipD, small, itemsD, List.range, List.range.loop, eqD_int, dSl, dRev, slD, cutD, okR, sNext, sNever, sBrk, sCnt, dMake, makeG, PK.initD, iSeq, iDrop, iSet, iFld, dMeth, dIfE, isND, PK.isNon, oSome, oNone, HT.sIx, enc, q3, h3, dv]
  obtain ⟨b', e⟩ := loop (some (.fz (.lst (encs ss)))) ss 1 1 none h (by decide) (by omega)
  unfold G_law_whole f_law_whole
  simp [fnD, sSeq, sSet, sDrop, sRet, sRetN, sIf, sAsg, sPar, sFor, forD, dC, dVar, dOp, der, ders, frz, frzs, dTup, dLst, aNil, aCons, aStar, PK.mk, dCB, PK.g1, PK.g2, lenD, absD, maxD, minD, PK.intD, listD, tupD, sumD, allD, intsD, bls, addD, subD, mulD, divD, modD, powD, cmpD, ixD, atI, ixN, dUn, negD, dB, truD, bNot, bAnd, bOr, bYes, dAndV, dOrV, dNotV, dChain, dFld, recvOk, dIsi, tyD, kitB, dCallN, callG, refs, renum, lives, PK.putAll, hNm, hSub, hNil, hCons, hTup, setIx, asgT, setAll, dMt, appD, extD, dLc, lcGo, wipeD, iSq, iRg1, iRg2, iZipD, iEnumD, iRevD, srcOf, rangeD, zipD, small, itemsD, List.range, List.range.loop, eqD_int, dSl, dRev, slD, cutD, okR, sNext, sNever, sBrk, sCnt, dMake, makeG, PK.initD, iSeq, iDrop, iSet, iFld, dMeth, dIfE, isND, PK.isNon, oSome, oNone, HT.sIx, e]
theorem g_grid {n : Nat} {ss : List S} (h : Oks n ss) (hl : ss.length ≤ 24) : G_Chain_grid [.fz (chD n ss)] [] = some (.val (.int (whole ss 1)), []) := by
  have loop : ∀ (A : Option Vl) (ss : List S) (t : Int) (k : Nat) (b : Option Vl), Oks n ss → t.natAbs < 2 ^ k → k + 4 * ss.length ≤ 1000 → ∃ b', forD [] (.nm 2) (sIf (dB (dOp (eqD false) (dOp ixD (dVar 2) (dC (.int 0))) (dC (.str "lift")))) (sSet 1 (dOp (mulD false) (dVar 1) (dOp ixD (dVar 2) (dC (.int 4))))) sNext) (encs ss) ⟨[A, some (.fz (.int t)), b], []⟩ = some (.nx, ⟨[A, some (.fz (.int (whole ss t))), b'], []⟩) := by
    intro A ss
    induction ss with
    | nil => intro t k b _ _ _; exact ⟨b, by simp [encs, forD, whole]⟩
    | cons s ss ih =>
      intro t k b hs ht hk
      rw [List.length_cons] at hk
      have h1 := dv_ok (hs s List.mem_cons_self)
      have h2 := okMul_d ht (by omega) h1
      obtain ⟨b', e⟩ := ih (t * dv s) (k + 4) (some (.fz (enc s))) (fun x hx => hs x (List.mem_cons_of_mem _ hx)) (mul_bd ht h1) (by omega)
      refine ⟨b', ?_⟩
      simp only [encs, List.map_cons, whole]
      rw [forD]
      unfold encs at e
      rw [← e]
      cases s with
      | lift c ws m d =>
        have h3 : okMul t d = true := h2
        simp [fnD, sSeq, sSet, sDrop, sRet, sRetN, sIf, sAsg, sPar, sFor, forD, dC, dVar, dOp, der, ders, frz, frzs, dTup, dLst, aNil, aCons, aStar, PK.mk, dCB, PK.g1, PK.g2, lenD, absD, maxD, minD, PK.intD, listD, tupD, sumD, allD, intsD, bls, addD, subD, mulD, divD, modD, powD, cmpD, ixD, atI, ixN, dUn, negD, dB, truD, bNot, bAnd, bOr, bYes, dAndV, dOrV, dNotV, dChain, dFld, recvOk, dIsi, tyD, kitB, dCallN, callG, refs, renum, lives, PK.putAll, hNm, hSub, hNil, hCons, hTup, setIx, asgT, setAll, dMt, appD, extD, dLc, lcGo, wipeD, iSq, iRg1, iRg2, iZipD, iEnumD, iRevD, srcOf, rangeD, zipD, small, itemsD, List.range, List.range.loop, eqD_int, dSl, dRev, slD, cutD, okR, sNext, sNever, sBrk, sCnt, dMake, makeG, PK.initD, iSeq, iDrop, iSet, iFld, dMeth, dIfE, isND, PK.isNon, oSome, oNone, HT.sIx, enc, q1, h3, dv]
      | swap i j => simp [fnD, sSeq, sSet, sDrop, sRet, sRetN, sIf, sAsg, sPar, sFor, forD, dC, dVar, dOp, der, ders, frz, frzs, dTup, dLst, aNil, aCons, aStar, PK.mk, dCB, PK.g1, PK.g2, lenD, absD, maxD, minD, PK.intD, listD, tupD, sumD, allD, intsD, bls, addD, subD, mulD, divD, modD, powD, cmpD, ixD, atI, ixN, dUn, negD, dB, truD, bNot, bAnd, bOr, bYes, dAndV, dOrV, dNotV, dChain, dFld, recvOk, dIsi, tyD, kitB, dCallN, callG, refs, renum, lives, PK.putAll, hNm, hSub, hNil, hCons, hTup, setIx, asgT, setAll, dMt, appD, extD, dLc, lcGo, wipeD, iSq, iRg1, iRg2, iZipD, iEnumD, iRevD, srcOf, rangeD, zipD, small, itemsD, List.range, List.range.loop, eqD_int, dSl, dRev, slD, cutD, okR, sNext, sNever, sBrk, sCnt, dMake, makeG, PK.initD, iSeq, iDrop, iSet, iFld, dMeth, dIfE, isND, PK.isNon, oSome, oNone, HT.sIx, enc, q2, dv]
      | turn i => simp [fnD, sSeq, sSet, sDrop, sRet, sRetN, sIf, sAsg, sPar, sFor, forD, dC, dVar, dOp, der, ders, frz, frzs, dTup, dLst, aNil, aCons, aStar, PK.mk, dCB, PK.g1, PK.g2, lenD, absD, maxD, minD, PK.intD, listD, tupD, sumD, allD, intsD, bls, addD, subD, mulD, divD, modD, powD, cmpD, ixD, atI, ixN, dUn, negD, dB, truD, bNot, bAnd, bOr, bYes, dAndV, dOrV, dNotV, dChain, dFld, recvOk, dIsi, tyD, kitB, dCallN, callG, refs, renum, lives, PK.putAll, hNm, hSub, hNil, hCons, hTup, setIx, asgT, setAll, dMt, appD, extD, dLc, lcGo, wipeD, iSq, iRg1, iRg2, iZipD, iEnumD, iRevD, srcOf, rangeD, zipD, small, itemsD, List.range, List.range.loop, eqD_int, dSl, dRev, slD, cutD, okR, sNext, sNever, sBrk, sCnt, dMake, makeG, PK.initD, iSeq, iDrop, iSet, iFld, dMeth, dIfE, isND, PK.isNon, oSome, oNone, HT.sIx, enc, q3, dv]
  obtain ⟨b', e⟩ := loop (some (.fz (chD n ss))) ss 1 1 none h (by decide) (by omega)
  unfold chD at e
  unfold G_Chain_grid f_Chain_grid
  simp [fnD, sSeq, sSet, sDrop, sRet, sRetN, sIf, sAsg, sPar, sFor, forD, dC, dVar, dOp, der, ders, frz, frzs, dTup, dLst, aNil, aCons, aStar, PK.mk, dCB, PK.g1, PK.g2, lenD, absD, maxD, minD, PK.intD, listD, tupD, sumD, allD, intsD, bls, addD, subD, mulD, divD, modD, powD, cmpD, ixD, atI, ixN, dUn, negD, dB, truD, bNot, bAnd, bOr, bYes, dAndV, dOrV, dNotV, dChain, dFld, recvOk, dIsi, tyD, kitB, dCallN, callG, refs, renum, lives, PK.putAll, hNm, hSub, hNil, hCons, hTup, setIx, asgT, setAll, dMt, appD, extD, dLc, lcGo, wipeD, iSq, iRg1, iRg2, iZipD, iEnumD, iRevD, srcOf, rangeD, zipD, small, itemsD, List.range, List.range.loop, eqD_int, dSl, dRev, slD, cutD, okR, sNext, sNever, sBrk, sCnt, dMake, makeG, PK.initD, iSeq, iDrop, iSet, iFld, dMeth, dIfE, isND, PK.isNon, oSome, oNone, HT.sIx, chD, fl_steps', e]
theorem encs_app (ss ts : List S) : encs ss ++ encs ts = encs (ss ++ ts) := by simp [encs]
end K12

set_option maxHeartbeats 0
namespace K12
open PySem L2 PK
theorem rows_last (ss : List S) : ∀ v, ∃ pre, rows ss v = pre ++ [runs ss v] := by
  induction ss with
  | nil => intro v; exact ⟨[], rfl⟩
  | cons s ss ih =>
    intro v
    obtain ⟨pre, e⟩ := ih (go s v)
    exact ⟨v :: pre, by rw [rows, e, runs]; rfl⟩
theorem grd {n : Nat} {ss : List S} {mm : Bool} {fo : EF} {δ δ1 : Dl} (h : Oks n ss) (hl : ss.length ≤ 24) (e : fo δ = some (.fz (chD n ss), δ1)) : dMeth mm "Chain" "grid" 1 G_Chain_grid fo aNil δ = some (.fz (.int (whole ss 1)), δ1) :=
  mt0 e (by show (decide (("Chain" : Str) = ("Chain" : Str)) && !fsC.contains ("grid" : Str)) = true; decide +kernel) rfl rfl rfl (g_grid h hl)
theorem add_l {ss ts : List S} {fa fb : EF} {δ δ1 δ2 : Dl} (e1 : fa δ = some (.fz (.lst (encs ss)), δ1)) (e2 : fb δ1 = some (.fz (.lst (encs ts)), δ2)) (hl : ss.length + ts.length ≤ 1000) : dOp (addD false) fa fb δ = some (.fz (.lst (encs (ss ++ ts))), δ2) := by
  refine (dOp_ e1 e2 rfl rfl).trans ?_
  have : (encs ss).length + (encs ts).length ≤ small := by simp [encs, small]; omega
  simp only [addD, this, if_true, PK.mk, encs_app]
  rfl
end K12

set_option maxHeartbeats 0
namespace K12.M
open PySem L2 PK

theorem okDiv_of {d : Int} (h1 : 1 ≤ d) (h2 : d < 2 ^ 200) : okDiv d = true := by
  unfold okDiv
  have h3 : d.natAbs.log2 < 200 := (Nat.log2_lt (by omega)).mpr (by omega)
  exact decide_eq_true ⟨by omega, by omega⟩
/-! ### the draws -/
theorem log_of {i : Int} {n : Nat} (h : i.natAbs < 2 ^ n) : i.natAbs.log2 ≤ n := by
  rcases Nat.eq_zero_or_pos i.natAbs with e | e
  · rw [e]; simp
  · exact Nat.le_of_lt ((Nat.log2_lt (by omega)).mpr h)
theorem okMul_nn {i j : Int} (hi : i.natAbs < 2 ^ 200) (hj : j.natAbs < 2 ^ 200) : okMul i j = true := by
  unfold okMul
  have := log_of hi
  have := log_of hj
  exact decide_eq_true (by omega)
end K12.M

set_option maxHeartbeats 0
namespace K12.M
open PySem L2 PK
def tupI (v : List Int) : D := .tup (v.map D.int)
def rowD (r : List Int) : D := .lst (r.map D.int)
def mD (M : List (List Int)) : D := .lst (M.map rowD)
def Sm (k : Nat) (v : List Int) : Prop := ∀ x ∈ v, x.natAbs < 2 ^ k
/-! ### lines -/
end K12.M

set_option maxHeartbeats 0
namespace K12.M
open PySem L2 PK
theorem iRg_ {s : Nat} {f : EF} {δ : Dl} (hs : s ≤ 1000) (e : f δ = some (.fz (.int s), δ)) : iRg1 f δ = some (rangeD 0 s, [], δ) := by
  rw [iRg1, e, Option.bind_some]
  simp [okR, show (s : Int) < 4611686018427387904 by omega, show (-4611686018427387904 : Int) ≤ s by omega]
theorem rangeD_len (s : Nat) : (rangeD 0 s).length = s := by simp [rangeD]
def Sq (s : Nat) (M : List (List Int)) : Prop := M.length = s ∧ ∀ r ∈ M, r.length = s
def Sms (k : Nat) (M : List (List Int)) : Prop := ∀ r ∈ M, Sm k r
end K12.M

set_option maxHeartbeats 0
namespace K12.M
open PySem L2 PK
/-! ### the common divisor -/
def gI (a b : Int) : Int := (Int.gcd a b : Nat)
def st2 (a b : Int) : Dl := ⟨[some (.fz (.int a)), some (.fz (.int b))], []⟩
noncomputable def tW : BF := dB (dOp (eqD true) (dVar 1) (dC (.int 0)))
noncomputable def fW : SF := sPar [0, 1] (aCons (dVar 1) (aCons (dOp modF (dCB intD (aCons (dVar 0) aNil)) (dVar 1)) aNil))
theorem t_W {a b : Int} : tW (st2 a b) = some (decide (b ≠ 0), st2 a b) := by
  have e := (dOp_ (g := eqD true) (fa := dVar 1) (fb := dC (.int 0)) (δ := st2 a b) rfl rfl rfl rfl).trans eqD_int
  unfold tW
  rw [dB_ e]
  by_cases h : b = 0 <;> simp [h]
theorem f_W {a b : Int} (h : b ≠ 0) : fW (st2 a b) = some (.nx, st2 b (a.fmod b)) := by
  unfold fW st2
  simp [fnD, sSeq, sSet, sDrop, sRet, sRetN, sIf, sAsg, sPar, sFor, forD, dC, dVar, dOp, der, ders, frz, frzs, dTup, dLst, aNil, aCons, aStar, PK.mk, dCB, PK.g1, PK.g2, lenD, absD, maxD, minD, PK.intD, listD, tupD, sumD, allD, intsD, bls, addD, subD, mulD, divD, modD, powD, cmpD, ixD, atI, ixN, dUn, negD, dB, truD, bNot, bAnd, bOr, bYes, dAndV, dOrV, dNotV, dChain, dFld, recvOk, dIsi, tyD, kitB, dCallN, callG, refs, renum, lives, PK.putAll, hNm, hSub, hNil, hCons, hTup, setIx, asgT, setAll, dMt, appD, extD, dLc, lcGo, wipeD, iSq, iRg1, iRg2, iZipD, iEnumD, iRevD, srcOf, rangeD, zipD, small, itemsD, List.range, List.range.loop, eqD_int, dSl, dRev, slD, cutD, okR, sNext, sNever, sBrk, sCnt, dMake, makeG, PK.initD, iSeq, iDrop, iSet, iFld, dMeth, dIfE, isND, PK.isNon, oSome, oNone, HT.sIx, modF, h]
theorem w_0 {a : Int} {n : Nat} : whileN tW fW (n + 1) (st2 a 0) = some (.nx, st2 a 0) := by
  rw [whileN, t_W]
  rfl
theorem w_s {a b : Int} {n : Nat} (h : b ≠ 0) : whileN tW fW (n + 1) (st2 a b) = whileN tW fW n (st2 b (a.fmod b)) := by
  rw [whileN, t_W]
  simp only [Option.bind_some, decide_eq_true h, if_true, f_W h]
theorem gcd_st {a b : Int} : Int.gcd b (a.fmod b) = Int.gcd a b := by
  rw [Int.fmod_def, Int.gcd_sub_mul_left_right, Int.gcd_comm]
theorem half {b r : Int} (h1 : 0 < r) (h2 : r < b) : 0 ≤ b.fmod r ∧ b.fmod r < r ∧ 2 * (b.fmod r).natAbs < b.natAbs := by
  rw [Int.fmod_eq_emod_of_nonneg _ (by omega)]
  have e1 := Int.emod_nonneg b (show r ≠ 0 by omega)
  have e2 := Int.emod_lt_of_pos b h1
  have e3 := Int.mul_ediv_add_emod b r
  have e4 : 1 ≤ b / r := (Int.le_ediv_iff_mul_le h1).mpr (by omega)
  have e5 : r * 1 ≤ r * (b / r) := Int.mul_le_mul_of_nonneg_left e4 (by omega)
  refine ⟨e1, e2, by omega⟩
theorem sgn {a b : Int} (h : b ≠ 0) : (a.fmod b).natAbs < b.natAbs ∧ (0 ≤ b ∧ 0 ≤ a.fmod b ∨ b ≤ 0 ∧ a.fmod b ≤ 0) := by
  by_cases hb : 0 < b
  · have e1 := Int.fmod_nonneg_of_pos a hb
    have e2 := Int.fmod_lt_of_pos a hb
    exact ⟨by omega, by omega⟩
  · have hb2 : 0 < -b := by omega
    have e1 := Int.fmod_nonneg_of_pos (-a) hb2
    have e2 := Int.fmod_lt_of_pos (-a) hb2
    have e3 := Int.neg_fmod_neg a b
    rw [e3] at e1 e2
    exact ⟨by omega, by omega⟩
theorem half2 {b r : Int} (hs : 0 ≤ b ∧ 0 ≤ r ∨ b ≤ 0 ∧ r ≤ 0) (hr : r ≠ 0) (hb : r.natAbs < b.natAbs) : 2 * (b.fmod r).natAbs < b.natAbs := by
  rcases hs with ⟨h1, h2⟩ | ⟨h1, h2⟩
  · exact (half (by omega) (by omega)).2.2
  · have h := (half (b := -b) (r := -r) (by omega) (by omega)).2.2
    rw [Int.neg_fmod_neg] at h
    omega
theorem euc : ∀ (k : Nat) (a b : Int), (0 ≤ a ∧ 0 ≤ b ∨ a ≤ 0 ∧ b ≤ 0) → b.natAbs < 2 ^ k → ∃ c, whileN tW fW (2 * k + 1) (st2 a b) = some (.nx, st2 c 0) ∧ c.natAbs = Int.gcd a b := by
  intro k
  induction k with
  | zero =>
    intro a b _ hb
    have h0 : b = 0 := by
      have : b.natAbs < 1 := by simpa using hb
      omega
    subst h0
    exact ⟨a, w_0, by simp⟩
  | succ k ih =>
    intro a b hs hb
    by_cases h0 : b = 0
    · subst h0
      exact ⟨a, w_0, by simp⟩
    · obtain ⟨r1, r2⟩ := sgn (a := a) h0
      have ew : whileN tW fW (2 * (k + 1) + 1) (st2 a b) = whileN tW fW (2 * k + 2) (st2 b (a.fmod b)) := w_s h0
      by_cases hr : a.fmod b = 0
      · refine ⟨b, ?_, ?_⟩
        · rw [ew, hr]
          exact w_0
        · rw [← gcd_st (a := a) (b := b), hr]
          simp
      · obtain ⟨q1, q2⟩ := sgn (a := b) hr
        have hh := half2 r2 hr r1
        have hp : (2 : Nat) ^ (k + 1) = 2 * 2 ^ k := by rw [Nat.pow_succ]; omega
        obtain ⟨c, e, g⟩ := ih (a.fmod b) (b.fmod (a.fmod b)) q2 (by omega)
        refine ⟨c, ?_, ?_⟩
        · rw [ew, w_s hr]
          exact e
        · rw [g, gcd_st, gcd_st]
/-! ### all of a matrix -/
def cdv (b : Int) (M : List (List Int)) : Int := M.foldl (fun c r => r.foldl gI c) b
theorem gI_pos {a b : Int} (h : 1 ≤ a) : 1 ≤ gI a b ∧ gI a b ≤ a := by
  have h1 : 0 < Int.gcd a b := Int.gcd_pos_of_ne_zero_left b (by omega)
  have h2 : Int.gcd a b ≤ a.natAbs := by
    rw [Int.gcd_eq_natAbs_gcd_natAbs]
    exact Nat.gcd_le_left _ (by omega)
  unfold gI
  omega
theorem fold_pos : ∀ (r : List Int) (c : Int), 1 ≤ c → 1 ≤ r.foldl gI c ∧ r.foldl gI c ≤ c
  | [], c, h => ⟨h, Int.le_refl _⟩
  | e :: r, c, h => by
    have h1 := gI_pos (b := e) h
    have h2 := fold_pos r (gI c e) h1.1
    rw [List.foldl_cons]
    omega
theorem cdv_pos : ∀ (M : List (List Int)) (b : Int), 1 ≤ b → 1 ≤ cdv b M ∧ cdv b M ≤ b
  | [], b, h => ⟨h, Int.le_refl _⟩
  | r :: M, b, h => by
    have h1 := fold_pos r b h
    have h2 := cdv_pos M (r.foldl gI b) h1.1
    have e : cdv b (r :: M) = cdv (r.foldl gI b) M := rfl
    rw [e]
    omega
section
variable {g : EF} {A B : Option Vl}
theorem in_loop (hg : ∀ (c e : Int) (C : Option Vl), 1 ≤ c → c.natAbs < 2 ^ 4000 → e.natAbs < 2 ^ 4000 → g ⟨[A, B, some (.fz (.int c)), C, some (.fz (.int e))], []⟩ = some (.fz (.int (gI c e)), ⟨[A, B, some (.fz (.int c)), C, some (.fz (.int e))], []⟩)) : ∀ (r : List Int) (c : Int) (C x : Option Vl), 1 ≤ c → c.natAbs < 2 ^ 4000 → Sm 4000 r →
    ∃ y, forD [] (.nm 4) (sSet 2 g) (r.map D.int) ⟨[A, B, some (.fz (.int c)), C, x], []⟩ = some (.nx, ⟨[A, B, some (.fz (.int (r.foldl gI c))), C, y], []⟩)
  | [], c, C, x, _, _, _ => ⟨x, forD_nil0⟩
  | e :: r, c, C, x, h1, h2, h3 => by
    have p := gI_pos (b := e) h1
    obtain ⟨y, ih⟩ := in_loop hg r (gI c e) C (some (.fz (.int e))) p.1 (by omega) (fun z hz => h3 z (List.mem_cons_of_mem _ hz))
    refine ⟨y, ?_⟩
    rw [List.map_cons, List.foldl_cons]
    refine forD_nm (δ2 := ⟨[A, B, some (.fz (.int (gI c e))), C, some (.fz (.int e))], []⟩) ?_ ih
    show sSet 2 g ⟨[A, B, some (.fz (.int c)), C, some (.fz (.int e))], []⟩ = _
    rw [sSet_ (hg c e C h1 h2 (h3 e List.mem_cons_self))]
    rfl
theorem out_loop (hg : ∀ (c e : Int) (C : Option Vl), 1 ≤ c → c.natAbs < 2 ^ 4000 → e.natAbs < 2 ^ 4000 → g ⟨[A, B, some (.fz (.int c)), C, some (.fz (.int e))], []⟩ = some (.fz (.int (gI c e)), ⟨[A, B, some (.fz (.int c)), C, some (.fz (.int e))], []⟩)) : ∀ (M : List (List Int)) (c : Int) (C x : Option Vl), 1 ≤ c → c.natAbs < 2 ^ 4000 → Sms 4000 M →
    ∃ C' y, forD [] (.nm 3) (sFor (iSq (dVar 3)) (.nm 4) (sSet 2 g)) (M.map rowD) ⟨[A, B, some (.fz (.int c)), C, x], []⟩ = some (.nx, ⟨[A, B, some (.fz (.int (cdv c M))), C', y], []⟩)
  | [], c, C, x, _, _, _ => ⟨C, x, forD_nil0⟩
  | r :: M, c, C, x, h1, h2, h3 => by
    have p := fold_pos r c h1
    obtain ⟨y, e1⟩ := in_loop hg r c (some (.fz (rowD r))) x h1 h2 (h3 r List.mem_cons_self)
    obtain ⟨C', z, ih⟩ := out_loop hg M (r.foldl gI c) (some (.fz (rowD r))) y p.1 (by omega) (fun z hz => h3 z (List.mem_cons_of_mem _ hz))
    refine ⟨C', z, ?_⟩
    rw [List.map_cons]
    refine forD_nm (δ2 := ⟨[A, B, some (.fz (.int (r.foldl gI c))), some (.fz (rowD r)), y], []⟩) ?_ ih
    show sFor (iSq (dVar 3)) (.nm 4) (sSet 2 g) ⟨[A, B, some (.fz (.int c)), some (.fz (rowD r)), x], []⟩ = _
    rw [sFor]
    show (Option.bind (some (r.map D.int, [], _)) _) = _
    exact e1
end
theorem lc_map {α : Type} {m : Bool} {f elt : EF} {j : Nat} {sl : List (Option Vl)} {st : List (Option (List D))} {xs : List α} {en out : α → D} (hf : f ⟨sl, st⟩ = some (.fz (.lst (xs.map en)), ⟨sl, st⟩)) (hl : xs.length ≤ 1000)
    (he : ∀ x ∈ xs, ∃ sl2, elt ⟨(wipeD sl [j]).set j (some (.fz (en x))), st⟩ = some (.fz (out x), ⟨sl2, st⟩)) : dLc m (iSq f) (.nm j) [j] bYes elt ⟨sl, st⟩ = some (PK.mk m (xs.map out) ⟨sl, st⟩) := by
  have e := lcGo_map (own := [j]) (elt := elt) (i := j) (sl := wipeD sl [j]) (st := st) (en := en) (out := out) xs [] (by simp [small]; omega) he
  rw [List.nil_append] at e
  have e1 : iSq f ⟨sl, st⟩ = some (xs.map en, [], ⟨sl, st⟩) := by
    rw [iSq, hf]
    rfl
  rw [dLc, e1, Option.bind_some]
  show (Option.map _ (lcGo [] (.nm j) [j] bYes elt (wipeD sl [j]) (xs.map en) [] ⟨wipeD sl [j], st⟩)) = _
  rw [e]
  rfl
def dvs (g : Int) (M : List (List Int)) : List (List Int) := M.map fun r => r.map fun e => e / g
/-- the least form -/
def lr (M : List (List Int)) (b : Int) : List (List Int) := dvs (cdv b M) M
def lb (M : List (List Int)) (b : Int) : Int := b / cdv b M
theorem okDiv_pos {g : Int} (h : 1 ≤ g) (h2 : g.natAbs < 2 ^ 4000) : okDiv g = true := by
  unfold okDiv
  have h3 : g.natAbs.log2 < 4000 := (Nat.log2_lt (by omega)).mpr h2
  exact decide_eq_true ⟨by omega, by omega⟩
theorem g_common {M : List (List Int)} {b : Int} (h1 : 1 ≤ b) (h2 : b.natAbs < 2 ^ 4000) (h3 : Sms 4000 M) : G_common_divisor [.fz (mD M), .fz (.int b)] [] = some (.val (.int (cdv b M)), []) := by
  obtain ⟨C', y, e⟩ := out_loop (g := dCB gcdD (aCons (dVar 2) (aCons (dVar 4) aNil))) (A := some (.fz (mD M))) (B := some (.fz (.int b))) (fun c e C _ _ _ => by simp [fnD, sSeq, sSet, sDrop, sRet, sRetN, sIf, sAsg, sPar, sFor, forD, dC, dVar, dOp, der, ders, frz, frzs, dTup, dLst, aNil, aCons, aStar, PK.mk, dCB, PK.g1, PK.g2, lenD, absD, maxD, minD, PK.intD, listD, tupD, sumD, allD, intsD, bls, addD, subD, mulD, divD, modD, powD, cmpD, ixD, atI, ixN, dUn, negD, dB, truD, bNot, bAnd, bOr, bYes, dAndV, dOrV, dNotV, dChain, dFld, recvOk, dIsi, tyD, kitB, dCallN, callG, refs, renum, lives, PK.putAll, hNm, hSub, hNil, hCons, hTup, setIx, asgT, setAll, dMt, appD, extD, dLc, lcGo, wipeD, iSq, iRg1, iRg2, iZipD, iEnumD, iRevD, srcOf, rangeD, zipD, small, itemsD, List.range, List.range.loop, eqD_int, dSl, dRev, slD, cutD, okR, sNext, sNever, sBrk, sCnt, dMake, makeG, PK.initD, iSeq, iDrop, iSet, iFld, dMeth, dIfE, isND, PK.isNon, oSome, oNone, HT.sIx, gcdD]; rfl) M b none none h1 h2 h3
  have s1 : sSet 2 (dVar 1) ⟨[some (.fz (mD M)), some (.fz (.int b)), none, none, none], []⟩ = some (.nx, ⟨[some (.fz (mD M)), some (.fz (.int b)), some (.fz (.int b)), none, none], []⟩) := rfl
  have s2 : sFor (iSq (dVar 0)) (.nm 3) (sFor (iSq (dVar 3)) (.nm 4) (sSet 2 (dCB gcdD (aCons (dVar 2) (aCons (dVar 4) aNil))))) ⟨[some (.fz (mD M)), some (.fz (.int b)), some (.fz (.int b)), none, none], []⟩ = some (.nx, ⟨[some (.fz (mD M)), some (.fz (.int b)), some (.fz (.int (cdv b M))), C', y], []⟩) := by
    rw [sFor]
    show (Option.bind (some (M.map rowD, [], _)) _) = _
    exact e
  unfold G_common_divisor fnD f_common_divisor
  show ((sSeq _ (sSeq _ _) ⟨[some (.fz (mD M)), some (.fz (.int b)), none, none, none], []⟩).bind _) = _
  rw [sSeq_nx s1, sSeq_nx s2]
  rfl
end K12.M

set_option maxHeartbeats 0
namespace K12.M
open PySem L2 PK
theorem lcGo_tp {α : Type} {own : List Nat} {elt : EF} {i j : Nat} {sl : List (Option Vl)} {st : List (Option (List D))} {e1 e2 out : α → D} : ∀ (xs : List α) (acc : List D), acc.length + xs.length ≤ small →
    (∀ x ∈ xs, ∃ sl', elt ⟨(sl.set i (some (.fz (e1 x)))).set j (some (.fz (e2 x))), st⟩ = some (.fz (out x), ⟨sl', st⟩)) → lcGo [] (.tp [i, j]) own bYes elt sl (xs.map fun x => .tup [e1 x, e2 x]) acc ⟨sl, st⟩ = some (acc ++ xs.map out, ⟨sl, st⟩)
  | [], acc, _, _ => by simp [lcGo]
  | x :: xs, acc, hl, h => by
    rw [List.length_cons] at hl
    obtain ⟨sl', e⟩ := h x List.mem_cons_self
    have ih := lcGo_tp (own := own) xs (acc ++ [out x]) (by simp; omega) fun y hy => h y (List.mem_cons_of_mem _ hy)
    have h1 : acc.length < small := by omega
    rw [List.append_assoc, List.singleton_append] at ih
    rw [List.map_cons, List.map_cons, ← ih, lcGo]
    simp [h1, asgT, setAll, bYes, e, frz]
def pairs (a b : List Int) : List (Int × Int) := a.zip b
theorem zipD_ints : ∀ (a b : List Int), zipD (a.map D.int) (b.map D.int) = (a.zip b).map fun p => .tup [.int p.1, .int p.2]
  | [], b => by simp [zipD]
  | _ :: _, [] => by simp [zipD]
  | x :: a, y :: b => by simp [zipD, zipD_ints a b]
def dotI (a b : List Int) : Int := ((a.zip b).map fun p => p.1 * p.2).sum
theorem okMul_big {i j : Int} (hi : i.natAbs < 2 ^ 4000) (hj : j.natAbs < 2 ^ 4000) : okMul i j = true := by
  unfold okMul
  have := log_of hi
  have := log_of hj
  exact decide_eq_true (by omega)
theorem intsD_map : ∀ (xs : List Int), intsD (xs.map D.int) = some xs
  | [] => rfl
  | x :: xs => by simp [intsD, intsD_map xs]
theorem g_dot {y : D} {a b : List Int} (hy : y = .lst (b.map D.int) ∨ y = .tup (b.map D.int)) (ha : Sm 4000 a) (hb : Sm 4000 b) (hl : a.length ≤ 100) : G_dot [.fz (rowD a), .fz y] [] = some (.val (.int (dotI a b)), []) := by
  have e1 : iZipXD (dVar 0) (dVar 1) ⟨[some (.fz (rowD a)), some (.fz y), none, none], []⟩ = some ((a.zip b).map fun p => .tup [.int p.1, .int p.2], [], ⟨[some (.fz (rowD a)), some (.fz y), none, none], []⟩) := by
    rw [← zipD_ints]
    rcases hy with rfl | rfl <;> simp [iZipXD, dVar, rowD, srcOf]
  have e2 := lcGo_tp (own := [2, 3]) (elt := dOp (mulD false) (dVar 2) (dVar 3)) (i := 2) (j := 3) (sl := [some (.fz (rowD a)), some (.fz y), none, none]) (st := []) (e1 := fun p : Int × Int => .int p.1) (e2 := fun p => .int p.2) (out := fun p => .int (p.1 * p.2)) (a.zip b) [] (by simp [small]; omega) fun p hp => ⟨_, by
    have ok : okMul p.1 p.2 = true := okMul_big (ha _ (List.of_mem_zip (a := p.1) (b := p.2) hp).1) (hb _ (List.of_mem_zip (a := p.1) (b := p.2) hp).2)
    refine (dOp_ (g := mulD false) (fa := dVar 2) (fb := dVar 3) rfl rfl rfl rfl).trans ?_
    simp [mulD, ok]
    rfl⟩
  have e3 : ((a.zip b).map fun p => D.int (p.1 * p.2)) = ((a.zip b).map fun p => p.1 * p.2).map D.int := by rw [List.map_map]; rfl
  rw [List.nil_append, e3] at e2
  have e4 : dLc false (iZipXD (dVar 0) (dVar 1)) (.tp [2, 3]) [2, 3] bYes (dOp (mulD false) (dVar 2) (dVar 3)) ⟨[some (.fz (rowD a)), some (.fz y), none, none], []⟩ = some (.fz (rowD ((a.zip b).map fun p => p.1 * p.2)), ⟨[some (.fz (rowD a)), some (.fz y), none, none], []⟩) := by
    rw [dLc, e1, Option.bind_some]
    show (Option.map _ (lcGo [] (.tp [2, 3]) [2, 3] bYes _ [some (.fz (rowD a)), some (.fz y), none, none] _ [] ⟨[some (.fz (rowD a)), some (.fz y), none, none], []⟩)) = _
    rw [e2]
    rfl
  have e5 := (cb1_ (g := sumD) e4 rfl).trans (show sumD _ [rowD ((a.zip b).map fun p => p.1 * p.2)] = some (.fz (.int (dotI a b)), _) by
    simp only [sumD, PK.g1, rowD, intsD_map, Option.map_some]
    rfl)
  unfold G_dot fnD f_dot
  show ((sRet _ ⟨[some (.fz (rowD a)), some (.fz y), none, none], []⟩).bind _) = _
  rw [sRet, e5]
  rfl
/-- a fraction in lowest terms -/
def fr (x b : Int) : D := .tup [.int (x / gI x b), .int (b / gI x b)]
theorem gI_pos2 {x b : Int} (h : 1 ≤ b) : 1 ≤ gI x b ∧ gI x b ≤ b := by
  have := gI_pos (a := b) (b := x) h
  have e : gI x b = gI b x := by unfold gI; rw [Int.gcd_comm]
  rw [e]
  exact this
theorem g_frac {x b : Int} (h : 1 ≤ b) (h2 : b.natAbs < 2 ^ 4000) : G_fraction [.fz (.int x), .fz (.int b)] [] = some (.val (fr x b), []) := by
  have p := gI_pos2 (x := x) h
  have od := okDiv_pos p.1 (by omega)
  have e1 : sSet 2 (dCB gcdD (aCons (dVar 0) (aCons (dVar 1) aNil))) ⟨[some (.fz (.int x)), some (.fz (.int b)), none], []⟩ = some (.nx, ⟨[some (.fz (.int x)), some (.fz (.int b)), some (.fz (.int (gI x b)))], []⟩) := rfl
  unfold G_fraction fnD f_fraction
  show ((sSeq _ _ ⟨[some (.fz (.int x)), some (.fz (.int b)), none], []⟩).bind _) = _
  rw [sSeq_nx e1]
  simp [fnD, sSeq, sSet, sDrop, sRet, sRetN, sIf, sAsg, sPar, sFor, forD, dC, dVar, dOp, der, ders, frz, frzs, dTup, dLst, aNil, aCons, aStar, PK.mk, dCB, PK.g1, PK.g2, lenD, absD, maxD, minD, PK.intD, listD, tupD, sumD, allD, intsD, bls, addD, subD, mulD, divD, modD, powD, cmpD, ixD, atI, ixN, dUn, negD, dB, truD, bNot, bAnd, bOr, bYes, dAndV, dOrV, dNotV, dChain, dFld, recvOk, dIsi, tyD, kitB, dCallN, callG, refs, renum, lives, PK.putAll, hNm, hSub, hNil, hCons, hTup, setIx, asgT, setAll, dMt, appD, extD, dLc, lcGo, wipeD, iSq, iRg1, iRg2, iZipD, iEnumD, iRevD, srcOf, rangeD, zipD, small, itemsD, List.range, List.range.loop, eqD_int, dSl, dRev, slD, cutD, okR, sNext, sNever, sBrk, sCnt, dMake, makeG, PK.initD, iSeq, iDrop, iSet, iFld, dMeth, dIfE, isND, PK.isNon, oSome, oNone, HT.sIx, od, fr]
/-! ### the class -/
abbrev fsM : List Str := ["_rows", "_bottom"]
def matD (R : List (List Int)) (b : Int) : D := .ins "Matrix" fsM [mD R, .int b]
theorem knM : (([("_rows" : Str)] : List Str).contains ("_bottom" : Str)) = false := by decide +kernel
theorem fl_r {d e : D} : (fsM.zip [d, e]).lookup ("_rows" : Str) = some d := by
  show List.lookup ("_rows" : Str) [(("_rows" : Str), d), (("_bottom" : Str), e)] = some d
  simp only [List.lookup, beq_self_eq_true]
theorem fl_b {d e : D} : (fsM.zip [d, e]).lookup ("_bottom" : Str) = some e := by
  have h : (("_bottom" : Str) == ("_rows" : Str)) = false := by decide +kernel
  show List.lookup ("_bottom" : Str) [(("_rows" : Str), d), (("_bottom" : Str), e)] = some e
  simp only [List.lookup, h, beq_self_eq_true]
theorem fd_r {R : List (List Int)} {b : Int} {f : EF} {δ δ' : Dl} (h : f δ = some (.fz (matD R b), δ')) : dFld "Matrix" "_rows" f δ = some (.fz (mD R), δ') := by
  simp only [dFld, h, Option.bind_some, matD, if_true, fl_r, Option.map_some]
theorem fd_b {R : List (List Int)} {b : Int} {f : EF} {δ δ' : Dl} (h : f δ = some (.fz (matD R b), δ')) : dFld "Matrix" "_bottom" f δ = some (.fz (.int b), δ') := by
  simp only [dFld, h, Option.bind_some, matD, if_true, fl_b, Option.map_some]
theorem rvM {R : List (List Int)} {b : Int} : recvOk "Matrix" "" (.fz (matD R b)) = true := by
  show (decide (("Matrix" : Str) = ("Matrix" : Str)) && !fsM.contains ("" : Str)) = true
  decide +kernel
theorem rvA {R : List (List Int)} {b : Int} : recvOk "Matrix" "after" (.fz (matD R b)) = true := by
  show (decide (("Matrix" : Str) = ("Matrix" : Str)) && !fsM.contains ("after" : Str)) = true
  decide +kernel
theorem rvI {R : List (List Int)} {b : Int} : recvOk "Matrix" "image" (.fz (matD R b)) = true := by
  show (decide (("Matrix" : Str) = ("Matrix" : Str)) && !fsM.contains ("image" : Str)) = true
  decide +kernel
theorem ln_ {f : EF} {δ δ1 : Dl} {ds : List D} (e : f δ = some (.fz (.lst ds), δ1)) : dCB lenD (aCons f aNil) δ = some (.fz (.int ds.length), δ1) := (cb1_ (g := lenD) e rfl).trans rfl
theorem g_checkM {s : Nat} (hs : 1 ≤ s) {M : List (List Int)} {b : Int} (h : Sq s M) (hb : 1 ≤ b) : G_check_matrix [.fz (mD M), .fz (.int b)] [] = some (.val .non, []) := by
  obtain ⟨hM, hr⟩ := h
  have loop : ∀ (rs : List (List Int)) (i : Nat) (x y : Option Vl), (∀ r ∈ rs, r.length = s) → ∃ x' y', forD [] (.tp [2, 3]) (sIf (dB (dOp (eqD true) (dCB lenD (aCons (dVar 3) aNil)) (dCB lenD (aCons (dVar 0) aNil)))) sNever sNext) (enumD i (rs.map rowD)) ⟨[some (.fz (mD M)), some (.fz (.int b)), x, y], []⟩ = some (.nx, ⟨[some (.fz (mD M)), some (.fz (.int b)), x', y'], []⟩) := by
    intro rs
    induction rs with
    | nil => intro i x y _; exact ⟨x, y, by simp [enumD, forD]⟩
    | cons r rs ih =>
      intro i x y h
      obtain ⟨x', y', e⟩ := ih (i + 1) (some (.fz (.int i))) (some (.fz (rowD r))) fun z hz => h z (List.mem_cons_of_mem _ hz)
      refine ⟨x', y', ?_⟩
      have l1 := ln_ (f := dVar 3) (ds := r.map D.int) (δ := ⟨[some (.fz (mD M)), some (.fz (.int b)), some (.fz (.int i)), some (.fz (rowD r))], []⟩) rfl
      have l2 := ln_ (f := dVar 0) (ds := M.map rowD) (δ := ⟨[some (.fz (mD M)), some (.fz (.int b)), some (.fz (.int i)), some (.fz (rowD r))], []⟩) rfl
      have c := dB_ ((dOp_ (g := eqD true) l1 l2 rfl rfl).trans eqD_int)
      have hrs := h r List.mem_cons_self
      rw [List.length_map, List.length_map, hrs, hM] at c
      rw [List.map_cons, enumD, forD, if_pos (by simp)]
      simp only [asgT, setAll, List.set_cons_succ, List.set_cons_zero, Option.bind_some]
      rw [sIf_ c]
      simp
      exact e
  obtain ⟨x', y', e⟩ := loop M 0 none none hr
  have l2 := ln_ (f := dVar 0) (ds := M.map rowD) (δ := ⟨[some (.fz (mD M)), some (.fz (.int b)), none, none], []⟩) rfl
  have c1 := dB_ ((dOp_ (g := eqD false) (fb := dC (.int 0)) l2 rfl rfl rfl).trans eqD_int)
  have c2 : dB (dOp ltD (dVar 1) (dC (.int 1))) ⟨[some (.fz (mD M)), some (.fz (.int b)), none, none], []⟩ = some (decide (b < 1), ⟨[some (.fz (mD M)), some (.fz (.int b)), none, none], []⟩) := rfl
  rw [decide_eq_false (by omega)] at c2
  rw [List.length_map, hM] at c1
  have hz : (((s : Nat) : Int) == 0) = false := by
    rw [beq_eq_false_iff_ne]
    omega
  rw [hz] at c1
  have s1 : sIf (bOr (dB (dOp (eqD false) (dCB lenD (aCons (dVar 0) aNil)) (dC (.int 0)))) (dB (dOp ltD (dVar 1) (dC (.int 1))))) sNever sNext ⟨[some (.fz (mD M)), some (.fz (.int b)), none, none], []⟩ = some (.nx, ⟨[some (.fz (mD M)), some (.fz (.int b)), none, none], []⟩) := by
    have o : bOr (dB (dOp (eqD false) (dCB lenD (aCons (dVar 0) aNil)) (dC (.int 0)))) (dB (dOp ltD (dVar 1) (dC (.int 1)))) ⟨[some (.fz (mD M)), some (.fz (.int b)), none, none], []⟩ = some (false, ⟨[some (.fz (mD M)), some (.fz (.int b)), none, none], []⟩) := bOr_ff c1 c2
    rw [sIf_ o]
    rfl
  unfold G_check_matrix fnD f_check_matrix
  show ((sSeq _ _ ⟨[some (.fz (mD M)), some (.fz (.int b)), none, none], []⟩).bind _) = _
  rw [sSeq_nx s1, sFor]
  show (Option.bind (Option.bind (some (enumD 0 (M.map rowD), [], _)) _) _) = _
  rw [Option.bind_some, e]
  rfl
theorem g_initM {s : Nat} (hs : 1 ≤ s) (hs3 : s ≤ 100) {M : List (List Int)} {b : Int} (h : Sq s M) (h1 : 1 ≤ b) (h2 : b.natAbs < 2 ^ 4000) (h3 : Sms 4000 M) : G_Matrix_init [.fz (mD M), .fz (.int b)] [] = some (fsM, [mD (lr M b), .int (lb M b)], []) := by
  have cp := cdv_pos M b h1
  have od := okDiv_pos cp.1 (by omega : (cdv b M).natAbs < 2 ^ 4000)
  have e1 := cl0 (G := G_check_matrix) (m := false) (n := 2) (fa := aCons (dVar 1) (aCons (dVar 2) aNil)) (δ := ⟨[none, some (.fz (mD M)), some (.fz (.int b)), none, none, none], []⟩) rfl rfl rfl (g_checkM hs h h1)
  have e2 := cl0 (G := G_common_divisor) (m := false) (n := 2) (fa := aCons (dVar 1) (aCons (dVar 2) aNil)) (δ := ⟨[none, some (.fz (mD M)), some (.fz (.int b)), none, none, none], []⟩) rfl rfl rfl (g_common h1 h2 h3)
  have e3 : dLc false (iSq (dVar 1)) (.nm 4) [4] bYes (dLc false (iSq (dVar 4)) (.nm 5) [5] bYes (dOp divD (dVar 5) (dVar 3))) ⟨[none, some (.fz (mD M)), some (.fz (.int b)), some (.fz (.int (cdv b M))), none, none], []⟩ = some (.fz (mD (lr M b)), ⟨[none, some (.fz (mD M)), some (.fz (.int b)), some (.fz (.int (cdv b M))), none, none], []⟩) := by
    have := lc_map (m := false) (f := dVar 1) (elt := dLc false (iSq (dVar 4)) (.nm 5) [5] bYes (dOp divD (dVar 5) (dVar 3))) (j := 4) (sl := [none, some (.fz (mD M)), some (.fz (.int b)), some (.fz (.int (cdv b M))), none, none]) (st := []) (xs := M) (en := rowD) (out := fun r => rowD (r.map fun e => e / cdv b M)) rfl (by have := h.1; omega) fun r hr => ⟨_, by
      have := lc_map (m := false) (f := dVar 4) (elt := dOp divD (dVar 5) (dVar 3)) (j := 5) (sl := [none, some (.fz (mD M)), some (.fz (.int b)), some (.fz (.int (cdv b M))), some (.fz (rowD r)), none]) (st := []) (xs := r) (en := D.int) (out := fun e => .int (e / cdv b M)) rfl (by have := h.2 r hr; omega) fun e he => ⟨_, by
        refine (dOp_ (g := divD) (fa := dVar 5) (fb := dVar 3) rfl rfl rfl rfl).trans ?_
        simp [divD, od]
        rfl⟩
      have e2 : (r.map fun e => D.int (e / cdv b M)) = (r.map fun e => e / cdv b M).map D.int := by rw [List.map_map]; rfl
      rw [e2] at this
      exact this⟩
    have e3 : (M.map fun r => rowD (r.map fun e => e / cdv b M)) = (lr M b).map rowD := by unfold lr dvs; rw [List.map_map]; rfl
    rw [e3] at this
    exact this
  have e4 : dOp divD (dVar 2) (dVar 3) ⟨[none, some (.fz (mD M)), some (.fz (.int b)), some (.fz (.int (cdv b M))), none, none], []⟩ = some (.fz (.int (lb M b)), ⟨[none, some (.fz (mD M)), some (.fz (.int b)), some (.fz (.int (cdv b M))), none, none], []⟩) := by
    refine (dOp_ (g := divD) (fa := dVar 2) (fb := dVar 3) rfl rfl rfl rfl).trans ?_
    simp [divD, od, lb]
  have i1 : iDrop (dCallN false 2 G_check_matrix (aCons (dVar 1) (aCons (dVar 2) aNil))) ⟨⟨[none, some (.fz (mD M)), some (.fz (.int b)), none, none, none], []⟩, [], []⟩ = some ⟨⟨[none, some (.fz (mD M)), some (.fz (.int b)), none, none, none], []⟩, [], []⟩ := by
    unfold iDrop
    rw [e1]
    rfl
  have i2 : iSet 2 (dCallN false 2 G_common_divisor (aCons (dVar 1) (aCons (dVar 2) aNil))) ⟨⟨[none, some (.fz (mD M)), some (.fz (.int b)), none, none, none], []⟩, [], []⟩ = some ⟨⟨[none, some (.fz (mD M)), some (.fz (.int b)), some (.fz (.int (cdv b M))), none, none], []⟩, [], []⟩ := by
    unfold iSet
    rw [e2]
    rfl
  have i3 : iFld "_rows" (dLc false (iSq (dVar 1)) (.nm 4) [4] bYes (dLc false (iSq (dVar 4)) (.nm 5) [5] bYes (dOp divD (dVar 5) (dVar 3)))) ⟨⟨[none, some (.fz (mD M)), some (.fz (.int b)), some (.fz (.int (cdv b M))), none, none], []⟩, [], []⟩ = some ⟨⟨[none, some (.fz (mD M)), some (.fz (.int b)), some (.fz (.int (cdv b M))), none, none], []⟩, ["_rows"], [mD (lr M b)]⟩ := by
    unfold iFld
    rw [e3]
    rfl
  have i4 : iFld "_bottom" (dOp divD (dVar 2) (dVar 3)) ⟨⟨[none, some (.fz (mD M)), some (.fz (.int b)), some (.fz (.int (cdv b M))), none, none], []⟩, ["_rows"], [mD (lr M b)]⟩ = some ⟨⟨[none, some (.fz (mD M)), some (.fz (.int b)), some (.fz (.int (cdv b M))), none, none], []⟩, fsM, [mD (lr M b), .int (lb M b)]⟩ := by
    unfold iFld
    simp only [knM]
    rw [e4]
    rfl
  unfold G_Matrix_init PK.initD f_Matrix_init
  show ((iSeq _ (iSeq _ (iSeq _ _)) ⟨⟨[none, some (.fz (mD M)), some (.fz (.int b)), none, none, none], []⟩, [], []⟩).bind _) = _
  simp only [iSeq, i1, i2, i3, i4, Option.bind_some]
  rfl
theorem mkM {s : Nat} (hs : 1 ≤ s) (hs3 : s ≤ 100) {M : List (List Int)} {b : Int} (h : Sq s M) (h1 : 1 ≤ b) (h2 : b.natAbs < 2 ^ 4000) (h3 : Sms 4000 M) {fa : AF} {δ δ' : Dl} (e : fa δ = some ([.fz (mD M), .fz (.int b)], δ')) : dMake "Matrix" 3 G_Matrix_init fa δ = some (.fz (matD (lr M b) (lb M b)), δ') := by
  simp [dMake, e, makeG, refs, renum, lives, g_initM hs hs3 h h1 h2 h3, PK.putAll, matD]
end K12.M

set_option maxHeartbeats 0
namespace K12.M
open PySem L2 PK
theorem lc_mapI {α : Type} {m : Bool} {fi : IF} {elt : EF} {j : Nat} {sl : List (Option Vl)} {st : List (Option (List D))} {xs : List α} {en out : α → D} (hf : fi ⟨sl, st⟩ = some (xs.map en, [], ⟨sl, st⟩)) (hl : xs.length ≤ 1000)
    (he : ∀ x ∈ xs, ∃ sl2, elt ⟨(wipeD sl [j]).set j (some (.fz (en x))), st⟩ = some (.fz (out x), ⟨sl2, st⟩)) : dLc m fi (.nm j) [j] bYes elt ⟨sl, st⟩ = some (PK.mk m (xs.map out) ⟨sl, st⟩) := by
  have e := lcGo_map (own := [j]) (elt := elt) (i := j) (sl := wipeD sl [j]) (st := st) (en := en) (out := out) xs [] (by simp [small]; omega) he
  rw [List.nil_append] at e
  rw [dLc, hf, Option.bind_some]
  show (Option.map _ (lcGo [] (.nm j) [j] bYes elt (wipeD sl [j]) (xs.map en) [] ⟨wipeD sl [j], st⟩)) = _
  rw [e]
  rfl
section
variable {R : List (List Int)} {b : Int}
theorem g_rowsM (hl : R.length ≤ 100) : G_Matrix_rows [.fz (matD R b)] [] = some (.fresh (R.map rowD), []) := by
  have e := lc_map (m := true) (f := dFld "Matrix" "_rows" (dVar 0)) (elt := dCB (listD false) (aCons (dVar 1) aNil)) (j := 1) (sl := [some (.fz (matD R b)), none]) (st := []) (xs := R) (en := rowD) (out := rowD) (fd_r rfl) (by omega) fun r hr => ⟨_, (cb1_ (g := listD false) (f := dVar 1) rfl rfl).trans rfl⟩
  unfold G_Matrix_rows fnD f_Matrix_rows
  show ((sRet _ ⟨[some (.fz (matD R b)), none], []⟩).bind _) = _
  rw [sRet, e]
  rfl
theorem g_botM : G_Matrix_bottom [.fz (matD R b)] [] = some (.val (.int b), []) := by
  have e := fd_b (R := R) (b := b) (f := dVar 0) (δ := ⟨[some (.fz (matD R b))], []⟩) rfl
  unfold G_Matrix_bottom fnD f_Matrix_bottom
  show ((sRet _ ⟨[some (.fz (matD R b))], []⟩).bind _) = _
  rw [sRet, e]
  rfl
theorem g_lenM : G_Matrix_len [.fz (matD R b)] [] = some (.val (.int R.length), []) := by
  have e := ln_ (fd_r (R := R) (b := b) (f := dVar 0) (δ := ⟨[some (.fz (matD R b))], []⟩) rfl)
  rw [List.length_map] at e
  unfold G_Matrix_len fnD f_Matrix_len
  show ((sRet _ ⟨[some (.fz (matD R b))], []⟩).bind _) = _
  rw [sRet, e]
  rfl
theorem rw_f (mm : Bool) (hl : R.length ≤ 100) {fo : EF} {δ δ1 : Dl} (e : fo δ = some (.fz (matD R b), δ1)) : dMeth mm "Matrix" "" 1 G_Matrix_rows fo aNil δ = some (PK.mk mm (R.map rowD) δ1) := mt0f e rvM rfl rfl rfl (g_rowsM hl)
theorem bt_f {fo : EF} {δ δ1 : Dl} (e : fo δ = some (.fz (matD R b), δ1)) : dMeth false "Matrix" "" 1 G_Matrix_bottom fo aNil δ = some (.fz (.int b), δ1) := mt0 e rvM rfl rfl rfl g_botM
theorem ln_f (hl : R.length < 1000) {fo : EF} {δ δ1 : Dl} (e : fo δ = some (.fz (matD R b), δ1)) : dLenI "Matrix" G_Matrix_len fo δ = some (.fz (.int R.length), δ1) := lenI_ e (g_lenM (R := R) (b := b)) hl
theorem nice_row {r : List Int} : Nice 1 (rowD r) := nice_lst fun d hd => by
  obtain ⟨i, _, rfl⟩ := List.mem_map.mp hd
  exact nice_int
theorem nice_mD : Nice 2 (mD R) := nice_lst fun d hd => by
  obtain ⟨i, _, rfl⟩ := List.mem_map.mp hd
  exact nice_row
theorem g_eqM : G_Matrix_eq [.fz (matD R b), .fz (matD R b)] [] = some (.val (.bl true), []) := by
  have e1 : dIsiI "Matrix" (dVar 1) ⟨[some (.fz (matD R b)), some (.fz (matD R b))], []⟩ = some (.fz (.bl true), ⟨[some (.fz (matD R b)), some (.fz (matD R b))], []⟩) := by
    simp [dIsiI, dVar, matD]
  have e2 := (dOp_ (g := eqD false) (fd_b (R := R) (b := b) (f := dVar 0) (δ := ⟨[some (.fz (matD R b)), some (.fz (matD R b))], []⟩) rfl) (fd_b (R := R) (b := b) (f := dVar 1) rfl) rfl rfl).trans (eqD_self (k := 0) nice_int (by decide))
  have e3 := (dOp_ (g := eqD false) (fd_r (R := R) (b := b) (f := dVar 0) (δ := ⟨[some (.fz (matD R b)), some (.fz (matD R b))], []⟩) rfl) (fd_r (R := R) (b := b) (f := dVar 1) rfl) rfl rfl).trans (eqD_self (nice_mD (R := R)) (by decide))
  unfold G_Matrix_eq f_Matrix_eq
  show ((sRet _ ⟨[some (.fz (matD R b)), some (.fz (matD R b))], []⟩).bind _) = _
  simp [sRet, dAndV, e1, e2, e3, lives, List.range, List.range.loop]
theorem eqM_ (δ : Dl) : eqI "Matrix" G_Matrix_eq δ (matD R b) (matD R b) = some (.fz (.bl true), δ) := by
  have e := g_eqM (R := R) (b := b)
  unfold matD at e
  simp only [eqI, matD, and_self, if_true, e]
end
end K12.M

set_option maxHeartbeats 0
namespace K12.M
open PySem L2 PK
theorem pw3 : 3 * 2 ^ (2 * 1000) < 2 ^ 2100 := by
  have h : (2 : Nat) ^ 2100 = 2 ^ 100 * 2 ^ (2 * 1000) := by rw [← Nat.pow_add]
  rw [h]
  exact Nat.mul_lt_mul_of_pos_right (by decide) (Nat.two_pow_pos _)
theorem pw2b : (2 : Nat) ^ 1000 * 2 ^ 1000 < 2 ^ 2100 := by
  rw [← Nat.pow_add]
  exact Nat.pow_lt_pow_right (by decide) (by decide)
def col (j : Nat) (M : List (List Int)) : List Int := M.map fun r => r.getD j 0
def mul (s : Nat) (A B : List (List Int)) : List (List Int) := A.map fun r => (List.range s).map fun j => dotI r (col j B)
theorem dot_nil (b : List Int) : dotI [] b = 0 := rfl
theorem dot_nil2 (a : List Int) : dotI a [] = 0 := by simp [dotI]
theorem dot_cons (x y : Int) (a b : List Int) : dotI (x :: a) (y :: b) = x * y + dotI a b := by simp [dotI]
theorem dot_bd {k : Nat} : ∀ (a b : List Int), Sm k a → Sm k b → (dotI a b).natAbs ≤ a.length * 2 ^ (2 * k)
  | [], b, _, _ => by simp [dot_nil]
  | x :: a, [], _, _ => by rw [dot_nil2]; simp
  | x :: a, y :: b, ha, hb => by
    have ih := dot_bd a b (fun z hz => ha z (List.mem_cons_of_mem _ hz)) (fun z hz => hb z (List.mem_cons_of_mem _ hz))
    have hx := ha x List.mem_cons_self
    have hy := hb y List.mem_cons_self
    have hxy : (x * y).natAbs ≤ 2 ^ (2 * k) := by
      rw [Int.natAbs_mul, Nat.two_mul, Nat.pow_add]
      exact Nat.mul_le_mul (Nat.le_of_lt hx) (Nat.le_of_lt hy)
    rw [dot_cons, List.length_cons, Nat.succ_mul]
    omega
theorem mem_getD {k j : Nat} {r : List Int} (h : Sm k r) : (r.getD j 0).natAbs < 2 ^ k := by
  rw [List.getD_eq_getElem?_getD]
  cases e : r[j]? with
  | none => exact Nat.two_pow_pos k
  | some x => exact h x (List.mem_of_getElem? e)
theorem sm_col {k j : Nat} {M : List (List Int)} (h : Sms k M) : Sm k (col j M) := fun x hx => by
  obtain ⟨r, hr, rfl⟩ := List.mem_map.mp hx
  exact mem_getD (h r hr)
theorem sm_up {j k : Nat} {v : List Int} (h : Sm j v) (hk : j ≤ k) : Sm k v := fun x hx => Nat.lt_of_lt_of_le (h x hx) (Nat.pow_le_pow_right (by decide) hk)
theorem sms_up {j k : Nat} {M : List (List Int)} (h : Sms j M) (hk : j ≤ k) : Sms k M := fun r hr => sm_up (h r hr) hk
theorem sq_mul {s : Nat} {A B : List (List Int)} (h : Sq s A) : Sq s (mul s A B) := ⟨by rw [mul, List.length_map, h.1], fun r hr => by
  obtain ⟨x, _, rfl⟩ := List.mem_map.mp hr
  simp⟩
theorem sms_mul {s : Nat} {A B : List (List Int)} (hs : s ≤ 3) (h : Sq s A) (ha : Sms 1000 A) (hb : Sms 1000 B) : Sms 2100 (mul s A B) := fun r hr x hx => by
  obtain ⟨a, haa, rfl⟩ := List.mem_map.mp hr
  obtain ⟨j, _, rfl⟩ := List.mem_map.mp hx
  have := dot_bd (k := 1000) a (col j B) (ha a haa) (sm_col hb)
  have hl := h.2 a haa
  rw [hl] at this
  have h3 : s * 2 ^ (2 * 1000) ≤ 3 * 2 ^ (2 * 1000) := Nat.mul_le_mul_right _ hs
  have h4 := pw3
  omega
theorem ix_row {r : List Int} {j : Nat} (h : j < r.length) (δ : Dl) : ixD δ (rowD r) (.int (0 + (j : Int))) = some (.fz (.int (r.getD j 0)), δ) := by
  have hl : (r.map D.int).length = r.length := List.length_map _
  have : atI (r.map D.int) (0 + (j : Int)) = some (.int (r.getD j 0)) := by
    unfold atI ixN
    have h2 : r[j]? = some r[j] := List.getElem?_eq_getElem h
    simp [h, List.getD_eq_getElem?_getD]
  simp only [ixD, rowD, this, Option.map_some]
end K12.M

set_option maxHeartbeats 0
namespace K12.M
open PySem L2 PK
/-! ### the least form and multiples -/
def sc (k : Int) (M : List (List Int)) : List (List Int) := M.map fun r => r.map fun e => k * e
theorem gI_sc {k a b : Int} (hk : 1 ≤ k) : gI (k * a) (k * b) = k * gI a b := by
  unfold gI
  rw [Int.gcd_mul_left, Int.natCast_mul]
  congr 1
  omega
theorem fold_sc {k : Int} (hk : 1 ≤ k) : ∀ (r : List Int) (c : Int), (r.map fun e => k * e).foldl gI (k * c) = k * r.foldl gI c
  | [], c => rfl
  | e :: r, c => by
    rw [List.map_cons, List.foldl_cons, List.foldl_cons, gI_sc hk]
    exact fold_sc hk r _
theorem cdv_sc {k : Int} (hk : 1 ≤ k) : ∀ (M : List (List Int)) (b : Int), cdv (k * b) (sc k M) = k * cdv b M
  | [], b => rfl
  | r :: M, b => by
    have e1 : cdv b (r :: M) = cdv (r.foldl gI b) M := rfl
    have e2 : cdv (k * b) (sc k (r :: M)) = cdv ((r.map fun e => k * e).foldl gI (k * b)) (sc k M) := rfl
    rw [e1, e2, fold_sc hk]
    exact cdv_sc hk M _
theorem div_sc {k x g : Int} (hk : 1 ≤ k) : k * x / (k * g) = x / g := Int.mul_ediv_mul_of_pos x g (by omega)
theorem lr_sc {k b : Int} {M : List (List Int)} (hk : 1 ≤ k) : lr (sc k M) (k * b) = lr M b ∧ lb (sc k M) (k * b) = lb M b := by
  refine ⟨?_, ?_⟩
  · unfold lr dvs
    rw [cdv_sc hk]
    unfold sc
    rw [List.map_map]
    refine List.map_congr_left fun r hr => ?_
    show (r.map fun e => k * e).map (fun e => e / (k * cdv b M)) = _
    rw [List.map_map]
    exact List.map_congr_left fun e he => div_sc hk
  · unfold lb
    rw [cdv_sc hk]
    exact div_sc hk
theorem fold_dvd : ∀ (r : List Int) (c : Int), r.foldl gI c ∣ c ∧ ∀ e ∈ r, r.foldl gI c ∣ e
  | [], c => ⟨Int.dvd_refl _, fun e he => by cases he⟩
  | x :: r, c => by
    obtain ⟨h1, h2⟩ := fold_dvd r (gI c x)
    rw [List.foldl_cons]
    have a1 : gI c x ∣ c := Int.gcd_dvd_left c x
    have a2 : gI c x ∣ x := Int.gcd_dvd_right c x
    refine ⟨Int.dvd_trans h1 a1, fun e he => ?_⟩
    rcases List.mem_cons.mp he with rfl | he
    · exact Int.dvd_trans h1 a2
    · exact h2 e he
theorem cdv_dvd : ∀ (M : List (List Int)) (b : Int), cdv b M ∣ b ∧ ∀ r ∈ M, ∀ e ∈ r, cdv b M ∣ e
  | [], b => ⟨Int.dvd_refl _, fun r hr => by cases hr⟩
  | x :: M, b => by
    have e1 : cdv b (x :: M) = cdv (x.foldl gI b) M := rfl
    obtain ⟨h1, h2⟩ := cdv_dvd M (x.foldl gI b)
    obtain ⟨g1, g2⟩ := fold_dvd x b
    rw [e1]
    refine ⟨Int.dvd_trans h1 g1, fun r hr e he => ?_⟩
    rcases List.mem_cons.mp hr with rfl | hr
    · exact Int.dvd_trans h1 (g2 e he)
    · exact h2 r hr e he
theorem self_sc (M : List (List Int)) (b : Int) : sc (cdv b M) (lr M b) = M ∧ cdv b M * lb M b = b := by
  obtain ⟨h1, h2⟩ := cdv_dvd M b
  refine ⟨?_, Int.mul_ediv_cancel' h1⟩
  unfold sc lr dvs
  rw [List.map_map]
  refine (List.map_congr_left fun r hr => ?_).trans (List.map_id _)
  show (r.map fun e => e / cdv b M).map (fun e => cdv b M * e) = _
  rw [List.map_map]
  refine (List.map_congr_left fun e he => ?_).trans (List.map_id _)
  exact Int.mul_ediv_cancel' (h2 r hr e he)
theorem lr_lr {M : List (List Int)} {b : Int} (hb : 1 ≤ b) : lr (lr M b) (lb M b) = lr M b ∧ lb (lr M b) (lb M b) = lb M b := by
  obtain ⟨h1, h2⟩ := self_sc M b
  have h3 := lr_sc (k := cdv b M) (b := lb M b) (M := lr M b) (cdv_pos M b hb).1
  rw [h1, h2] at h3
  exact ⟨h3.1.symm, h3.2.symm⟩
theorem lb_pos {M : List (List Int)} {b : Int} (hb : 1 ≤ b) : 1 ≤ lb M b ∧ lb M b ≤ b := by
  have p := cdv_pos M b hb
  unfold lb
  exact ⟨(Int.le_ediv_iff_mul_le (by omega)).mpr (by omega), Int.ediv_le_self _ (by omega)⟩
theorem sms_lr {k : Nat} {M : List (List Int)} {b : Int} (h : Sms k M) : Sms k (lr M b) := fun r hr e he => by
  obtain ⟨r', hr', rfl⟩ := List.mem_map.mp hr
  obtain ⟨x, hx, rfl⟩ := List.mem_map.mp he
  exact Nat.lt_of_le_of_lt (Int.natAbs_ediv_le_natAbs _ _) (h r' hr' x hx)
theorem sq_lr {s : Nat} {M : List (List Int)} {b : Int} (h : Sq s M) : Sq s (lr M b) := ⟨by unfold lr dvs; rw [List.length_map, h.1], fun r hr => by
  obtain ⟨r', hr', rfl⟩ := List.mem_map.mp hr
  rw [List.length_map]
  exact h.2 r' hr'⟩
theorem dot_sc (a b : Int) : ∀ (x y : List Int), dotI (x.map fun e => a * e) (y.map fun e => b * e) = a * b * dotI x y
  | [], y => by simp [dot_nil]
  | p :: x, [] => by
    have h1 : dotI ((p :: x).map fun e => a * e) (([] : List Int).map fun e => b * e) = 0 := dot_nil2 _
    rw [h1, dot_nil2, Int.mul_zero]
  | p :: x, q :: y => by
    rw [List.map_cons, List.map_cons, dot_cons, dot_cons, dot_sc a b x y, Int.mul_add]
    congr 1
    rw [Int.mul_assoc, Int.mul_assoc, ← Int.mul_assoc p, Int.mul_comm p b, Int.mul_assoc]
theorem col_sc {k : Int} {j : Nat} {B : List (List Int)} : col j (sc k B) = (col j B).map fun e => k * e := by
  unfold col sc
  rw [List.map_map, List.map_map]
  refine List.map_congr_left fun r hr => ?_
  show (r.map fun e => k * e).getD j 0 = k * r.getD j 0
  simp only [List.getD_eq_getElem?_getD, List.getElem?_map]
  cases r[j]? with
  | none => simp
  | some x => rfl
theorem mul_sc {s : Nat} {a b : Int} {A B : List (List Int)} : mul s (sc a A) (sc b B) = sc (a * b) (mul s A B) := by
  unfold mul sc
  rw [List.map_map, List.map_map]
  refine List.map_congr_left fun r hr => ?_
  show (List.range s).map (fun j => dotI (r.map fun e => a * e) (col j (sc b B))) = ((List.range s).map fun j => dotI r (col j B)).map fun e => a * b * e
  rw [List.map_map]
  refine List.map_congr_left fun j hj => ?_
  rw [col_sc, dot_sc]
  rfl
/-- the product of least forms is the product, in least form -/
theorem least_mul {s : Nat} {A B : List (List Int)} {a b : Int} (ha : 1 ≤ a) (hb : 1 ≤ b) : lr (mul s (lr A a) (lr B b)) (lb A a * lb B b) = lr (mul s A B) (a * b) ∧ lb (mul s (lr A a) (lr B b)) (lb A a * lb B b) = lb (mul s A B) (a * b) := by
  obtain ⟨h1, h2⟩ := self_sc A a
  obtain ⟨g1, g2⟩ := self_sc B b
  have p := (cdv_pos A a ha).1
  have q := (cdv_pos B b hb).1
  have pq : 1 ≤ cdv a A * cdv b B := by
    have := Int.mul_le_mul p q (by decide) (by omega)
    omega
  have h3 := lr_sc (k := cdv a A * cdv b B) (b := lb A a * lb B b) (M := mul s (lr A a) (lr B b)) pq
  rw [← mul_sc, h1, g1] at h3
  have e : cdv a A * cdv b B * (lb A a * lb B b) = a * b := by
    have : cdv a A * cdv b B * (lb A a * lb B b) = (cdv a A * lb A a) * (cdv b B * lb B b) := by
      rw [Int.mul_assoc, Int.mul_assoc, ← Int.mul_assoc (cdv b B), Int.mul_comm (cdv b B) (lb A a), Int.mul_assoc]
    rw [this, h2, g2]
  rw [e] at h3
  exact ⟨h3.1.symm, h3.2.symm⟩
/-! ### the unit -/
def unit (s : Nat) : List (List Int) := (List.range s).map fun i => (List.range s).map fun j => if j = i then 1 else 0
theorem one_of {M : List (List Int)} : lr M 1 = M ∧ lb M 1 = 1 := by
  have p := cdv_pos M 1 (by decide)
  have e : cdv 1 M = 1 := by omega
  refine ⟨?_, by unfold lb; rw [e]; rfl⟩
  unfold lr dvs
  rw [e]
  refine (List.map_congr_left fun r hr => ?_).trans (List.map_id _)
  exact (List.map_congr_left fun x hx => Int.ediv_one x).trans (List.map_id _)
theorem rows1 {M : List (List Int)} (h : Sq 1 M) : ∃ a, M = [[a]] := by
  obtain ⟨h1, h2⟩ := h
  match M, h1 with
  | [r], _ =>
    have := h2 r (by simp)
    match r, this with
    | [a], _ => exact ⟨a, rfl⟩
theorem row2 {r : List Int} (h : r.length = 2) : ∃ a b, r = [a, b] := by
  match r, h with
  | [a, b], _ => exact ⟨a, b, rfl⟩
theorem row3 {r : List Int} (h : r.length = 3) : ∃ a b c, r = [a, b, c] := by
  match r, h with
  | [a, b, c], _ => exact ⟨a, b, c, rfl⟩
theorem rows2 {M : List (List Int)} (h : Sq 2 M) : ∃ a b c d, M = [[a, b], [c, d]] := by
  obtain ⟨h1, h2⟩ := h
  match M, h1 with
  | [r, t], _ =>
    obtain ⟨a, b, rfl⟩ := row2 (h2 r (by simp))
    obtain ⟨c, d, rfl⟩ := row2 (h2 t (by simp))
    exact ⟨a, b, c, d, rfl⟩
theorem rows3 {M : List (List Int)} (h : Sq 3 M) : ∃ a b c d e f g i j, M = [[a, b, c], [d, e, f], [g, i, j]] := by
  obtain ⟨h1, h2⟩ := h
  match M, h1 with
  | [r, t, u], _ =>
    obtain ⟨a, b, c, rfl⟩ := row3 (h2 r (by simp))
    obtain ⟨d, e, f, rfl⟩ := row3 (h2 t (by simp))
    obtain ⟨g, i, j, rfl⟩ := row3 (h2 u (by simp))
    exact ⟨a, b, c, d, e, f, g, i, j, rfl⟩
theorem mul_unit {s : Nat} (hs : s = 1 ∨ s = 2 ∨ s = 3) {M : List (List Int)} (h : Sq s M) : mul s M (unit s) = M ∧ mul s (unit s) M = M := by
  rcases hs with rfl | rfl | rfl
  · obtain ⟨a, rfl⟩ := rows1 h
    simp [mul, unit, dotI, col, List.range, List.range.loop]
  · obtain ⟨a, b, c, d, rfl⟩ := rows2 h
    simp [mul, unit, dotI, col, List.range, List.range.loop]
  · obtain ⟨a, b, c, d, e, f, g, i, j, rfl⟩ := rows3 h
    simp [mul, unit, dotI, col, List.range, List.range.loop]
/-! ### fractions -/
theorem fr_sc {k x b : Int} (hk : 1 ≤ k) : fr (k * x) (k * b) = fr x b := by
  unfold fr
  rw [gI_sc hk, div_sc hk, div_sc hk]
theorem dot_sc1 (a : Int) (x y : List Int) : dotI (x.map fun e => a * e) y = a * dotI x y := by
  have h := dot_sc a 1 x y
  have e : (y.map fun e => 1 * e) = y := (List.map_congr_left fun x _ => Int.one_mul x).trans (List.map_id _)
  rw [e, Int.mul_one] at h
  exact h
end K12.M

set_option maxHeartbeats 0
namespace K12.M
open PySem L2 PK
/-! ### determinants by entries -/
theorem mul1 {a b : Int} : mul 1 [[a]] [[b]] = [[a * b]] := by
  simp [mul, dotI, col, List.range, List.range.loop]
theorem mul2 {a b c d p q r t : Int} : mul 2 [[a, b], [c, d]] [[p, q], [r, t]] = [[a * p + b * r, a * q + b * t], [c * p + d * r, c * q + d * t]] := by
  simp [mul, dotI, col, List.range, List.range.loop]
theorem mul3 {a b c d e f g h i p q r t u v w x y : Int} : mul 3 [[a, b, c], [d, e, f], [g, h, i]] [[p, q, r], [t, u, v], [w, x, y]] = [[a * p + (b * t + c * w), a * q + (b * u + c * x), a * r + (b * v + c * y)], [d * p + (e * t + f * w), d * q + (e * u + f * x), d * r + (e * v + f * y)], [g * p + (h * t + i * w), g * q + (h * u + i * x), g * r + (h * v + i * y)]] := by
  simp [mul, dotI, col, List.range, List.range.loop]
end K12.M

set_option maxHeartbeats 0
namespace K12.M
open PySem L2 PK
/-! ### products, by entries -/
theorem mul_assoc' {s : Nat} (hs : s = 1 ∨ s = 2 ∨ s = 3) {A B C : List (List Int)} (h : Sq s A) (g : Sq s B) (k : Sq s C) : mul s (mul s A B) C = mul s A (mul s B C) := by
  rcases hs with rfl | rfl | rfl
  · obtain ⟨a, rfl⟩ := rows1 h
    obtain ⟨b, rfl⟩ := rows1 g
    obtain ⟨c, rfl⟩ := rows1 k
    rw [mul1, mul1, mul1, mul1]
    simp only [List.cons.injEq, and_true]
    grind
  · obtain ⟨a, b, c, d, rfl⟩ := rows2 h
    obtain ⟨p, q, r, t, rfl⟩ := rows2 g
    obtain ⟨x, y, z, w, rfl⟩ := rows2 k
    rw [mul2, mul2, mul2, mul2]
    simp only [List.cons.injEq, and_true]
    grind
  · obtain ⟨a, b, c, d, e, f, i, j, l, rfl⟩ := rows3 h
    obtain ⟨p, q, r, t, u, v, w, x, y, rfl⟩ := rows3 g
    obtain ⟨a', b', c', d', e', f', i', j', l', rfl⟩ := rows3 k
    rw [mul3, mul3, mul3, mul3]
    simp only [List.cons.injEq, and_true]
    grind
end K12.M

set_option maxHeartbeats 0
namespace K12.M
open PySem L2 PK
theorem g_image {s : Nat} (hs3 : s ≤ 3) {A : List (List Int)} {a : Int} {v : List Int} (h1 : Sq s A) (ha : Sms 1000 A) (ha1 : 1 ≤ a) (ha2 : a.natAbs < 2 ^ 1000) (hv : Sm 1000 v) : G_Matrix_image [.fz (matD A a), .fz (tupI v)] [] = some (.fresh (A.map fun r => fr (dotI r v) a), []) := by
  have e := lc_map (m := true) (f := dFld "Matrix" "_rows" (dVar 0)) (elt := dCallN false 2 G_fraction (aCons (dCallN false 2 G_dot (aCons (dVar 2) (aCons (dVar 1) aNil))) (aCons (dFld "Matrix" "_bottom" (dVar 0)) aNil))) (j := 2) (sl := [some (.fz (matD A a)), some (.fz (tupI v)), none]) (st := []) (xs := A) (en := rowD) (out := fun r => fr (dotI r v) a) (fd_r rfl) (by have := h1.1; omega) fun r hr => ⟨_, by
    have i1 := cl0 (G := G_dot) (m := false) (n := 2) (fa := aCons (dVar 2) (aCons (dVar 1) aNil)) (δ := ⟨[some (.fz (matD A a)), some (.fz (tupI v)), some (.fz (rowD r))], []⟩) rfl rfl rfl (g_dot (.inr rfl) (sm_up (ha r hr) (by decide)) (sm_up hv (by decide)) (by rw [h1.2 r hr]; omega))
    have i2 := fd_b (R := A) (b := a) (f := dVar 0) (δ := ⟨[some (.fz (matD A a)), some (.fz (tupI v)), some (.fz (rowD r))], []⟩) rfl
    exact cl0 (G := G_fraction) (m := false) (n := 2) (aC i1 (aC (g := aNil) i2 rfl)) rfl rfl (g_frac ha1 (Nat.lt_of_lt_of_le ha2 (Nat.pow_le_pow_right (by decide) (by decide))))⟩
  unfold G_Matrix_image fnD f_Matrix_image
  show ((sRet _ ⟨[some (.fz (matD A a)), some (.fz (tupI v)), none], []⟩).bind _) = _
  rw [sRet, e]
  rfl
theorem img_eq {A : List (List Int)} {a : Int} {v : List Int} (ha : 1 ≤ a) : ((lr A a).map fun r => fr (dotI r v) (lb A a)) = A.map fun r => fr (dotI r v) a := by
  obtain ⟨h1, h2⟩ := self_sc A a
  have p := (cdv_pos A a ha).1
  have e : (A.map fun r => fr (dotI r v) a) = (sc (cdv a A) (lr A a)).map fun r => fr (dotI r v) (cdv a A * lb A a) := by rw [h1, h2]
  rw [e]
  unfold sc
  rw [List.map_map]
  refine List.map_congr_left fun r hr => ?_
  show _ = fr (dotI (r.map fun e => cdv a A * e) v) (cdv a A * lb A a)
  rw [dot_sc1, fr_sc p]
structure Mx (s e : Nat) (A : List (List Int)) (a : Int) : Prop where
  lo : 1 ≤ s
  hi : s ≤ 3
  sq : Sq s A
  sm : Sms e A
  pos : 1 ≤ a
  bd : a.natAbs < 2 ^ e
def lD (A : List (List Int)) (a : Int) : D := matD (lr A a) (lb A a)
theorem pup {x : Int} {e f : Nat} (h : x.natAbs < 2 ^ e) (hf : e ≤ f) : x.natAbs < 2 ^ f := Nat.lt_of_lt_of_le h (Nat.pow_le_pow_right (by decide) hf)
section
variable {s e f : Nat} {A B : List (List Int)} {a b : Int}
theorem Mx.s3 (h : Mx s e A a) : s = 1 ∨ s = 2 ∨ s = 3 := by have := h.lo; have := h.hi; omega
theorem Mx.up (h : Mx s e A a) (hf : e ≤ f) : Mx s f A a := ⟨h.lo, h.hi, h.sq, sms_up h.sm hf, h.pos, pup h.bd hf⟩
theorem Mx.sqr (h : Mx s e A a) : Sq s (lr A a) := sq_lr h.sq
theorem Mx.smr (h : Mx s e A a) : Sms e (lr A a) := sms_lr h.sm
theorem Mx.b1 (h : Mx s e A a) : 1 ≤ lb A a := (lb_pos h.pos).1
theorem Mx.b2 (h : Mx s e A a) : (lb A a).natAbs < 2 ^ e := by
  have p := lb_pos (M := A) h.pos
  have := h.bd
  have h1 := h.pos
  omega
theorem Mx.make (h : Mx s e A a) (he : e ≤ 4000) {fa : AF} {δ δ' : Dl} (e' : fa δ = some ([.fz (mD A), .fz (.int a)], δ')) : dMake "Matrix" 3 G_Matrix_init fa δ = some (.fz (lD A a), δ') := mkM h.lo (by have := h.hi; omega) h.sq h.pos (pup h.bd he) (sms_up h.sm he) e'
theorem Mx.mul (h : Mx s e A a) (g : Mx s e B b) : Mx s (2 * e + 2) (mul s A B) (a * b) := by
  have hi := h.hi
  have p4 : (2 : Nat) ^ (2 * e + 2) = 4 * 2 ^ (2 * e) := by rw [Nat.pow_add]; omega
  have pp : 0 < (2 : Nat) ^ (2 * e) := Nat.two_pow_pos _
  refine ⟨h.lo, h.hi, sq_mul h.sq, fun r hr x hx => ?_, ?_, ?_⟩
  · obtain ⟨r', hr', rfl⟩ := List.mem_map.mp hr
    obtain ⟨j, _, rfl⟩ := List.mem_map.mp hx
    have d := dot_bd r' (col j B) (h.sm r' hr') (sm_col g.sm)
    rw [h.sq.2 r' hr'] at d
    have := Nat.mul_le_mul_right (2 ^ (2 * e)) hi
    omega
  · have := Int.mul_le_mul h.pos g.pos (by decide) (by have := h.pos; omega)
    omega
  · rw [Int.natAbs_mul]
    have m : a.natAbs * b.natAbs ≤ 2 ^ e * 2 ^ e := Nat.mul_le_mul (Nat.le_of_lt h.bd) (Nat.le_of_lt g.bd)
    rw [← Nat.pow_add, ← Nat.two_mul] at m
    omega
def im (A : List (List Int)) (a : Int) (v : List Int) : List D := A.map fun r => fr (dotI r v) a
theorem image_ (h : Mx s e A a) (he : e ≤ 1000) {v : List Int} (hv : Sm 1000 v) (mm : Bool) {fo fv : EF} {δ δ1 δ2 : Dl} (e1 : fo δ = some (.fz (lD A a), δ1)) (e2 : fv δ1 = some (.fz (tupI v), δ2)) : dMeth mm "Matrix" "image" 2 G_Matrix_image fo (aCons fv aNil) δ = some (PK.mk mm (im A a v) δ2) := by
  have r := g_image h.hi h.sqr (sms_up h.smr he) h.b1 (pup h.b2 he) hv
  rw [img_eq h.pos] at r
  exact mt0f (x := lD A a) e1 rvI (aC e2 rfl) rfl rfl r
end
end K12.M

set_option maxHeartbeats 0
namespace K12
open PySem L2 PK
/-! ### the matrix of a step -/
def sm (n : Nat) : S → List (List Int)
  | .lift c ws _ d => (M.sc d (M.unit n)).set c (ws.set c d)
  | .swap i j => ((M.unit n).set i ((M.unit n).getD j [])).set j ((M.unit n).getD i [])
  | .turn i => (M.unit n).set i (((M.unit n).getD i []).map fun x => -x)
def plain : S → S
  | .lift c ws _ d => .lift c ws 0 d
  | .swap i j => .swap i j
  | .turn i => .turn i
def img (A : List (List Int)) (v : List Int) : List Int := A.map fun r => M.dotI r v
def smul (k : Int) (v : List Int) : List Int := v.map fun x => k * x
theorem unit2 : M.unit 2 = [[1, 0], [0, 1]] := by decide
theorem unit3 : M.unit 3 = [[1, 0, 0], [0, 1, 0], [0, 0, 1]] := by decide
theorem dm1 {d w y : Int} (h : 1 ≤ d) : w * (d * y) / d = w * y := by
  rw [show w * (d * y) = w * y * d by grind, Int.mul_ediv_cancel _ (by omega)]
theorem dm2 {d w y u z : Int} (h : 1 ≤ d) : (w * (d * y) + u * (d * z)) / d = w * y + u * z := by
  rw [show w * (d * y) + u * (d * z) = (w * y + u * z) * d by grind, Int.mul_ediv_cancel _ (by omega)]
theorem ok_plain {n : Nat} {s : S} (h : Ok n s) : Ok n (plain s) := by
  cases s with
  | lift c ws m d =>
    obtain ⟨h1, h2, h3, h4, h5, h6, h7, h8⟩ := h
    exact ⟨h1, h2, h3, h4, by omega, by omega, h7, h8⟩
  | swap i j => exact h
  | turn i => exact h
theorem go_img {n : Nat} (hn : n = 2 ∨ n = 3) {v : List Int} (hv : v.length = n) {s : S} (h : Ok n s) : go (plain s) (smul (dv s) v) = img (sm n s) v := by
  refine ok_cases (P := fun n v s => go (plain s) (smul (dv s) v) = img (sm n s) v) hn hv h ?_ ?_ ?_ ?_ ?_ ?_ ?_ ?_ ?_ ?_ ?_ ?_ ?_ ?_
  · intro x y w m d hw h1 h2 h3 h4
    simp [go, plain, dv, smul, img, sm, unit2, M.sc, dotI, M.dotI, dm1 h3]
  · intro x y w m d hw h1 h2 h3 h4
    simp [go, plain, dv, smul, img, sm, unit2, M.sc, dotI, M.dotI, dm1 h3]
    omega
  · intros; simp [go, plain, dv, smul, img, sm, unit2, M.dotI]
  · intros; simp [go, plain, dv, smul, img, sm, unit2, M.dotI]
  · intros; simp [go, plain, dv, smul, img, sm, unit2, M.dotI]
  · intro x y z w u m d hw hu h1 h2 h3 h4
    simp [go, plain, dv, smul, img, sm, unit3, M.sc, dotI, M.dotI, dm2 h3]
  · intro x y z w u m d hw hu h1 h2 h3 h4
    simp [go, plain, dv, smul, img, sm, unit3, M.sc, dotI, M.dotI, dm2 h3]
    omega
  · intro x y z w u m d hw hu h1 h2 h3 h4
    simp [go, plain, dv, smul, img, sm, unit3, M.sc, dotI, M.dotI, dm2 h3]
    omega
  all_goals (intros; simp [go, plain, dv, smul, img, sm, unit3, M.dotI])
theorem sq_unit (n : Nat) : M.Sq n (M.unit n) := ⟨by simp [M.unit], fun r hr => by
  obtain ⟨i, _, rfl⟩ := List.mem_map.mp hr
  simp⟩
/-- by the forms of a step alone -/
theorem st_cases {n : Nat} (hn : n = 2 ∨ n = 3) {s : S} (h : Ok n s) {P : Nat → S → Prop}
    (a1 : ∀ w m d, (-6 ≤ w ∧ w ≤ 6) → 1 ≤ d → d ≤ 12 → P 2 (.lift 0 [0, w] m d))
    (a2 : ∀ w m d, (-6 ≤ w ∧ w ≤ 6) → 1 ≤ d → d ≤ 12 → P 2 (.lift 1 [w, 0] m d))
    (a3 : P 2 (.swap 0 1)) (a4 : P 2 (.turn 0)) (a5 : P 2 (.turn 1))
    (b1 : ∀ w u m d, (-6 ≤ w ∧ w ≤ 6) → (-6 ≤ u ∧ u ≤ 6) → 1 ≤ d → d ≤ 12 → P 3 (.lift 0 [0, w, u] m d))
    (b2 : ∀ w u m d, (-6 ≤ w ∧ w ≤ 6) → (-6 ≤ u ∧ u ≤ 6) → 1 ≤ d → d ≤ 12 → P 3 (.lift 1 [w, 0, u] m d))
    (b3 : ∀ w u m d, (-6 ≤ w ∧ w ≤ 6) → (-6 ≤ u ∧ u ≤ 6) → 1 ≤ d → d ≤ 12 → P 3 (.lift 2 [w, u, 0] m d))
    (b4 : P 3 (.swap 0 1)) (b5 : P 3 (.swap 0 2)) (b6 : P 3 (.swap 1 2))
    (b7 : P 3 (.turn 0)) (b8 : P 3 (.turn 1)) (b9 : P 3 (.turn 2)) : P n s := by
  have hv : (List.replicate n (0 : Int)).length = n := by simp
  refine ok_cases (P := fun n _ s => P n s) hn hv h ?_ ?_ ?_ ?_ ?_ ?_ ?_ ?_ ?_ ?_ ?_ ?_ ?_ ?_
  · intro _ _ w m d a _ _ b c; exact a1 w m d a b c
  · intro _ _ w m d a _ _ b c; exact a2 w m d a b c
  · intros; exact a3
  · intros; exact a4
  · intros; exact a5
  · intro _ _ _ w u m d a a' _ _ b c; exact b1 w u m d a a' b c
  · intro _ _ _ w u m d a a' _ _ b c; exact b2 w u m d a a' b c
  · intro _ _ _ w u m d a a' _ _ b c; exact b3 w u m d a a' b c
  · intros; exact b4
  · intros; exact b5
  · intros; exact b6
  · intros; exact b7
  · intros; exact b8
  · intros; exact b9
theorem sq_sm {n : Nat} (hn : n = 2 ∨ n = 3) {s : S} (h : Ok n s) : M.Sq n (sm n s) := by
  refine st_cases (P := fun n s => M.Sq n (sm n s)) hn h ?_ ?_ ?_ ?_ ?_ ?_ ?_ ?_ ?_ ?_ ?_ ?_ ?_ ?_ <;> intros <;> simp [M.Sq, sm, unit2, unit3, M.sc]
theorem sm_le {n : Nat} (hn : n = 2 ∨ n = 3) {s : S} (h : Ok n s) : M.Sms 4 (sm n s) := by
  refine st_cases (P := fun n s => M.Sms 4 (sm n s)) hn h ?_ ?_ ?_ ?_ ?_ ?_ ?_ ?_ ?_ ?_ ?_ ?_ ?_ ?_ <;> intros <;> simp [M.Sms, M.Sm, sm, unit2, unit3, M.sc] <;> omega
theorem dv_back (s : S) : dv (back s) = dv s := by cases s <;> rfl
end K12

set_option maxHeartbeats 0
namespace K12
open PySem L2 PK
/-! ### the matrix of a chain -/
def gd : List S → Int
  | [] => 1
  | s :: r => dv s * gd r
def Pm (n : Nat) : List S → List (List Int)
  | [] => M.unit n
  | s :: r => M.mul n (Pm n r) (sm n s)
theorem Oks.hd {n : Nat} {s : S} {r : List S} (h : Oks n (s :: r)) : Ok n s := h s List.mem_cons_self
theorem Oks.tl {n : Nat} {s : S} {r : List S} (h : Oks n (s :: r)) : Oks n r := fun x hx => h x (List.mem_cons_of_mem _ hx)
theorem whole_gd : ∀ (ss : List S) (t : Int), whole ss t = t * gd ss
  | [], t => by simp [whole, gd]
  | s :: r, t => by rw [whole, whole_gd r, gd, Int.mul_assoc]
theorem gd_app : ∀ (ss ts : List S), gd (ss ++ ts) = gd ss * gd ts
  | [], ts => by simp [gd]
  | s :: r, ts => by rw [List.cons_append, gd, gd_app r, gd, Int.mul_assoc]
theorem backs_cons (s : S) (r : List S) : backs (s :: r) = backs r ++ [back s] := by simp [backs]
theorem gd_backs : ∀ (ss : List S), gd (backs ss) = gd ss
  | [] => rfl
  | s :: r => by rw [backs_cons, gd_app, gd_backs r, gd, gd, gd, dv_back]; grind
theorem gd_pos {n : Nat} : ∀ {ss : List S}, Oks n ss → 1 ≤ gd ss ∧ (gd ss).natAbs < 2 ^ (4 * ss.length + 1)
  | [], _ => by simp [gd]
  | s :: r, h => by
    obtain ⟨p1, p2⟩ := gd_pos h.tl
    obtain ⟨q1, q2⟩ := dv_ok h.hd
    have e := Int.mul_le_mul q1 p1 (by decide) (by omega)
    refine ⟨by rw [gd]; omega, ?_⟩
    rw [gd, Int.natAbs_mul, List.length_cons, show 4 * (r.length + 1) + 1 = 4 * r.length + 1 + 4 by omega, Nat.pow_add]
    have : (dv s).natAbs * (gd r).natAbs ≤ 12 * (gd r).natAbs := Nat.mul_le_mul_right _ (by omega)
    omega
theorem sq_Pm {n : Nat} (hn : n = 2 ∨ n = 3) : ∀ {ss : List S}, Oks n ss → M.Sq n (Pm n ss)
  | [], _ => sq_unit n
  | s :: r, h => M.sq_mul (sq_Pm hn h.tl)
theorem s123 {n : Nat} (hn : n = 2 ∨ n = 3) : n = 1 ∨ n = 2 ∨ n = 3 := .inr hn
theorem Pm_one {n : Nat} (hn : n = 2 ∨ n = 3) {s : S} (h : Ok n s) : Pm n [s] = sm n s := (M.mul_unit (s123 hn) (sq_sm hn h)).2
theorem Pm_app {n : Nat} (hn : n = 2 ∨ n = 3) : ∀ {ss ts : List S}, Oks n ss → Oks n ts → Pm n (ss ++ ts) = M.mul n (Pm n ts) (Pm n ss)
  | [], ts, _, h => (M.mul_unit (s123 hn) (sq_Pm hn h)).1.symm
  | s :: r, ts, h, g => by
    rw [List.cons_append, Pm, Pm_app hn h.tl g, Pm, M.mul_assoc' (s123 hn) (sq_Pm hn g) (sq_Pm hn h.tl) (sq_sm hn h.hd)]
theorem dot_bd2 {k j : Nat} : ∀ (a b : List Int), M.Sm k a → M.Sm j b → (M.dotI a b).natAbs ≤ a.length * 2 ^ (k + j)
  | [], b, _, _ => by simp [M.dot_nil]
  | x :: a, [], _, _ => by simp [M.dot_nil2]
  | x :: a, y :: b, ha, hb => by
    have ih := dot_bd2 a b (fun z hz => ha z (List.mem_cons_of_mem _ hz)) (fun z hz => hb z (List.mem_cons_of_mem _ hz))
    have h1 := ha x List.mem_cons_self
    have h2 := hb y List.mem_cons_self
    have h3 : (x * y).natAbs ≤ 2 ^ (k + j) := by
      rw [Int.natAbs_mul, Nat.pow_add]
      exact Nat.mul_le_mul (Nat.le_of_lt h1) (Nat.le_of_lt h2)
    rw [M.dot_cons, List.length_cons, Nat.add_mul]
    omega
theorem sms_mul2 {n k j : Nat} {A B : List (List Int)} (hn : n = 2 ∨ n = 3) (h : M.Sq n A) (ha : M.Sms k A) (hb : M.Sms j B) : M.Sms (k + j + 2) (M.mul n A B) := fun r hr x hx => by
  obtain ⟨r', hr', rfl⟩ := List.mem_map.mp hr
  obtain ⟨i, _, rfl⟩ := List.mem_map.mp hx
  have d := dot_bd2 r' (M.col i B) (ha r' hr') (M.sm_col hb)
  rw [h.2 r' hr'] at d
  have := Nat.mul_le_mul_right (2 ^ (k + j)) (show n ≤ 3 by omega)
  have p : (2 : Nat) ^ (k + j + 2) = 4 * 2 ^ (k + j) := by rw [Nat.pow_add]; omega
  have pp : 0 < (2 : Nat) ^ (k + j) := Nat.two_pow_pos _
  omega
theorem sms_unit {n : Nat} (hn : n = 2 ∨ n = 3) : M.Sms 1 (M.unit n) := by
  rcases hn with rfl | rfl
  · rw [unit2]; intro r hr x hx; revert x; revert r; decide
  · rw [unit3]; intro r hr x hx; revert x; revert r; decide
theorem sms_Pm {n : Nat} (hn : n = 2 ∨ n = 3) : ∀ {ss : List S}, Oks n ss → M.Sms (1 + 6 * ss.length) (Pm n ss)
  | [], _ => sms_unit hn
  | s :: r, h => by
    have e := sms_mul2 hn (sq_Pm hn h.tl) (sms_Pm hn h.tl) (sm_le hn h.hd)
    rw [List.length_cons, show 1 + 6 * (r.length + 1) = 1 + 6 * r.length + 4 + 2 by omega]
    exact e
theorem mx_Pm {n : Nat} (hn : n = 2 ∨ n = 3) {ss : List S} (h : Oks n ss) : M.Mx n (1 + 6 * ss.length) (Pm n ss) (gd ss) :=
  ⟨by omega, by omega, sq_Pm hn h, sms_Pm hn h, (gd_pos h).1, M.pup (gd_pos h).2 (by omega)⟩
theorem img_mul {n : Nat} (hn : n = 2 ∨ n = 3) {A B : List (List Int)} (h : M.Sq n A) (g : M.Sq n B) {v : List Int} (hv : v.length = n) : img (M.mul n A B) v = img A (img B v) := by
  rcases hn with rfl | rfl
  · obtain ⟨a, b, c, d, rfl⟩ := M.rows2 h
    obtain ⟨p, q, r, t, rfl⟩ := M.rows2 g
    obtain ⟨x, y, rfl⟩ := len2 hv
    simp [M.mul2, img, M.dotI]
    grind
  · obtain ⟨a, b, c, d, e, f, g', i, j, rfl⟩ := M.rows3 h
    obtain ⟨p, q, r, t, u, w, k, l, m, rfl⟩ := M.rows3 g
    obtain ⟨x, y, z, rfl⟩ := len3 hv
    simp [M.mul3, img, M.dotI]
    grind
theorem img_unit {n : Nat} (hn : n = 2 ∨ n = 3) {v : List Int} (hv : v.length = n) : img (M.unit n) v = v := by
  rcases hn with rfl | rfl
  · obtain ⟨x, y, rfl⟩ := len2 hv
    simp [unit2, img, M.dotI]
  · obtain ⟨x, y, z, rfl⟩ := len3 hv
    simp [unit3, img, M.dotI]
theorem img_len {A : List (List Int)} {v : List Int} : (img A v).length = A.length := by simp [img]
theorem smul_smul (a b : Int) (v : List Int) : smul (a * b) v = smul a (smul b v) := by
  simp [smul, Function.comp_def, Int.mul_assoc]
theorem smul_len {k : Int} {v : List Int} : (smul k v).length = v.length := by simp [smul]
theorem img_smul {A : List (List Int)} {k : Int} {v : List Int} : img A (smul k v) = smul k (img A v) := by
  unfold img smul
  rw [List.map_map]
  refine List.map_congr_left fun r _ => ?_
  have := M.dot_sc 1 k r v
  simp at this
  exact this
/-- the steps without their numbers more, from a vector of multiples -/
theorem runs_img {n : Nat} (hn : n = 2 ∨ n = 3) : ∀ {ss : List S} {v : List Int}, Oks n ss → v.length = n → runs (ss.map plain) (smul (gd ss) v) = img (Pm n ss) v
  | [], v, _, hv => by
    rw [Pm, img_unit hn hv]
    simp [runs, gd, smul]
  | s :: r, v, h, hv => by
    rw [List.map_cons, runs, gd, smul_smul, go_img hn (by rw [smul_len, hv]) h.hd, img_smul, runs_img hn h.tl (by rw [img_len, (sq_sm hn h.hd).1]), Pm, img_mul hn (sq_Pm hn h.tl) (sq_sm hn h.hd) hv]
theorem Oks.app {n : Nat} {ss ts : List S} (h : Oks n ss) (g : Oks n ts) : Oks n (ss ++ ts) := fun s hs => (List.mem_append.mp hs).elim (h s) (g s)
theorem Oks.back1 {n : Nat} {s : S} {r : List S} (h : Oks n (backs (s :: r))) : Ok n (back s) ∧ Oks n (backs r) := by
  rw [backs_cons] at h
  exact ⟨h _ (by simp), fun x hx => h x (List.mem_append.mpr (.inl hx))⟩
end K12

set_option maxHeartbeats 0
namespace K12
open PySem L2 PK
/-! ### the def of the linear part -/
theorem g_basis {n : Nat} (hn : n = 2 ∨ n = 3) : G_unit_basis [.fz (.int n)] [] = some (.fresh ((M.unit n).map tupI), []) := by
  rcases hn with rfl | rfl
  · unfold G_unit_basis f_unit_basis
    rw [unit2]
    simp [fnD, sSeq, sSet, sDrop, sRet, sRetN, sIf, sAsg, sPar, sFor, forD, dC, dVar, dOp, der, ders, frz, frzs, dTup, dLst, aNil, aCons, aStar, PK.mk, dCB, PK.g1, PK.g2, lenD, absD, maxD, minD, PK.intD, listD, tupD, sumD, allD, intsD, bls, addD, subD, mulD, divD, modD, powD, cmpD, ixD, atI, ixN, dUn, negD, dB, truD, bNot, bAnd, bOr, bYes, dAndV, dOrV, dNotV, dChain, dFld, recvOk, dIsi, tyD, kitB, dCallN, callG, refs, renum, lives, PK.putAll, hNm, hSub, hNil, hCons, hTup, setIx, asgT, setAll, dMt, appD, extD, dLc, lcGo, wipeD, iSq, iRg1, iRg2, iZipD, iEnumD, iRevD, srcOf, rangeD, zipD, small, itemsD, List.range, List.range.loop, eqD_int, dSl, dRev, slD, cutD, okR, sNext, sNever, sBrk, sCnt, dMake, makeG, PK.initD, iSeq, iDrop, iSet, iFld, dMeth, dIfE, isND, PK.isNon, oSome, oNone, HT.sIx, tupI]
  · unfold G_unit_basis f_unit_basis
    rw [unit3]
    simp [fnD, sSeq, sSet, sDrop, sRet, sRetN, sIf, sAsg, sPar, sFor, forD, dC, dVar, dOp, der, ders, frz, frzs, dTup, dLst, aNil, aCons, aStar, PK.mk, dCB, PK.g1, PK.g2, lenD, absD, maxD, minD, PK.intD, listD, tupD, sumD, allD, intsD, bls, addD, subD, mulD, divD, modD, powD, cmpD, ixD, atI, ixN, dUn, negD, dB, truD, bNot, bAnd, bOr, bYes, dAndV, dOrV, dNotV, dChain, dFld, recvOk, dIsi, tyD, kitB, dCallN, callG, refs, renum, lives, PK.putAll, hNm, hSub, hNil, hCons, hTup, setIx, asgT, setAll, dMt, appD, extD, dLc, lcGo, wipeD, iSq, iRg1, iRg2, iZipD, iEnumD, iRevD, srcOf, rangeD, zipD, small, itemsD, List.range, List.range.loop, eqD_int, dSl, dRev, slD, cutD, okR, sNext, sNever, sBrk, sCnt, dMake, makeG, PK.initD, iSeq, iDrop, iSet, iFld, dMeth, dIfE, isND, PK.isNon, oSome, oNone, HT.sIx, tupI]
theorem g_multiple {n : Nat} (hn : n = 2 ∨ n = 3) {k : Int} {v : List Int} (hv : v.length = n) (h : ∀ x ∈ v, okMul k x = true) : G_multiple [.fz (.int k), .fz (tupI v)] [] = some (.val (tupI (smul k v)), []) := by
  rcases hn with rfl | rfl
  · obtain ⟨x, y, rfl⟩ := len2 hv
    have h1 := h x (by simp)
    have h2 := h y (by simp)
    unfold G_multiple f_multiple
    simp [fnD, sSeq, sSet, sDrop, sRet, sRetN, sIf, sAsg, sPar, sFor, forD, dC, dVar, dOp, der, ders, frz, frzs, dTup, dLst, aNil, aCons, aStar, PK.mk, dCB, PK.g1, PK.g2, lenD, absD, maxD, minD, PK.intD, listD, tupD, sumD, allD, intsD, bls, addD, subD, mulD, divD, modD, powD, cmpD, ixD, atI, ixN, dUn, negD, dB, truD, bNot, bAnd, bOr, bYes, dAndV, dOrV, dNotV, dChain, dFld, recvOk, dIsi, tyD, kitB, dCallN, callG, refs, renum, lives, PK.putAll, hNm, hSub, hNil, hCons, hTup, setIx, asgT, setAll, dMt, appD, extD, dLc, lcGo, wipeD, iSq, iRg1, iRg2, iZipD, iEnumD, iRevD, srcOf, rangeD, zipD, small, itemsD, List.range, List.range.loop, eqD_int, dSl, dRev, slD, cutD, okR, sNext, sNever, sBrk, sCnt, dMake, makeG, PK.initD, iSeq, iDrop, iSet, iFld, dMeth, dIfE, isND, PK.isNon, oSome, oNone, HT.sIx, tupI, smul, h1, h2]
  · obtain ⟨x, y, z, rfl⟩ := len3 hv
    have h1 := h x (by simp)
    have h2 := h y (by simp)
    have h3 := h z (by simp)
    unfold G_multiple f_multiple
    simp [fnD, sSeq, sSet, sDrop, sRet, sRetN, sIf, sAsg, sPar, sFor, forD, dC, dVar, dOp, der, ders, frz, frzs, dTup, dLst, aNil, aCons, aStar, PK.mk, dCB, PK.g1, PK.g2, lenD, absD, maxD, minD, PK.intD, listD, tupD, sumD, allD, intsD, bls, addD, subD, mulD, divD, modD, powD, cmpD, ixD, atI, ixN, dUn, negD, dB, truD, bNot, bAnd, bOr, bYes, dAndV, dOrV, dNotV, dChain, dFld, recvOk, dIsi, tyD, kitB, dCallN, callG, refs, renum, lives, PK.putAll, hNm, hSub, hNil, hCons, hTup, setIx, asgT, setAll, dMt, appD, extD, dLc, lcGo, wipeD, iSq, iRg1, iRg2, iZipD, iEnumD, iRevD, srcOf, rangeD, zipD, small, itemsD, List.range, List.range.loop, eqD_int, dSl, dRev, slD, cutD, okR, sNext, sNever, sBrk, sCnt, dMake, makeG, PK.initD, iSeq, iDrop, iSet, iFld, dMeth, dIfE, isND, PK.isNon, oSome, oNone, HT.sIx, tupI, smul, h1, h2, h3]
theorem g_plain_step (s : S) : G_plain_step [.fz (enc s)] [] = some (.val (enc (plain s)), []) := by
  cases s with
  | lift c ws m d => unfold G_plain_step f_plain_step; simp [fnD, sSeq, sSet, sDrop, sRet, sRetN, sIf, sAsg, sPar, sFor, forD, dC, dVar, dOp, der, ders, frz, frzs, dTup, dLst, aNil, aCons, aStar, PK.mk, dCB, PK.g1, PK.g2, lenD, absD, maxD, minD, PK.intD, listD, tupD, sumD, allD, intsD, bls, addD, subD, mulD, divD, modD, powD, cmpD, ixD, atI, ixN, dUn, negD, dB, truD, bNot, bAnd, bOr, bYes, dAndV, dOrV, dNotV, dChain, dFld, recvOk, dIsi, tyD, kitB, dCallN, callG, refs, renum, lives, PK.putAll, hNm, hSub, hNil, hCons, hTup, setIx, asgT, setAll, dMt, appD, extD, dLc, lcGo, wipeD, iSq, iRg1, iRg2, iZipD, iEnumD, iRevD, srcOf, rangeD, zipD, small, itemsD, List.range, List.range.loop, eqD_int, dSl, dRev, slD, cutD, okR, sNext, sNever, sBrk, sCnt, dMake, makeG, PK.initD, iSeq, iDrop, iSet, iFld, dMeth, dIfE, isND, PK.isNon, oSome, oNone, HT.sIx, enc, plain, tupI, q1]
  | swap i j => unfold G_plain_step f_plain_step; simp [fnD, sSeq, sSet, sDrop, sRet, sRetN, sIf, sAsg, sPar, sFor, forD, dC, dVar, dOp, der, ders, frz, frzs, dTup, dLst, aNil, aCons, aStar, PK.mk, dCB, PK.g1, PK.g2, lenD, absD, maxD, minD, PK.intD, listD, tupD, sumD, allD, intsD, bls, addD, subD, mulD, divD, modD, powD, cmpD, ixD, atI, ixN, dUn, negD, dB, truD, bNot, bAnd, bOr, bYes, dAndV, dOrV, dNotV, dChain, dFld, recvOk, dIsi, tyD, kitB, dCallN, callG, refs, renum, lives, PK.putAll, hNm, hSub, hNil, hCons, hTup, setIx, asgT, setAll, dMt, appD, extD, dLc, lcGo, wipeD, iSq, iRg1, iRg2, iZipD, iEnumD, iRevD, srcOf, rangeD, zipD, small, itemsD, List.range, List.range.loop, eqD_int, dSl, dRev, slD, cutD, okR, sNext, sNever, sBrk, sCnt, dMake, makeG, PK.initD, iSeq, iDrop, iSet, iFld, dMeth, dIfE, isND, PK.isNon, oSome, oNone, HT.sIx, enc, plain, q2]
  | turn i => unfold G_plain_step f_plain_step; simp [fnD, sSeq, sSet, sDrop, sRet, sRetN, sIf, sAsg, sPar, sFor, forD, dC, dVar, dOp, der, ders, frz, frzs, dTup, dLst, aNil, aCons, aStar, PK.mk, dCB, PK.g1, PK.g2, lenD, absD, maxD, minD, PK.intD, listD, tupD, sumD, allD, intsD, bls, addD, subD, mulD, divD, modD, powD, cmpD, ixD, atI, ixN, dUn, negD, dB, truD, bNot, bAnd, bOr, bYes, dAndV, dOrV, dNotV, dChain, dFld, recvOk, dIsi, tyD, kitB, dCallN, callG, refs, renum, lives, PK.putAll, hNm, hSub, hNil, hCons, hTup, setIx, asgT, setAll, dMt, appD, extD, dLc, lcGo, wipeD, iSq, iRg1, iRg2, iZipD, iEnumD, iRevD, srcOf, rangeD, zipD, small, itemsD, List.range, List.range.loop, eqD_int, dSl, dRev, slD, cutD, okR, sNext, sNever, sBrk, sCnt, dMake, makeG, PK.initD, iSeq, iDrop, iSet, iFld, dMeth, dIfE, isND, PK.isNon, oSome, oNone, HT.sIx, enc, plain, q3]
def lst7 (A : D) (g : Int) (vs : List (List Int)) (x3 x4 x5 x6 : Option Vl) : Dl := ⟨[some (.fz A), some (.fz (.int g)), some (.fz (.lst (vs.map tupI))), x3, x4, x5, x6], []⟩
noncomputable def lpB : SF := (sSet 2 (dLc false (iSq (dVar 2)) (.nm 5) [5] bYes (dCallN false 2 G_apply_step (aCons (dCallN false 1 G_plain_step (aCons (dVar 3) aNil)) (aCons (dVar 5) aNil)))))
theorem d_lpB {n k : Nat} (hn : n = 2 ∨ n = 3) {A : D} {g : Int} {vs : List (List Int)} {s : S} {x4 x5 x6 : Option Vl} (h : Ok n s) (hl : vs.length ≤ 3) (hv : ∀ v ∈ vs, v.length = n ∧ Bd k v) (hk : k ≤ 1000) :
    lpB (lst7 A g vs (some (.fz (enc s))) x4 x5 x6) = some (.nx, lst7 A g (vs.map (go (plain s))) (some (.fz (enc s))) x4 x5 x6) := by
  have e := M.lc_map (m := false) (f := dVar 2) (elt := dCallN false 2 G_apply_step (aCons (dCallN false 1 G_plain_step (aCons (dVar 3) aNil)) (aCons (dVar 5) aNil))) (j := 5) (sl := (lst7 A g vs (some (.fz (enc s))) x4 x5 x6).sl) (st := []) (xs := vs) (en := tupI) (out := fun v => tupI (go (plain s) v)) rfl (by omega) fun v hvm => by
    obtain ⟨h1, h2⟩ := hv v hvm
    have f1 := cl0 (G := G_plain_step) (m := false) (n := 1) (fa := aCons (dVar 3) aNil) (δ := ⟨(wipeD (lst7 A g vs (some (.fz (enc s))) x4 x5 x6).sl [5]).set 5 (some (.fz (tupI v))), []⟩) rfl rfl rfl (g_plain_step s)
    exact ⟨_, cl0 (G := G_apply_step) (m := false) (n := 2) (aC f1 (aC (g := aNil) (f := dVar 5) rfl rfl)) rfl rfl (g_apply hn h1 (ok_plain h) h2 hk)⟩
  unfold lpB
  rw [show lst7 A g vs (some (.fz (enc s))) x4 x5 x6 = ⟨(lst7 A g vs (some (.fz (enc s))) x4 x5 x6).sl, []⟩ from rfl, sSet_ (e.trans rfl)]
  simp [lst7, Function.comp_def]
theorem d_loopP {n : Nat} (hn : n = 2 ∨ n = 3) {A : D} {g : Int} : ∀ (ss : List S) (vs : List (List Int)) (k : Nat) (x3 x4 x5 x6 : Option Vl), Oks n ss → vs.length ≤ 3 → (∀ v ∈ vs, v.length = n ∧ Bd k v) → k + 8 * ss.length ≤ 1000 →
    ∃ y3, forD [] (.nm 3) lpB (encs ss) (lst7 A g vs x3 x4 x5 x6) = some (.nx, lst7 A g (vs.map (runs (ss.map plain))) y3 x4 x5 x6)
  | [], vs, k, x3, x4, x5, x6, _, _, _, _ => ⟨x3, by
    have : vs.map (runs (([] : List S).map plain)) = vs := by
      refine (List.map_congr_left (g := id) fun v _ => rfl).trans (List.map_id _)
    rw [this]
    exact forD_nil0⟩
  | s :: ss, vs, k, x3, x4, x5, x6, h, hl, hv, hk => by
    rw [List.length_cons] at hk
    obtain ⟨y3, ih⟩ := d_loopP hn (A := A) (g := g) ss (vs.map (go (plain s))) (k + 8) (some (.fz (enc s))) x4 x5 x6 h.tl (by simpa using hl) (fun v hvm => by
      obtain ⟨u, hu, rfl⟩ := List.mem_map.mp hvm
      obtain ⟨h1, h2⟩ := hv u hu
      exact ⟨by rw [go_len, h1], go_bd hn h1 (ok_plain h.hd) h2⟩) (by omega)
    refine ⟨y3, ?_⟩
    rw [List.map_map] at ih
    exact forD_nm (d_lpB hn h.hd hl hv (by omega)) ih
/-- rows from columns -/
def tp (n : Nat) (vs : List (List Int)) : List (List Int) := (List.range n).map fun i => M.col i vs
theorem zip_rows {n : Nat} (hn : n = 2 ∨ n = 3) {vs : List (List Int)} (h : M.Sq n vs) {f : EF} {δ : Dl} (e : f δ = some (.fz (.lst (vs.map tupI)), δ)) : iZipNd f δ = some ((tp n vs).map tupI, [], δ) := by
  rcases hn with rfl | rfl
  · obtain ⟨a, b, c, d, rfl⟩ := M.rows2 h
    simp [iZipNd, e, der, itemsD, seqsD, seqD, tupI, zipNd, colN, tp, M.col, List.range, List.range.loop]
  · obtain ⟨a, b, c, d, e', f', g', i, j, rfl⟩ := M.rows3 h
    simp [iZipNd, e, der, itemsD, seqsD, seqD, tupI, zipNd, colN, tp, M.col, List.range, List.range.loop]
theorem tp_img {n : Nat} (hn : n = 2 ∨ n = 3) {A : List (List Int)} (h : M.Sq n A) : tp n ((M.unit n).map (img A)) = A := by
  rcases hn with rfl | rfl
  · obtain ⟨a, b, c, d, rfl⟩ := M.rows2 h
    simp [tp, unit2, img, M.col, M.dotI, List.range, List.range.loop]
  · obtain ⟨a, b, c, d, e', f', g', i, j, rfl⟩ := M.rows3 h
    simp [tp, unit3, img, M.col, M.dotI, List.range, List.range.loop]
theorem f_linear_eq : f_linear_part = (sSeq (sSet 1 (dMeth false "Chain" "grid" 1 G_Chain_grid (dVar 0) aNil))
  (sSeq (sSet 2 (dLc false (iSq (dCallN false 1 G_unit_basis (aCons (dMeth false "Chain" "" 1 G_Chain_channels (dVar 0) aNil) aNil))) (.nm 4) [4] bYes (dCallN false 2 G_multiple (aCons (dVar 1) (aCons (dVar 4) aNil)))))
  (sSeq (sFor (iSq (dMeth false "Chain" "" 1 G_Chain_steps (dVar 0) aNil)) (.nm 3) lpB)
  (sRet (dMake "Matrix" 3 G_Matrix_init (aCons (dLc false (iZipNd (dVar 2)) (.nm 6) [6] bYes (dCB (listD false) (aCons (dVar 6) aNil))) (aCons (dVar 1) aNil))))))) := rfl
theorem g_linear {n : Nat} {ss : List S} (hn : n = 2 ∨ n = 3) (h : Oks n ss) (hl : ss.length ≤ 24) : G_linear_part [.fz (chD n ss)] [] = some (.val (M.lD (Pm n ss) (gd ss)), []) := by
  obtain ⟨p1, p2⟩ := gd_pos h
  have p3 : (gd ss).natAbs < 2 ^ 97 := M.pup p2 (by omega)
  have e1 := grd (mm := false) (fo := dVar 0) (δ := ⟨[some (.fz (chD n ss)), none, none, none, none, none, none], []⟩) h hl rfl
  rw [whole_gd, Int.one_mul] at e1
  have s1 : sSet 1 (dMeth false "Chain" "grid" 1 G_Chain_grid (dVar 0) aNil) ⟨[some (.fz (chD n ss)), none, none, none, none, none, none], []⟩ = some (.nx, ⟨[some (.fz (chD n ss)), some (.fz (.int (gd ss))), none, none, none, none, none], []⟩) := by
    rw [sSet_ e1]
    rfl
  have f1 := ch_f (n := n) (ss := ss) (fo := dVar 0) (δ := ⟨[some (.fz (chD n ss)), some (.fz (.int (gd ss))), none, none, none, none, none], []⟩) rfl
  have f2 := cl0f (G := G_unit_basis) (m := false) (n := 1) (aC f1 (g := aNil) rfl) rfl rfl (g_basis hn)
  have ul : (M.unit n).length = n := by simp [M.unit]
  have e2 := M.lc_map (m := false) (f := dCallN false 1 G_unit_basis (aCons (dMeth false "Chain" "" 1 G_Chain_channels (dVar 0) aNil) aNil)) (elt := dCallN false 2 G_multiple (aCons (dVar 1) (aCons (dVar 4) aNil))) (j := 4) (xs := M.unit n) (en := tupI) (out := fun v => tupI (smul (gd ss) v)) f2 (by omega) fun v hv => by
    have hv2 := (sq_unit n).2 v hv
    have hx : ∀ x ∈ v, okMul (gd ss) x = true := fun x hx => M.okMul_nn (M.pup p3 (by decide)) (M.pup (sms_unit hn v hv x hx) (by decide))
    exact ⟨_, cl0 (G := G_multiple) (m := false) (n := 2) (fa := aCons (dVar 1) (aCons (dVar 4) aNil)) rfl rfl rfl (g_multiple hn hv2 hx)⟩
  have s2 : sSet 2 (dLc false (iSq (dCallN false 1 G_unit_basis (aCons (dMeth false "Chain" "" 1 G_Chain_channels (dVar 0) aNil) aNil))) (.nm 4) [4] bYes (dCallN false 2 G_multiple (aCons (dVar 1) (aCons (dVar 4) aNil)))) ⟨[some (.fz (chD n ss)), some (.fz (.int (gd ss))), none, none, none, none, none], []⟩ = some (.nx, lst7 (chD n ss) (gd ss) ((M.unit n).map (smul (gd ss))) none none none none) := by
    rw [sSet_ (e2.trans rfl)]
    simp [lst7, Function.comp_def]
  obtain ⟨y3, e3⟩ := d_loopP hn (A := chD n ss) (g := gd ss) ss ((M.unit n).map (smul (gd ss))) 98 none none none none h (by rw [List.length_map, ul]; omega) (fun v hv => by
    obtain ⟨u, hu, rfl⟩ := List.mem_map.mp hv
    refine ⟨by rw [smul_len, (sq_unit n).2 u hu], fun x hx => ?_⟩
    obtain ⟨z, hz, rfl⟩ := List.mem_map.mp hx
    have hz2 := sms_unit hn u hu z hz
    rw [Int.natAbs_mul]
    have : (gd ss).natAbs * z.natAbs ≤ (gd ss).natAbs * 1 := Nat.mul_le_mul_left _ (by omega)
    have : (2 : Nat) ^ 98 = 2 * 2 ^ 97 := by decide
    omega) (by omega)
  have hv : ((M.unit n).map (smul (gd ss))).map (runs (ss.map plain)) = (M.unit n).map (img (Pm n ss)) := by
    rw [List.map_map]
    exact List.map_congr_left fun v hv => runs_img hn h ((sq_unit n).2 v hv)
  rw [hv] at e3
  have hsq : M.Sq n ((M.unit n).map (img (Pm n ss))) := ⟨by rw [List.length_map, ul], fun r hr => by
    obtain ⟨v, _, rfl⟩ := List.mem_map.mp hr
    rw [img_len, (sq_Pm hn h).1]⟩
  have s3 : sFor (iSq (dMeth false "Chain" "" 1 G_Chain_steps (dVar 0) aNil)) (.nm 3) lpB (lst7 (chD n ss) (gd ss) ((M.unit n).map (smul (gd ss))) none none none none) = some (.nx, lst7 (chD n ss) (gd ss) ((M.unit n).map (img (Pm n ss))) y3 none none none) := by
    have i1 := st_f (n := n) (ss := ss) (fo := dVar 0) (δ := lst7 (chD n ss) (gd ss) ((M.unit n).map (smul (gd ss))) none none none none) rfl
    have i2 : iSq (dMeth false "Chain" "" 1 G_Chain_steps (dVar 0) aNil) (lst7 (chD n ss) (gd ss) ((M.unit n).map (smul (gd ss))) none none none none) = some (encs ss, [], lst7 (chD n ss) (gd ss) ((M.unit n).map (smul (gd ss))) none none none none) := by
      rw [iSq, i1]
      rfl
    rw [sFor, i2]
    exact e3
  have e4 := M.lc_mapI (m := false) (fi := iZipNd (dVar 2)) (elt := dCB (listD false) (aCons (dVar 6) aNil)) (j := 6) (sl := (lst7 (chD n ss) (gd ss) ((M.unit n).map (img (Pm n ss))) y3 none none none).sl) (st := []) (xs := Pm n ss) (en := tupI) (out := M.rowD) (by
    have z := zip_rows hn hsq (f := dVar 2) (δ := lst7 (chD n ss) (gd ss) ((M.unit n).map (img (Pm n ss))) y3 none none none) rfl
    rw [tp_img hn (sq_Pm hn h)] at z
    exact z) (by rw [(sq_Pm hn h).1]; omega) fun r hr => ⟨_, (cb1_ (g := listD false) (f := dVar 6) rfl rfl).trans rfl⟩
  have e5 := (mx_Pm hn h).make (by omega) (aC (δ := lst7 (chD n ss) (gd ss) ((M.unit n).map (img (Pm n ss))) y3 none none none) (e4.trans rfl) (aC (g := aNil) (f := dVar 1) rfl rfl))
  unfold G_linear_part fnD
  rw [f_linear_eq]
  show ((sSeq _ _ ⟨[some (.fz (chD n ss)), none, none, none, none, none, none], []⟩).bind _) = _
  rw [sSeq_nx s1, sSeq_nx s2, sSeq_nx s3, sRet, e5]
  rfl
end K12

set_option maxHeartbeats 0
namespace K12
open PySem L2 PK
/-! ### the law's own linear part -/
noncomputable def lb1 : SF := (sSet 6 (dOp (mulD false) (dLst false (aCons (dC (.int 0)) aNil)) (dVar 1)))
noncomputable def lb2 : SF := (sFor (iZipWD (dOp ixD (dVar 4) (dC (.int 2))) (dVar 2)) (.tp [7, 8]) (sSet 6 (dLc false (iZipWD (dVar 6) (dVar 8)) (.tp [10, 11]) [10, 11] bYes (dOp (addD false) (dVar 10) (dOp (mulD false) (dVar 7) (dVar 11))))))
noncomputable def lb3 : SF := (sSeq (sSet 2 (dLc true (iSq (dVar 2)) (.nm 8) [8] bYes (dLc false (iSq (dVar 8)) (.nm 10) [10] bYes (dOp (mulD false) (dOp ixD (dVar 4) (dC (.int 4))) (dVar 10))))) (sSeq (sAsg (hSub (dVar 2) (dOp ixD (dVar 4) (dC (.int 1)))) (dLc false (iZipWD (dOp ixD (dVar 2) (dOp ixD (dVar 4) (dC (.int 1)))) (dVar 6)) (.tp [10, 11]) [10, 11] bYes (dOp (addD false) (dVar 10) (dVar 11)))) (sSet 3 (dOp (mulD false) (dVar 3) (dOp ixD (dVar 4) (dC (.int 4)))))))
noncomputable def lbl : SF := sSeq lb1 (sSeq lb2 lb3)
noncomputable def lbd : SF := (sIf (dB (dOp (eqD false) (dOp ixD (dVar 4) (dC (.int 0))) (dC (.str "swap")))) (sAsg (hTup 2 (hCons (hSub (dVar 2) (dOp ixD (dVar 4) (dC (.int 1)))) (hCons (hSub (dVar 2) (dOp ixD (dVar 4) (dC (.int 2)))) hNil))) (dTup (aCons (dOp ixD (dVar 2) (dOp ixD (dVar 4) (dC (.int 2)))) (aCons (dOp ixD (dVar 2) (dOp ixD (dVar 4) (dC (.int 1)))) aNil)))) (sIf (dB (dOp (eqD false) (dOp ixD (dVar 4) (dC (.int 0))) (dC (.str "turn")))) (sAsg (hSub (dVar 2) (dOp ixD (dVar 4) (dC (.int 1)))) (dLc false (iSq (dOp ixD (dVar 2) (dOp ixD (dVar 4) (dC (.int 1))))) (.nm 10) [10] bYes (dOp subD (dC (.int 0)) (dVar 10)))) lbl))
theorem f_linear_eq2 : f_law_linear = (sSeq (sPar [2, 3] (aCons (dLc true (iRg1 (dVar 1)) (.nm 5) [5] bYes (dLc false (iRg1 (dVar 1)) (.nm 9) [9] bYes (dCB intD (aCons (dOp (eqD false) (dVar 5) (dVar 9)) aNil)))) (aCons (dC (.int 1)) aNil))) (sSeq (sFor (iSq (dVar 0)) (.nm 4) lbd) (sRet (dLst true (aCons (dVar 2) (aCons (dVar 3) aNil)))))) := rfl
def lsx (A : D) (n k : Nat) (u : Int) (x4 x5 x6 x7 x8 x9 x10 x11 : Option Vl) (st : List (Option (List D))) : Dl := ⟨[some (.fz A), some (.fz (.int n)), some (.rf k), some (.fz (.int u)), x4, x5, x6, x7, x8, x9, x10, x11], st⟩
def mlist (L : List (List Int)) : Option (List D) := some (L.map M.rowD)
def nl : S → Bool
  | .lift _ _ _ _ => false
  | _ => true
theorem ok200 {i x : Int} (h : i.natAbs < 2 ^ 200) (g : x.natAbs < 2 ^ 200) : okMul i x = true := okMul_nn h g
section
variable {A : D} {n k : Nat} {u : Int} {x5 x6 x7 x8 x9 x10 x11 : Option Vl} {st : List (Option (List D))} {L : List (List Int)}
theorem d_plain {s : S} (hn : n = 2 ∨ n = 3) (h : Ok n s) (hs : nl s = true) (hk : st[k]? = some (mlist L)) (hq : M.Sq n L) :
    lbd (lsx A n k u (some (.fz (enc s))) x5 x6 x7 x8 x9 x10 x11 st) = some (.nx, lsx A n k u (some (.fz (enc s))) x5 x6 x7 x8 x9 x10 x11 (st.set k (mlist (M.mul n (sm n s) L)))) := by
  have hlt : k < st.length := (List.getElem?_eq_some_iff.mp hk).1
  revert hs hk hq
  refine st_cases (P := fun n s => nl s = true → st[k]? = some (mlist L) → M.Sq n L → lbd (lsx A n k u (some (.fz (enc s))) x5 x6 x7 x8 x9 x10 x11 st) = some (.nx, lsx A n k u (some (.fz (enc s))) x5 x6 x7 x8 x9 x10 x11 (st.set k (mlist (M.mul n (sm n s) L))))) hn h ?_ ?_ ?_ ?_ ?_ ?_ ?_ ?_ ?_ ?_ ?_ ?_ ?_ ?_
  · intros; contradiction
  · intros; contradiction
  · intro hs hk hq
    obtain ⟨a, b, c, d, rfl⟩ := M.rows2 hq
    simp only [mlist, List.map_cons, List.map_nil, M.rowD] at hk
    unfold lbd lsx
    simp [fnD, sSeq, sSet, sDrop, sRet, sRetN, sIf, sAsg, sPar, sFor, forD, dC, dVar, dOp, der, ders, frz, frzs, dTup, dLst, aNil, aCons, aStar, PK.mk, dCB, PK.g1, PK.g2, lenD, absD, maxD, minD, PK.intD, listD, tupD, sumD, allD, intsD, bls, addD, subD, mulD, divD, modD, powD, cmpD, ixD, atI, ixN, dUn, negD, dB, truD, bNot, bAnd, bOr, bYes, dAndV, dOrV, dNotV, dChain, dFld, recvOk, dIsi, tyD, kitB, dCallN, callG, refs, renum, lives, PK.putAll, hNm, hSub, hNil, hCons, hTup, setIx, asgT, setAll, dMt, appD, extD, dLc, lcGo, wipeD, iSq, iRg1, iRg2, iZipD, iEnumD, iRevD, srcOf, rangeD, zipD, small, itemsD, List.range, List.range.loop, eqD_int, dSl, dRev, slD, cutD, okR, sNext, sNever, sBrk, sCnt, dMake, makeG, PK.initD, iSeq, iDrop, iSet, iFld, dMeth, dIfE, isND, PK.isNon, oSome, oNone, HT.sIx, enc, q1, q2, q3, q4, q5, q6, q7, q8, hk, CkOk, List.getElem?_set_self hlt, List.set_set, sm, unit2, M.mul2, mlist, M.rowD]
  · intro hs hk hq
    obtain ⟨a, b, c, d, rfl⟩ := M.rows2 hq
    simp only [mlist, List.map_cons, List.map_nil, M.rowD] at hk
    unfold lbd lsx
    simp [fnD, sSeq, sSet, sDrop, sRet, sRetN, sIf, sAsg, sPar, sFor, forD, dC, dVar, dOp, der, ders, frz, frzs, dTup, dLst, aNil, aCons, aStar, PK.mk, dCB, PK.g1, PK.g2, lenD, absD, maxD, minD, PK.intD, listD, tupD, sumD, allD, intsD, bls, addD, subD, mulD, divD, modD, powD, cmpD, ixD, atI, ixN, dUn, negD, dB, truD, bNot, bAnd, bOr, bYes, dAndV, dOrV, dNotV, dChain, dFld, recvOk, dIsi, tyD, kitB, dCallN, callG, refs, renum, lives, PK.putAll, hNm, hSub, hNil, hCons, hTup, setIx, asgT, setAll, dMt, appD, extD, dLc, lcGo, wipeD, iSq, iRg1, iRg2, iZipD, iEnumD, iRevD, srcOf, rangeD, zipD, small, itemsD, List.range, List.range.loop, eqD_int, dSl, dRev, slD, cutD, okR, sNext, sNever, sBrk, sCnt, dMake, makeG, PK.initD, iSeq, iDrop, iSet, iFld, dMeth, dIfE, isND, PK.isNon, oSome, oNone, HT.sIx, enc, q1, q2, q3, q4, q5, q6, q7, q8, hk, CkOk, List.getElem?_set_self hlt, List.set_set, sm, unit2, M.mul2, mlist, M.rowD]
  · intro hs hk hq
    obtain ⟨a, b, c, d, rfl⟩ := M.rows2 hq
    simp only [mlist, List.map_cons, List.map_nil, M.rowD] at hk
    unfold lbd lsx
    simp [fnD, sSeq, sSet, sDrop, sRet, sRetN, sIf, sAsg, sPar, sFor, forD, dC, dVar, dOp, der, ders, frz, frzs, dTup, dLst, aNil, aCons, aStar, PK.mk, dCB, PK.g1, PK.g2, lenD, absD, maxD, minD, PK.intD, listD, tupD, sumD, allD, intsD, bls, addD, subD, mulD, divD, modD, powD, cmpD, ixD, atI, ixN, dUn, negD, dB, truD, bNot, bAnd, bOr, bYes, dAndV, dOrV, dNotV, dChain, dFld, recvOk, dIsi, tyD, kitB, dCallN, callG, refs, renum, lives, PK.putAll, hNm, hSub, hNil, hCons, hTup, setIx, asgT, setAll, dMt, appD, extD, dLc, lcGo, wipeD, iSq, iRg1, iRg2, iZipD, iEnumD, iRevD, srcOf, rangeD, zipD, small, itemsD, List.range, List.range.loop, eqD_int, dSl, dRev, slD, cutD, okR, sNext, sNever, sBrk, sCnt, dMake, makeG, PK.initD, iSeq, iDrop, iSet, iFld, dMeth, dIfE, isND, PK.isNon, oSome, oNone, HT.sIx, enc, q1, q2, q3, q4, q5, q6, q7, q8, hk, CkOk, List.getElem?_set_self hlt, List.set_set, sm, unit2, M.mul2, mlist, M.rowD]
  · intros; contradiction
  · intros; contradiction
  · intros; contradiction
  · intro hs hk hq
    obtain ⟨a, b, c, d, e, f, g, i, j, rfl⟩ := M.rows3 hq
    simp only [mlist, List.map_cons, List.map_nil, M.rowD] at hk
    unfold lbd lsx
    simp [fnD, sSeq, sSet, sDrop, sRet, sRetN, sIf, sAsg, sPar, sFor, forD, dC, dVar, dOp, der, ders, frz, frzs, dTup, dLst, aNil, aCons, aStar, PK.mk, dCB, PK.g1, PK.g2, lenD, absD, maxD, minD, PK.intD, listD, tupD, sumD, allD, intsD, bls, addD, subD, mulD, divD, modD, powD, cmpD, ixD, atI, ixN, dUn, negD, dB, truD, bNot, bAnd, bOr, bYes, dAndV, dOrV, dNotV, dChain, dFld, recvOk, dIsi, tyD, kitB, dCallN, callG, refs, renum, lives, PK.putAll, hNm, hSub, hNil, hCons, hTup, setIx, asgT, setAll, dMt, appD, extD, dLc, lcGo, wipeD, iSq, iRg1, iRg2, iZipD, iEnumD, iRevD, srcOf, rangeD, zipD, small, itemsD, List.range, List.range.loop, eqD_int, dSl, dRev, slD, cutD, okR, sNext, sNever, sBrk, sCnt, dMake, makeG, PK.initD, iSeq, iDrop, iSet, iFld, dMeth, dIfE, isND, PK.isNon, oSome, oNone, HT.sIx, enc, q1, q2, q3, q4, q5, q6, q7, q8, hk, CkOk, List.getElem?_set_self hlt, List.set_set, sm, unit3, M.mul3, mlist, M.rowD]
  · intro hs hk hq
    obtain ⟨a, b, c, d, e, f, g, i, j, rfl⟩ := M.rows3 hq
    simp only [mlist, List.map_cons, List.map_nil, M.rowD] at hk
    unfold lbd lsx
    simp [fnD, sSeq, sSet, sDrop, sRet, sRetN, sIf, sAsg, sPar, sFor, forD, dC, dVar, dOp, der, ders, frz, frzs, dTup, dLst, aNil, aCons, aStar, PK.mk, dCB, PK.g1, PK.g2, lenD, absD, maxD, minD, PK.intD, listD, tupD, sumD, allD, intsD, bls, addD, subD, mulD, divD, modD, powD, cmpD, ixD, atI, ixN, dUn, negD, dB, truD, bNot, bAnd, bOr, bYes, dAndV, dOrV, dNotV, dChain, dFld, recvOk, dIsi, tyD, kitB, dCallN, callG, refs, renum, lives, PK.putAll, hNm, hSub, hNil, hCons, hTup, setIx, asgT, setAll, dMt, appD, extD, dLc, lcGo, wipeD, iSq, iRg1, iRg2, iZipD, iEnumD, iRevD, srcOf, rangeD, zipD, small, itemsD, List.range, List.range.loop, eqD_int, dSl, dRev, slD, cutD, okR, sNext, sNever, sBrk, sCnt, dMake, makeG, PK.initD, iSeq, iDrop, iSet, iFld, dMeth, dIfE, isND, PK.isNon, oSome, oNone, HT.sIx, enc, q1, q2, q3, q4, q5, q6, q7, q8, hk, CkOk, List.getElem?_set_self hlt, List.set_set, sm, unit3, M.mul3, mlist, M.rowD]
  · intro hs hk hq
    obtain ⟨a, b, c, d, e, f, g, i, j, rfl⟩ := M.rows3 hq
    simp only [mlist, List.map_cons, List.map_nil, M.rowD] at hk
    unfold lbd lsx
    simp [fnD, sSeq, sSet, sDrop, sRet, sRetN, sIf, sAsg, sPar, sFor, forD, dC, dVar, dOp, der, ders, frz, frzs, dTup, dLst, aNil, aCons, aStar, PK.mk, dCB, PK.g1, PK.g2, lenD, absD, maxD, minD, PK.intD, listD, tupD, sumD, allD, intsD, bls, addD, subD, mulD, divD, modD, powD, cmpD, ixD, atI, ixN, dUn, negD, dB, truD, bNot, bAnd, bOr, bYes, dAndV, dOrV, dNotV, dChain, dFld, recvOk, dIsi, tyD, kitB, dCallN, callG, refs, renum, lives, PK.putAll, hNm, hSub, hNil, hCons, hTup, setIx, asgT, setAll, dMt, appD, extD, dLc, lcGo, wipeD, iSq, iRg1, iRg2, iZipD, iEnumD, iRevD, srcOf, rangeD, zipD, small, itemsD, List.range, List.range.loop, eqD_int, dSl, dRev, slD, cutD, okR, sNext, sNever, sBrk, sCnt, dMake, makeG, PK.initD, iSeq, iDrop, iSet, iFld, dMeth, dIfE, isND, PK.isNon, oSome, oNone, HT.sIx, enc, q1, q2, q3, q4, q5, q6, q7, q8, hk, CkOk, List.getElem?_set_self hlt, List.set_set, sm, unit3, M.mul3, mlist, M.rowD]
  · intro hs hk hq
    obtain ⟨a, b, c, d, e, f, g, i, j, rfl⟩ := M.rows3 hq
    simp only [mlist, List.map_cons, List.map_nil, M.rowD] at hk
    unfold lbd lsx
    simp [fnD, sSeq, sSet, sDrop, sRet, sRetN, sIf, sAsg, sPar, sFor, forD, dC, dVar, dOp, der, ders, frz, frzs, dTup, dLst, aNil, aCons, aStar, PK.mk, dCB, PK.g1, PK.g2, lenD, absD, maxD, minD, PK.intD, listD, tupD, sumD, allD, intsD, bls, addD, subD, mulD, divD, modD, powD, cmpD, ixD, atI, ixN, dUn, negD, dB, truD, bNot, bAnd, bOr, bYes, dAndV, dOrV, dNotV, dChain, dFld, recvOk, dIsi, tyD, kitB, dCallN, callG, refs, renum, lives, PK.putAll, hNm, hSub, hNil, hCons, hTup, setIx, asgT, setAll, dMt, appD, extD, dLc, lcGo, wipeD, iSq, iRg1, iRg2, iZipD, iEnumD, iRevD, srcOf, rangeD, zipD, small, itemsD, List.range, List.range.loop, eqD_int, dSl, dRev, slD, cutD, okR, sNext, sNever, sBrk, sCnt, dMake, makeG, PK.initD, iSeq, iDrop, iSet, iFld, dMeth, dIfE, isND, PK.isNon, oSome, oNone, HT.sIx, enc, q1, q2, q3, q4, q5, q6, q7, q8, hk, CkOk, List.getElem?_set_self hlt, List.set_set, sm, unit3, M.mul3, mlist, M.rowD]
  · intro hs hk hq
    obtain ⟨a, b, c, d, e, f, g, i, j, rfl⟩ := M.rows3 hq
    simp only [mlist, List.map_cons, List.map_nil, M.rowD] at hk
    unfold lbd lsx
    simp [fnD, sSeq, sSet, sDrop, sRet, sRetN, sIf, sAsg, sPar, sFor, forD, dC, dVar, dOp, der, ders, frz, frzs, dTup, dLst, aNil, aCons, aStar, PK.mk, dCB, PK.g1, PK.g2, lenD, absD, maxD, minD, PK.intD, listD, tupD, sumD, allD, intsD, bls, addD, subD, mulD, divD, modD, powD, cmpD, ixD, atI, ixN, dUn, negD, dB, truD, bNot, bAnd, bOr, bYes, dAndV, dOrV, dNotV, dChain, dFld, recvOk, dIsi, tyD, kitB, dCallN, callG, refs, renum, lives, PK.putAll, hNm, hSub, hNil, hCons, hTup, setIx, asgT, setAll, dMt, appD, extD, dLc, lcGo, wipeD, iSq, iRg1, iRg2, iZipD, iEnumD, iRevD, srcOf, rangeD, zipD, small, itemsD, List.range, List.range.loop, eqD_int, dSl, dRev, slD, cutD, okR, sNext, sNever, sBrk, sCnt, dMake, makeG, PK.initD, iSeq, iDrop, iSet, iFld, dMeth, dIfE, isND, PK.isNon, oSome, oNone, HT.sIx, enc, q1, q2, q3, q4, q5, q6, q7, q8, hk, CkOk, List.getElem?_set_self hlt, List.set_set, sm, unit3, M.mul3, mlist, M.rowD]
  · intro hs hk hq
    obtain ⟨a, b, c, d, e, f, g, i, j, rfl⟩ := M.rows3 hq
    simp only [mlist, List.map_cons, List.map_nil, M.rowD] at hk
    unfold lbd lsx
    simp [fnD, sSeq, sSet, sDrop, sRet, sRetN, sIf, sAsg, sPar, sFor, forD, dC, dVar, dOp, der, ders, frz, frzs, dTup, dLst, aNil, aCons, aStar, PK.mk, dCB, PK.g1, PK.g2, lenD, absD, maxD, minD, PK.intD, listD, tupD, sumD, allD, intsD, bls, addD, subD, mulD, divD, modD, powD, cmpD, ixD, atI, ixN, dUn, negD, dB, truD, bNot, bAnd, bOr, bYes, dAndV, dOrV, dNotV, dChain, dFld, recvOk, dIsi, tyD, kitB, dCallN, callG, refs, renum, lives, PK.putAll, hNm, hSub, hNil, hCons, hTup, setIx, asgT, setAll, dMt, appD, extD, dLc, lcGo, wipeD, iSq, iRg1, iRg2, iZipD, iEnumD, iRevD, srcOf, rangeD, zipD, small, itemsD, List.range, List.range.loop, eqD_int, dSl, dRev, slD, cutD, okR, sNext, sNever, sBrk, sCnt, dMake, makeG, PK.initD, iSeq, iDrop, iSet, iFld, dMeth, dIfE, isND, PK.isNon, oSome, oNone, HT.sIx, enc, q1, q2, q3, q4, q5, q6, q7, q8, hk, CkOk, List.getElem?_set_self hlt, List.set_set, sm, unit3, M.mul3, mlist, M.rowD]
theorem d_l20 (w : Int) (m dd : Int) (hw : -6 ≤ w ∧ w ≤ 6) (h1 : 1 ≤ dd) (h2 : dd ≤ 12) (hk : st[k]? = some (mlist L)) (hq : M.Sq 2 L) (hb : ∀ r ∈ L, ∀ x ∈ r, x.natAbs < 2 ^ 200) (hu : u.natAbs < 2 ^ 200) : ∃ y6 y7 y8,
    lbd (lsx A 2 k u (some (.fz (enc (.lift 0 [0, w] m dd)))) x5 x6 x7 x8 x9 x10 x11 st) = some (.nx, lsx A 2 st.length (u * dd) (some (.fz (enc (.lift 0 [0, w] m dd)))) x5 y6 y7 y8 x9 x10 x11 (st ++ [mlist (M.mul 2 (sm 2 (.lift 0 [0, w] m dd)) L)])) := by
  obtain ⟨a, b, c, e, rfl⟩ := M.rows2 hq
  have hlt : k < st.length := (List.getElem?_eq_some_iff.mp hk).1
  simp only [mlist, List.map_cons, List.map_nil, M.rowD] at hk
  have ku : okMul u dd = true := ok200 hu (by omega)
  have ba : a.natAbs < 2 ^ 200 := hb [a, b] (by simp) a (by simp)
  have bb : b.natAbs < 2 ^ 200 := hb [a, b] (by simp) b (by simp)
  have bc : c.natAbs < 2 ^ 200 := hb [c, e] (by simp) c (by simp)
  have be : e.natAbs < 2 ^ 200 := hb [c, e] (by simp) e (by simp)
  have k0 : okMul dd a = true := ok200 (by omega) ba
  have k1 : okMul 0 a = true := ok200 (by omega) ba
  have k2 : okMul dd b = true := ok200 (by omega) bb
  have k3 : okMul 0 b = true := ok200 (by omega) bb
  have k4 : okMul dd c = true := ok200 (by omega) bc
  have k5 : okMul w c = true := ok200 (by omega) bc
  have k6 : okMul dd e = true := ok200 (by omega) be
  have k7 : okMul w e = true := ok200 (by omega) be
  refine ⟨some (.fz (.lst [.int (w * c), .int (w * e)])), some (.fz (.int w)), some (.fz (.lst [.int c, .int e])), ?_⟩
  have s0 : lbd (lsx A 2 k u (some (.fz (enc (.lift 0 [0, w] m dd)))) x5 x6 x7 x8 x9 x10 x11 st) = lbl (lsx A 2 k u (some (.fz (enc (.lift 0 [0, w] m dd)))) x5 x6 x7 x8 x9 x10 x11 st) := by
    unfold lbd lsx
    simp [fnD, sSeq, sSet, sDrop, sRet, sRetN, sIf, sAsg, sPar, sFor, forD, dC, dVar, dOp, der, ders, frz, frzs, dTup, dLst, aNil, aCons, aStar, PK.mk, dCB, PK.g1, PK.g2, lenD, absD, maxD, minD, PK.intD, listD, tupD, sumD, allD, intsD, bls, addD, subD, mulD, divD, modD, powD, cmpD, ixD, atI, ixN, dUn, negD, dB, truD, bNot, bAnd, bOr, bYes, dAndV, dOrV, dNotV, dChain, dFld, recvOk, dIsi, tyD, kitB, dCallN, callG, refs, renum, lives, PK.putAll, hNm, hSub, hNil, hCons, hTup, setIx, asgT, setAll, dMt, appD, extD, dLc, lcGo, wipeD, iSq, iRg1, iRg2, iZipD, iEnumD, iRevD, srcOf, rangeD, zipD, small, itemsD, List.range, List.range.loop, eqD_int, dSl, dRev, slD, cutD, okR, sNext, sNever, sBrk, sCnt, dMake, makeG, PK.initD, iSeq, iDrop, iSet, iFld, dMeth, dIfE, isND, PK.isNon, oSome, oNone, HT.sIx, enc, q1, q2, q3, q4, q5, q6, q7, q8]
  have s1 : lb1 (lsx A 2 k u (some (.fz (enc (.lift 0 [0, w] m dd)))) x5 x6 x7 x8 x9 x10 x11 st) = some (.nx, lsx A 2 k u (some (.fz (enc (.lift 0 [0, w] m dd)))) x5 (some (.fz (.lst [.int 0, .int 0]))) x7 x8 x9 x10 x11 st) := by
    unfold lb1 lsx
    simp [fnD, sSeq, sSet, sDrop, sRet, sRetN, sIf, sAsg, sPar, sFor, forD, dC, dVar, dOp, der, ders, frz, frzs, dTup, dLst, aNil, aCons, aStar, PK.mk, dCB, PK.g1, PK.g2, lenD, absD, maxD, minD, PK.intD, listD, tupD, sumD, allD, intsD, bls, addD, subD, mulD, divD, modD, powD, cmpD, ixD, atI, ixN, dUn, negD, dB, truD, bNot, bAnd, bOr, bYes, dAndV, dOrV, dNotV, dChain, dFld, recvOk, dIsi, tyD, kitB, dCallN, callG, refs, renum, lives, PK.putAll, hNm, hSub, hNil, hCons, hTup, setIx, asgT, setAll, dMt, appD, extD, dLc, lcGo, wipeD, iSq, iRg1, iRg2, iZipD, iEnumD, iRevD, srcOf, rangeD, zipD, small, itemsD, List.range, List.range.loop, eqD_int, dSl, dRev, slD, cutD, okR, sNext, sNever, sBrk, sCnt, dMake, makeG, PK.initD, iSeq, iDrop, iSet, iFld, dMeth, dIfE, isND, PK.isNon, oSome, oNone, HT.sIx]
  have s2 : lb2 (lsx A 2 k u (some (.fz (enc (.lift 0 [0, w] m dd)))) x5 (some (.fz (.lst [.int 0, .int 0]))) x7 x8 x9 x10 x11 st) = some (.nx, lsx A 2 k u (some (.fz (enc (.lift 0 [0, w] m dd)))) x5 (some (.fz (.lst [.int (w * c), .int (w * e)]))) (some (.fz (.int w))) (some (.fz (.lst [.int c, .int e]))) x9 x10 x11 st) := by
    unfold lb2 lsx
    simp [fnD, sSeq, sSet, sDrop, sRet, sRetN, sIf, sAsg, sPar, sFor, forD, dC, dVar, dOp, der, ders, frz, frzs, dTup, dLst, aNil, aCons, aStar, PK.mk, dCB, PK.g1, PK.g2, lenD, absD, maxD, minD, PK.intD, listD, tupD, sumD, allD, intsD, bls, addD, subD, mulD, divD, modD, powD, cmpD, ixD, atI, ixN, dUn, negD, dB, truD, bNot, bAnd, bOr, bYes, dAndV, dOrV, dNotV, dChain, dFld, recvOk, dIsi, tyD, kitB, dCallN, callG, refs, renum, lives, PK.putAll, hNm, hSub, hNil, hCons, hTup, setIx, asgT, setAll, dMt, appD, extD, dLc, lcGo, wipeD, iSq, iRg1, iRg2, iZipD, iEnumD, iRevD, srcOf, rangeD, zipD, small, itemsD, List.range, List.range.loop, eqD_int, dSl, dRev, slD, cutD, okR, sNext, sNever, sBrk, sCnt, dMake, makeG, PK.initD, iSeq, iDrop, iSet, iFld, dMeth, dIfE, isND, PK.isNon, oSome, oNone, HT.sIx, enc, tupI, q1, q2, q3, q4, q5, q6, q7, q8, hk, CkOk, iZipWD, List.getElem?_set_self hlt, List.set_set, ku, k0, k1, k2, k3, k4, k5, k6, k7]
  rw [s0]
  unfold lbl
  rw [sSeq_nx s1, sSeq_nx s2]
  unfold lb3 lsx
  simp [fnD, sSeq, sSet, sDrop, sRet, sRetN, sIf, sAsg, sPar, sFor, forD, dC, dVar, dOp, der, ders, frz, frzs, dTup, dLst, aNil, aCons, aStar, PK.mk, dCB, PK.g1, PK.g2, lenD, absD, maxD, minD, PK.intD, listD, tupD, sumD, allD, intsD, bls, addD, subD, mulD, divD, modD, powD, cmpD, ixD, atI, ixN, dUn, negD, dB, truD, bNot, bAnd, bOr, bYes, dAndV, dOrV, dNotV, dChain, dFld, recvOk, dIsi, tyD, kitB, dCallN, callG, refs, renum, lives, PK.putAll, hNm, hSub, hNil, hCons, hTup, setIx, asgT, setAll, dMt, appD, extD, dLc, lcGo, wipeD, iSq, iRg1, iRg2, iZipD, iEnumD, iRevD, srcOf, rangeD, zipD, small, itemsD, List.range, List.range.loop, eqD_int, dSl, dRev, slD, cutD, okR, sNext, sNever, sBrk, sCnt, dMake, makeG, PK.initD, iSeq, iDrop, iSet, iFld, dMeth, dIfE, isND, PK.isNon, oSome, oNone, HT.sIx, enc, tupI, q1, q2, q3, q4, q5, q6, q7, q8, hk, CkOk, iZipWD, List.getElem?_set_self hlt, List.set_set, ku, k0, k1, k2, k3, k4, k5, k6, k7, sm, unit2, M.mul2, M.sc, mlist, M.rowD]
  all_goals omega
theorem d_l21 (w : Int) (m dd : Int) (hw : -6 ≤ w ∧ w ≤ 6) (h1 : 1 ≤ dd) (h2 : dd ≤ 12) (hk : st[k]? = some (mlist L)) (hq : M.Sq 2 L) (hb : ∀ r ∈ L, ∀ x ∈ r, x.natAbs < 2 ^ 200) (hu : u.natAbs < 2 ^ 200) : ∃ y6 y7 y8,
    lbd (lsx A 2 k u (some (.fz (enc (.lift 1 [w, 0] m dd)))) x5 x6 x7 x8 x9 x10 x11 st) = some (.nx, lsx A 2 st.length (u * dd) (some (.fz (enc (.lift 1 [w, 0] m dd)))) x5 y6 y7 y8 x9 x10 x11 (st ++ [mlist (M.mul 2 (sm 2 (.lift 1 [w, 0] m dd)) L)])) := by
  obtain ⟨a, b, c, e, rfl⟩ := M.rows2 hq
  have hlt : k < st.length := (List.getElem?_eq_some_iff.mp hk).1
  simp only [mlist, List.map_cons, List.map_nil, M.rowD] at hk
  have ku : okMul u dd = true := ok200 hu (by omega)
  have ba : a.natAbs < 2 ^ 200 := hb [a, b] (by simp) a (by simp)
  have bb : b.natAbs < 2 ^ 200 := hb [a, b] (by simp) b (by simp)
  have bc : c.natAbs < 2 ^ 200 := hb [c, e] (by simp) c (by simp)
  have be : e.natAbs < 2 ^ 200 := hb [c, e] (by simp) e (by simp)
  have k0 : okMul dd a = true := ok200 (by omega) ba
  have k1 : okMul w a = true := ok200 (by omega) ba
  have k2 : okMul dd b = true := ok200 (by omega) bb
  have k3 : okMul w b = true := ok200 (by omega) bb
  have k4 : okMul dd c = true := ok200 (by omega) bc
  have k5 : okMul 0 c = true := ok200 (by omega) bc
  have k6 : okMul dd e = true := ok200 (by omega) be
  have k7 : okMul 0 e = true := ok200 (by omega) be
  refine ⟨some (.fz (.lst [.int (w * a), .int (w * b)])), some (.fz (.int 0)), some (.fz (.lst [.int c, .int e])), ?_⟩
  have s0 : lbd (lsx A 2 k u (some (.fz (enc (.lift 1 [w, 0] m dd)))) x5 x6 x7 x8 x9 x10 x11 st) = lbl (lsx A 2 k u (some (.fz (enc (.lift 1 [w, 0] m dd)))) x5 x6 x7 x8 x9 x10 x11 st) := by
    unfold lbd lsx
    simp [fnD, sSeq, sSet, sDrop, sRet, sRetN, sIf, sAsg, sPar, sFor, forD, dC, dVar, dOp, der, ders, frz, frzs, dTup, dLst, aNil, aCons, aStar, PK.mk, dCB, PK.g1, PK.g2, lenD, absD, maxD, minD, PK.intD, listD, tupD, sumD, allD, intsD, bls, addD, subD, mulD, divD, modD, powD, cmpD, ixD, atI, ixN, dUn, negD, dB, truD, bNot, bAnd, bOr, bYes, dAndV, dOrV, dNotV, dChain, dFld, recvOk, dIsi, tyD, kitB, dCallN, callG, refs, renum, lives, PK.putAll, hNm, hSub, hNil, hCons, hTup, setIx, asgT, setAll, dMt, appD, extD, dLc, lcGo, wipeD, iSq, iRg1, iRg2, iZipD, iEnumD, iRevD, srcOf, rangeD, zipD, small, itemsD, List.range, List.range.loop, eqD_int, dSl, dRev, slD, cutD, okR, sNext, sNever, sBrk, sCnt, dMake, makeG, PK.initD, iSeq, iDrop, iSet, iFld, dMeth, dIfE, isND, PK.isNon, oSome, oNone, HT.sIx, enc, q1, q2, q3, q4, q5, q6, q7, q8]
  have s1 : lb1 (lsx A 2 k u (some (.fz (enc (.lift 1 [w, 0] m dd)))) x5 x6 x7 x8 x9 x10 x11 st) = some (.nx, lsx A 2 k u (some (.fz (enc (.lift 1 [w, 0] m dd)))) x5 (some (.fz (.lst [.int 0, .int 0]))) x7 x8 x9 x10 x11 st) := by
    unfold lb1 lsx
    simp [fnD, sSeq, sSet, sDrop, sRet, sRetN, sIf, sAsg, sPar, sFor, forD, dC, dVar, dOp, der, ders, frz, frzs, dTup, dLst, aNil, aCons, aStar, PK.mk, dCB, PK.g1, PK.g2, lenD, absD, maxD, minD, PK.intD, listD, tupD, sumD, allD, intsD, bls, addD, subD, mulD, divD, modD, powD, cmpD, ixD, atI, ixN, dUn, negD, dB, truD, bNot, bAnd, bOr, bYes, dAndV, dOrV, dNotV, dChain, dFld, recvOk, dIsi, tyD, kitB, dCallN, callG, refs, renum, lives, PK.putAll, hNm, hSub, hNil, hCons, hTup, setIx, asgT, setAll, dMt, appD, extD, dLc, lcGo, wipeD, iSq, iRg1, iRg2, iZipD, iEnumD, iRevD, srcOf, rangeD, zipD, small, itemsD, List.range, List.range.loop, eqD_int, dSl, dRev, slD, cutD, okR, sNext, sNever, sBrk, sCnt, dMake, makeG, PK.initD, iSeq, iDrop, iSet, iFld, dMeth, dIfE, isND, PK.isNon, oSome, oNone, HT.sIx]
  have s2 : lb2 (lsx A 2 k u (some (.fz (enc (.lift 1 [w, 0] m dd)))) x5 (some (.fz (.lst [.int 0, .int 0]))) x7 x8 x9 x10 x11 st) = some (.nx, lsx A 2 k u (some (.fz (enc (.lift 1 [w, 0] m dd)))) x5 (some (.fz (.lst [.int (w * a), .int (w * b)]))) (some (.fz (.int 0))) (some (.fz (.lst [.int c, .int e]))) x9 x10 x11 st) := by
    unfold lb2 lsx
    simp [fnD, sSeq, sSet, sDrop, sRet, sRetN, sIf, sAsg, sPar, sFor, forD, dC, dVar, dOp, der, ders, frz, frzs, dTup, dLst, aNil, aCons, aStar, PK.mk, dCB, PK.g1, PK.g2, lenD, absD, maxD, minD, PK.intD, listD, tupD, sumD, allD, intsD, bls, addD, subD, mulD, divD, modD, powD, cmpD, ixD, atI, ixN, dUn, negD, dB, truD, bNot, bAnd, bOr, bYes, dAndV, dOrV, dNotV, dChain, dFld, recvOk, dIsi, tyD, kitB, dCallN, callG, refs, renum, lives, PK.putAll, hNm, hSub, hNil, hCons, hTup, setIx, asgT, setAll, dMt, appD, extD, dLc, lcGo, wipeD, iSq, iRg1, iRg2, iZipD, iEnumD, iRevD, srcOf, rangeD, zipD, small, itemsD, List.range, List.range.loop, eqD_int, dSl, dRev, slD, cutD, okR, sNext, sNever, sBrk, sCnt, dMake, makeG, PK.initD, iSeq, iDrop, iSet, iFld, dMeth, dIfE, isND, PK.isNon, oSome, oNone, HT.sIx, enc, tupI, q1, q2, q3, q4, q5, q6, q7, q8, hk, CkOk, iZipWD, List.getElem?_set_self hlt, List.set_set, ku, k0, k1, k2, k3, k4, k5, k6, k7]
  rw [s0]
  unfold lbl
  rw [sSeq_nx s1, sSeq_nx s2]
  unfold lb3 lsx
  simp [fnD, sSeq, sSet, sDrop, sRet, sRetN, sIf, sAsg, sPar, sFor, forD, dC, dVar, dOp, der, ders, frz, frzs, dTup, dLst, aNil, aCons, aStar, PK.mk, dCB, PK.g1, PK.g2, lenD, absD, maxD, minD, PK.intD, listD, tupD, sumD, allD, intsD, bls, addD, subD, mulD, divD, modD, powD, cmpD, ixD, atI, ixN, dUn, negD, dB, truD, bNot, bAnd, bOr, bYes, dAndV, dOrV, dNotV, dChain, dFld, recvOk, dIsi, tyD, kitB, dCallN, callG, refs, renum, lives, PK.putAll, hNm, hSub, hNil, hCons, hTup, setIx, asgT, setAll, dMt, appD, extD, dLc, lcGo, wipeD, iSq, iRg1, iRg2, iZipD, iEnumD, iRevD, srcOf, rangeD, zipD, small, itemsD, List.range, List.range.loop, eqD_int, dSl, dRev, slD, cutD, okR, sNext, sNever, sBrk, sCnt, dMake, makeG, PK.initD, iSeq, iDrop, iSet, iFld, dMeth, dIfE, isND, PK.isNon, oSome, oNone, HT.sIx, enc, tupI, q1, q2, q3, q4, q5, q6, q7, q8, hk, CkOk, iZipWD, List.getElem?_set_self hlt, List.set_set, ku, k0, k1, k2, k3, k4, k5, k6, k7, sm, unit2, M.mul2, M.sc, mlist, M.rowD]
  all_goals omega
theorem d_l30 (w : Int) (v : Int) (m dd : Int) (hw : -6 ≤ w ∧ w ≤ 6) (hv : -6 ≤ v ∧ v ≤ 6) (h1 : 1 ≤ dd) (h2 : dd ≤ 12) (hk : st[k]? = some (mlist L)) (hq : M.Sq 3 L) (hb : ∀ r ∈ L, ∀ x ∈ r, x.natAbs < 2 ^ 200) (hu : u.natAbs < 2 ^ 200) : ∃ y6 y7 y8,
    lbd (lsx A 3 k u (some (.fz (enc (.lift 0 [0, w, v] m dd)))) x5 x6 x7 x8 x9 x10 x11 st) = some (.nx, lsx A 3 st.length (u * dd) (some (.fz (enc (.lift 0 [0, w, v] m dd)))) x5 y6 y7 y8 x9 x10 x11 (st ++ [mlist (M.mul 3 (sm 3 (.lift 0 [0, w, v] m dd)) L)])) := by
  obtain ⟨a, b, c, e, f, g, i, j, l, rfl⟩ := M.rows3 hq
  have hlt : k < st.length := (List.getElem?_eq_some_iff.mp hk).1
  simp only [mlist, List.map_cons, List.map_nil, M.rowD] at hk
  have ku : okMul u dd = true := ok200 hu (by omega)
  have ba : a.natAbs < 2 ^ 200 := hb [a, b, c] (by simp) a (by simp)
  have bb : b.natAbs < 2 ^ 200 := hb [a, b, c] (by simp) b (by simp)
  have bc : c.natAbs < 2 ^ 200 := hb [a, b, c] (by simp) c (by simp)
  have be : e.natAbs < 2 ^ 200 := hb [e, f, g] (by simp) e (by simp)
  have bf : f.natAbs < 2 ^ 200 := hb [e, f, g] (by simp) f (by simp)
  have bg : g.natAbs < 2 ^ 200 := hb [e, f, g] (by simp) g (by simp)
  have bi : i.natAbs < 2 ^ 200 := hb [i, j, l] (by simp) i (by simp)
  have bj : j.natAbs < 2 ^ 200 := hb [i, j, l] (by simp) j (by simp)
  have bl : l.natAbs < 2 ^ 200 := hb [i, j, l] (by simp) l (by simp)
  have k0 : okMul dd a = true := ok200 (by omega) ba
  have k1 : okMul 0 a = true := ok200 (by omega) ba
  have k2 : okMul dd b = true := ok200 (by omega) bb
  have k3 : okMul 0 b = true := ok200 (by omega) bb
  have k4 : okMul dd c = true := ok200 (by omega) bc
  have k5 : okMul 0 c = true := ok200 (by omega) bc
  have k6 : okMul dd e = true := ok200 (by omega) be
  have k7 : okMul w e = true := ok200 (by omega) be
  have k8 : okMul dd f = true := ok200 (by omega) bf
  have k9 : okMul w f = true := ok200 (by omega) bf
  have k10 : okMul dd g = true := ok200 (by omega) bg
  have k11 : okMul w g = true := ok200 (by omega) bg
  have k12 : okMul dd i = true := ok200 (by omega) bi
  have k13 : okMul v i = true := ok200 (by omega) bi
  have k14 : okMul dd j = true := ok200 (by omega) bj
  have k15 : okMul v j = true := ok200 (by omega) bj
  have k16 : okMul dd l = true := ok200 (by omega) bl
  have k17 : okMul v l = true := ok200 (by omega) bl
  refine ⟨some (.fz (.lst [.int (w * e + v * i), .int (w * f + v * j), .int (w * g + v * l)])), some (.fz (.int v)), some (.fz (.lst [.int i, .int j, .int l])), ?_⟩
  have s0 : lbd (lsx A 3 k u (some (.fz (enc (.lift 0 [0, w, v] m dd)))) x5 x6 x7 x8 x9 x10 x11 st) = lbl (lsx A 3 k u (some (.fz (enc (.lift 0 [0, w, v] m dd)))) x5 x6 x7 x8 x9 x10 x11 st) := by
    unfold lbd lsx
    simp [fnD, sSeq, sSet, sDrop, sRet, sRetN, sIf, sAsg, sPar, sFor, forD, dC, dVar, dOp, der, ders, frz, frzs, dTup, dLst, aNil, aCons, aStar, PK.mk, dCB, PK.g1, PK.g2, lenD, absD, maxD, minD, PK.intD, listD, tupD, sumD, allD, intsD, bls, addD, subD, mulD, divD, modD, powD, cmpD, ixD, atI, ixN, dUn, negD, dB, truD, bNot, bAnd, bOr, bYes, dAndV, dOrV, dNotV, dChain, dFld, recvOk, dIsi, tyD, kitB, dCallN, callG, refs, renum, lives, PK.putAll, hNm, hSub, hNil, hCons, hTup, setIx, asgT, setAll, dMt, appD, extD, dLc, lcGo, wipeD, iSq, iRg1, iRg2, iZipD, iEnumD, iRevD, srcOf, rangeD, zipD, small, itemsD, List.range, List.range.loop, eqD_int, dSl, dRev, slD, cutD, okR, sNext, sNever, sBrk, sCnt, dMake, makeG, PK.initD, iSeq, iDrop, iSet, iFld, dMeth, dIfE, isND, PK.isNon, oSome, oNone, HT.sIx, enc, q1, q2, q3, q4, q5, q6, q7, q8]
  have s1 : lb1 (lsx A 3 k u (some (.fz (enc (.lift 0 [0, w, v] m dd)))) x5 x6 x7 x8 x9 x10 x11 st) = some (.nx, lsx A 3 k u (some (.fz (enc (.lift 0 [0, w, v] m dd)))) x5 (some (.fz (.lst [.int 0, .int 0, .int 0]))) x7 x8 x9 x10 x11 st) := by
    unfold lb1 lsx
    simp [fnD, sSeq, sSet, sDrop, sRet, sRetN, sIf, sAsg, sPar, sFor, forD, dC, dVar, dOp, der, ders, frz, frzs, dTup, dLst, aNil, aCons, aStar, PK.mk, dCB, PK.g1, PK.g2, lenD, absD, maxD, minD, PK.intD, listD, tupD, sumD, allD, intsD, bls, addD, subD, mulD, divD, modD, powD, cmpD, ixD, atI, ixN, dUn, negD, dB, truD, bNot, bAnd, bOr, bYes, dAndV, dOrV, dNotV, dChain, dFld, recvOk, dIsi, tyD, kitB, dCallN, callG, refs, renum, lives, PK.putAll, hNm, hSub, hNil, hCons, hTup, setIx, asgT, setAll, dMt, appD, extD, dLc, lcGo, wipeD, iSq, iRg1, iRg2, iZipD, iEnumD, iRevD, srcOf, rangeD, zipD, small, itemsD, List.range, List.range.loop, eqD_int, dSl, dRev, slD, cutD, okR, sNext, sNever, sBrk, sCnt, dMake, makeG, PK.initD, iSeq, iDrop, iSet, iFld, dMeth, dIfE, isND, PK.isNon, oSome, oNone, HT.sIx]
  have s2 : lb2 (lsx A 3 k u (some (.fz (enc (.lift 0 [0, w, v] m dd)))) x5 (some (.fz (.lst [.int 0, .int 0, .int 0]))) x7 x8 x9 x10 x11 st) = some (.nx, lsx A 3 k u (some (.fz (enc (.lift 0 [0, w, v] m dd)))) x5 (some (.fz (.lst [.int (w * e + v * i), .int (w * f + v * j), .int (w * g + v * l)]))) (some (.fz (.int v))) (some (.fz (.lst [.int i, .int j, .int l]))) x9 x10 x11 st) := by
    unfold lb2 lsx
    simp [fnD, sSeq, sSet, sDrop, sRet, sRetN, sIf, sAsg, sPar, sFor, forD, dC, dVar, dOp, der, ders, frz, frzs, dTup, dLst, aNil, aCons, aStar, PK.mk, dCB, PK.g1, PK.g2, lenD, absD, maxD, minD, PK.intD, listD, tupD, sumD, allD, intsD, bls, addD, subD, mulD, divD, modD, powD, cmpD, ixD, atI, ixN, dUn, negD, dB, truD, bNot, bAnd, bOr, bYes, dAndV, dOrV, dNotV, dChain, dFld, recvOk, dIsi, tyD, kitB, dCallN, callG, refs, renum, lives, PK.putAll, hNm, hSub, hNil, hCons, hTup, setIx, asgT, setAll, dMt, appD, extD, dLc, lcGo, wipeD, iSq, iRg1, iRg2, iZipD, iEnumD, iRevD, srcOf, rangeD, zipD, small, itemsD, List.range, List.range.loop, eqD_int, dSl, dRev, slD, cutD, okR, sNext, sNever, sBrk, sCnt, dMake, makeG, PK.initD, iSeq, iDrop, iSet, iFld, dMeth, dIfE, isND, PK.isNon, oSome, oNone, HT.sIx, enc, tupI, q1, q2, q3, q4, q5, q6, q7, q8, hk, CkOk, iZipWD, List.getElem?_set_self hlt, List.set_set, ku, k0, k1, k2, k3, k4, k5, k6, k7, k8, k9, k10, k11, k12, k13, k14, k15, k16, k17]
  rw [s0]
  unfold lbl
  rw [sSeq_nx s1, sSeq_nx s2]
  unfold lb3 lsx
  simp [fnD, sSeq, sSet, sDrop, sRet, sRetN, sIf, sAsg, sPar, sFor, forD, dC, dVar, dOp, der, ders, frz, frzs, dTup, dLst, aNil, aCons, aStar, PK.mk, dCB, PK.g1, PK.g2, lenD, absD, maxD, minD, PK.intD, listD, tupD, sumD, allD, intsD, bls, addD, subD, mulD, divD, modD, powD, cmpD, ixD, atI, ixN, dUn, negD, dB, truD, bNot, bAnd, bOr, bYes, dAndV, dOrV, dNotV, dChain, dFld, recvOk, dIsi, tyD, kitB, dCallN, callG, refs, renum, lives, PK.putAll, hNm, hSub, hNil, hCons, hTup, setIx, asgT, setAll, dMt, appD, extD, dLc, lcGo, wipeD, iSq, iRg1, iRg2, iZipD, iEnumD, iRevD, srcOf, rangeD, zipD, small, itemsD, List.range, List.range.loop, eqD_int, dSl, dRev, slD, cutD, okR, sNext, sNever, sBrk, sCnt, dMake, makeG, PK.initD, iSeq, iDrop, iSet, iFld, dMeth, dIfE, isND, PK.isNon, oSome, oNone, HT.sIx, enc, tupI, q1, q2, q3, q4, q5, q6, q7, q8, hk, CkOk, iZipWD, List.getElem?_set_self hlt, List.set_set, ku, k0, k1, k2, k3, k4, k5, k6, k7, k8, k9, k10, k11, k12, k13, k14, k15, k16, k17, sm, unit3, M.mul3, M.sc, mlist, M.rowD]
  all_goals omega
theorem d_l31 (w : Int) (v : Int) (m dd : Int) (hw : -6 ≤ w ∧ w ≤ 6) (hv : -6 ≤ v ∧ v ≤ 6) (h1 : 1 ≤ dd) (h2 : dd ≤ 12) (hk : st[k]? = some (mlist L)) (hq : M.Sq 3 L) (hb : ∀ r ∈ L, ∀ x ∈ r, x.natAbs < 2 ^ 200) (hu : u.natAbs < 2 ^ 200) : ∃ y6 y7 y8,
    lbd (lsx A 3 k u (some (.fz (enc (.lift 1 [w, 0, v] m dd)))) x5 x6 x7 x8 x9 x10 x11 st) = some (.nx, lsx A 3 st.length (u * dd) (some (.fz (enc (.lift 1 [w, 0, v] m dd)))) x5 y6 y7 y8 x9 x10 x11 (st ++ [mlist (M.mul 3 (sm 3 (.lift 1 [w, 0, v] m dd)) L)])) := by
  obtain ⟨a, b, c, e, f, g, i, j, l, rfl⟩ := M.rows3 hq
  have hlt : k < st.length := (List.getElem?_eq_some_iff.mp hk).1
  simp only [mlist, List.map_cons, List.map_nil, M.rowD] at hk
  have ku : okMul u dd = true := ok200 hu (by omega)
  have ba : a.natAbs < 2 ^ 200 := hb [a, b, c] (by simp) a (by simp)
  have bb : b.natAbs < 2 ^ 200 := hb [a, b, c] (by simp) b (by simp)
  have bc : c.natAbs < 2 ^ 200 := hb [a, b, c] (by simp) c (by simp)
  have be : e.natAbs < 2 ^ 200 := hb [e, f, g] (by simp) e (by simp)
  have bf : f.natAbs < 2 ^ 200 := hb [e, f, g] (by simp) f (by simp)
  have bg : g.natAbs < 2 ^ 200 := hb [e, f, g] (by simp) g (by simp)
  have bi : i.natAbs < 2 ^ 200 := hb [i, j, l] (by simp) i (by simp)
  have bj : j.natAbs < 2 ^ 200 := hb [i, j, l] (by simp) j (by simp)
  have bl : l.natAbs < 2 ^ 200 := hb [i, j, l] (by simp) l (by simp)
  have k0 : okMul dd a = true := ok200 (by omega) ba
  have k1 : okMul w a = true := ok200 (by omega) ba
  have k2 : okMul dd b = true := ok200 (by omega) bb
  have k3 : okMul w b = true := ok200 (by omega) bb
  have k4 : okMul dd c = true := ok200 (by omega) bc
  have k5 : okMul w c = true := ok200 (by omega) bc
  have k6 : okMul dd e = true := ok200 (by omega) be
  have k7 : okMul 0 e = true := ok200 (by omega) be
  have k8 : okMul dd f = true := ok200 (by omega) bf
  have k9 : okMul 0 f = true := ok200 (by omega) bf
  have k10 : okMul dd g = true := ok200 (by omega) bg
  have k11 : okMul 0 g = true := ok200 (by omega) bg
  have k12 : okMul dd i = true := ok200 (by omega) bi
  have k13 : okMul v i = true := ok200 (by omega) bi
  have k14 : okMul dd j = true := ok200 (by omega) bj
  have k15 : okMul v j = true := ok200 (by omega) bj
  have k16 : okMul dd l = true := ok200 (by omega) bl
  have k17 : okMul v l = true := ok200 (by omega) bl
  refine ⟨some (.fz (.lst [.int (w * a + v * i), .int (w * b + v * j), .int (w * c + v * l)])), some (.fz (.int v)), some (.fz (.lst [.int i, .int j, .int l])), ?_⟩
  have s0 : lbd (lsx A 3 k u (some (.fz (enc (.lift 1 [w, 0, v] m dd)))) x5 x6 x7 x8 x9 x10 x11 st) = lbl (lsx A 3 k u (some (.fz (enc (.lift 1 [w, 0, v] m dd)))) x5 x6 x7 x8 x9 x10 x11 st) := by
    unfold lbd lsx
    simp [fnD, sSeq, sSet, sDrop, sRet, sRetN, sIf, sAsg, sPar, sFor, forD, dC, dVar, dOp, der, ders, frz, frzs, dTup, dLst, aNil, aCons, aStar, PK.mk, dCB, PK.g1, PK.g2, lenD, absD, maxD, minD, PK.intD, listD, tupD, sumD, allD, intsD, bls, addD, subD, mulD, divD, modD, powD, cmpD, ixD, atI, ixN, dUn, negD, dB, truD, bNot, bAnd, bOr, bYes, dAndV, dOrV, dNotV, dChain, dFld, recvOk, dIsi, tyD, kitB, dCallN, callG, refs, renum, lives, PK.putAll, hNm, hSub, hNil, hCons, hTup, setIx, asgT, setAll, dMt, appD, extD, dLc, lcGo, wipeD, iSq, iRg1, iRg2, iZipD, iEnumD, iRevD, srcOf, rangeD, zipD, small, itemsD, List.range, List.range.loop, eqD_int, dSl, dRev, slD, cutD, okR, sNext, sNever, sBrk, sCnt, dMake, makeG, PK.initD, iSeq, iDrop, iSet, iFld, dMeth, dIfE, isND, PK.isNon, oSome, oNone, HT.sIx, enc, q1, q2, q3, q4, q5, q6, q7, q8]
  have s1 : lb1 (lsx A 3 k u (some (.fz (enc (.lift 1 [w, 0, v] m dd)))) x5 x6 x7 x8 x9 x10 x11 st) = some (.nx, lsx A 3 k u (some (.fz (enc (.lift 1 [w, 0, v] m dd)))) x5 (some (.fz (.lst [.int 0, .int 0, .int 0]))) x7 x8 x9 x10 x11 st) := by
    unfold lb1 lsx
    simp [fnD, sSeq, sSet, sDrop, sRet, sRetN, sIf, sAsg, sPar, sFor, forD, dC, dVar, dOp, der, ders, frz, frzs, dTup, dLst, aNil, aCons, aStar, PK.mk, dCB, PK.g1, PK.g2, lenD, absD, maxD, minD, PK.intD, listD, tupD, sumD, allD, intsD, bls, addD, subD, mulD, divD, modD, powD, cmpD, ixD, atI, ixN, dUn, negD, dB, truD, bNot, bAnd, bOr, bYes, dAndV, dOrV, dNotV, dChain, dFld, recvOk, dIsi, tyD, kitB, dCallN, callG, refs, renum, lives, PK.putAll, hNm, hSub, hNil, hCons, hTup, setIx, asgT, setAll, dMt, appD, extD, dLc, lcGo, wipeD, iSq, iRg1, iRg2, iZipD, iEnumD, iRevD, srcOf, rangeD, zipD, small, itemsD, List.range, List.range.loop, eqD_int, dSl, dRev, slD, cutD, okR, sNext, sNever, sBrk, sCnt, dMake, makeG, PK.initD, iSeq, iDrop, iSet, iFld, dMeth, dIfE, isND, PK.isNon, oSome, oNone, HT.sIx]
  have s2 : lb2 (lsx A 3 k u (some (.fz (enc (.lift 1 [w, 0, v] m dd)))) x5 (some (.fz (.lst [.int 0, .int 0, .int 0]))) x7 x8 x9 x10 x11 st) = some (.nx, lsx A 3 k u (some (.fz (enc (.lift 1 [w, 0, v] m dd)))) x5 (some (.fz (.lst [.int (w * a + v * i), .int (w * b + v * j), .int (w * c + v * l)]))) (some (.fz (.int v))) (some (.fz (.lst [.int i, .int j, .int l]))) x9 x10 x11 st) := by
    unfold lb2 lsx
    simp [fnD, sSeq, sSet, sDrop, sRet, sRetN, sIf, sAsg, sPar, sFor, forD, dC, dVar, dOp, der, ders, frz, frzs, dTup, dLst, aNil, aCons, aStar, PK.mk, dCB, PK.g1, PK.g2, lenD, absD, maxD, minD, PK.intD, listD, tupD, sumD, allD, intsD, bls, addD, subD, mulD, divD, modD, powD, cmpD, ixD, atI, ixN, dUn, negD, dB, truD, bNot, bAnd, bOr, bYes, dAndV, dOrV, dNotV, dChain, dFld, recvOk, dIsi, tyD, kitB, dCallN, callG, refs, renum, lives, PK.putAll, hNm, hSub, hNil, hCons, hTup, setIx, asgT, setAll, dMt, appD, extD, dLc, lcGo, wipeD, iSq, iRg1, iRg2, iZipD, iEnumD, iRevD, srcOf, rangeD, zipD, small, itemsD, List.range, List.range.loop, eqD_int, dSl, dRev, slD, cutD, okR, sNext, sNever, sBrk, sCnt, dMake, makeG, PK.initD, iSeq, iDrop, iSet, iFld, dMeth, dIfE, isND, PK.isNon, oSome, oNone, HT.sIx, enc, tupI, q1, q2, q3, q4, q5, q6, q7, q8, hk, CkOk, iZipWD, List.getElem?_set_self hlt, List.set_set, ku, k0, k1, k2, k3, k4, k5, k6, k7, k8, k9, k10, k11, k12, k13, k14, k15, k16, k17]
  rw [s0]
  unfold lbl
  rw [sSeq_nx s1, sSeq_nx s2]
  unfold lb3 lsx
  simp [fnD, sSeq, sSet, sDrop, sRet, sRetN, sIf, sAsg, sPar, sFor, forD, dC, dVar, dOp, der, ders, frz, frzs, dTup, dLst, aNil, aCons, aStar, PK.mk, dCB, PK.g1, PK.g2, lenD, absD, maxD, minD, PK.intD, listD, tupD, sumD, allD, intsD, bls, addD, subD, mulD, divD, modD, powD, cmpD, ixD, atI, ixN, dUn, negD, dB, truD, bNot, bAnd, bOr, bYes, dAndV, dOrV, dNotV, dChain, dFld, recvOk, dIsi, tyD, kitB, dCallN, callG, refs, renum, lives, PK.putAll, hNm, hSub, hNil, hCons, hTup, setIx, asgT, setAll, dMt, appD, extD, dLc, lcGo, wipeD, iSq, iRg1, iRg2, iZipD, iEnumD, iRevD, srcOf, rangeD, zipD, small, itemsD, List.range, List.range.loop, eqD_int, dSl, dRev, slD, cutD, okR, sNext, sNever, sBrk, sCnt, dMake, makeG, PK.initD, iSeq, iDrop, iSet, iFld, dMeth, dIfE, isND, PK.isNon, oSome, oNone, HT.sIx, enc, tupI, q1, q2, q3, q4, q5, q6, q7, q8, hk, CkOk, iZipWD, List.getElem?_set_self hlt, List.set_set, ku, k0, k1, k2, k3, k4, k5, k6, k7, k8, k9, k10, k11, k12, k13, k14, k15, k16, k17, sm, unit3, M.mul3, M.sc, mlist, M.rowD]
  all_goals omega
theorem d_l32 (w : Int) (v : Int) (m dd : Int) (hw : -6 ≤ w ∧ w ≤ 6) (hv : -6 ≤ v ∧ v ≤ 6) (h1 : 1 ≤ dd) (h2 : dd ≤ 12) (hk : st[k]? = some (mlist L)) (hq : M.Sq 3 L) (hb : ∀ r ∈ L, ∀ x ∈ r, x.natAbs < 2 ^ 200) (hu : u.natAbs < 2 ^ 200) : ∃ y6 y7 y8,
    lbd (lsx A 3 k u (some (.fz (enc (.lift 2 [w, v, 0] m dd)))) x5 x6 x7 x8 x9 x10 x11 st) = some (.nx, lsx A 3 st.length (u * dd) (some (.fz (enc (.lift 2 [w, v, 0] m dd)))) x5 y6 y7 y8 x9 x10 x11 (st ++ [mlist (M.mul 3 (sm 3 (.lift 2 [w, v, 0] m dd)) L)])) := by
  obtain ⟨a, b, c, e, f, g, i, j, l, rfl⟩ := M.rows3 hq
  have hlt : k < st.length := (List.getElem?_eq_some_iff.mp hk).1
  simp only [mlist, List.map_cons, List.map_nil, M.rowD] at hk
  have ku : okMul u dd = true := ok200 hu (by omega)
  have ba : a.natAbs < 2 ^ 200 := hb [a, b, c] (by simp) a (by simp)
  have bb : b.natAbs < 2 ^ 200 := hb [a, b, c] (by simp) b (by simp)
  have bc : c.natAbs < 2 ^ 200 := hb [a, b, c] (by simp) c (by simp)
  have be : e.natAbs < 2 ^ 200 := hb [e, f, g] (by simp) e (by simp)
  have bf : f.natAbs < 2 ^ 200 := hb [e, f, g] (by simp) f (by simp)
  have bg : g.natAbs < 2 ^ 200 := hb [e, f, g] (by simp) g (by simp)
  have bi : i.natAbs < 2 ^ 200 := hb [i, j, l] (by simp) i (by simp)
  have bj : j.natAbs < 2 ^ 200 := hb [i, j, l] (by simp) j (by simp)
  have bl : l.natAbs < 2 ^ 200 := hb [i, j, l] (by simp) l (by simp)
  have k0 : okMul dd a = true := ok200 (by omega) ba
  have k1 : okMul w a = true := ok200 (by omega) ba
  have k2 : okMul dd b = true := ok200 (by omega) bb
  have k3 : okMul w b = true := ok200 (by omega) bb
  have k4 : okMul dd c = true := ok200 (by omega) bc
  have k5 : okMul w c = true := ok200 (by omega) bc
  have k6 : okMul dd e = true := ok200 (by omega) be
  have k7 : okMul v e = true := ok200 (by omega) be
  have k8 : okMul dd f = true := ok200 (by omega) bf
  have k9 : okMul v f = true := ok200 (by omega) bf
  have k10 : okMul dd g = true := ok200 (by omega) bg
  have k11 : okMul v g = true := ok200 (by omega) bg
  have k12 : okMul dd i = true := ok200 (by omega) bi
  have k13 : okMul 0 i = true := ok200 (by omega) bi
  have k14 : okMul dd j = true := ok200 (by omega) bj
  have k15 : okMul 0 j = true := ok200 (by omega) bj
  have k16 : okMul dd l = true := ok200 (by omega) bl
  have k17 : okMul 0 l = true := ok200 (by omega) bl
  refine ⟨some (.fz (.lst [.int (w * a + v * e), .int (w * b + v * f), .int (w * c + v * g)])), some (.fz (.int 0)), some (.fz (.lst [.int i, .int j, .int l])), ?_⟩
  have s0 : lbd (lsx A 3 k u (some (.fz (enc (.lift 2 [w, v, 0] m dd)))) x5 x6 x7 x8 x9 x10 x11 st) = lbl (lsx A 3 k u (some (.fz (enc (.lift 2 [w, v, 0] m dd)))) x5 x6 x7 x8 x9 x10 x11 st) := by
    unfold lbd lsx
    simp [fnD, sSeq, sSet, sDrop, sRet, sRetN, sIf, sAsg, sPar, sFor, forD, dC, dVar, dOp, der, ders, frz, frzs, dTup, dLst, aNil, aCons, aStar, PK.mk, dCB, PK.g1, PK.g2, lenD, absD, maxD, minD, PK.intD, listD, tupD, sumD, allD, intsD, bls, addD, subD, mulD, divD, modD, powD, cmpD, ixD, atI, ixN, dUn, negD, dB, truD, bNot, bAnd, bOr, bYes, dAndV, dOrV, dNotV, dChain, dFld, recvOk, dIsi, tyD, kitB, dCallN, callG, refs, renum, lives, PK.putAll, hNm, hSub, hNil, hCons, hTup, setIx, asgT, setAll, dMt, appD, extD, dLc, lcGo, wipeD, iSq, iRg1, iRg2, iZipD, iEnumD, iRevD, srcOf, rangeD, zipD, small, itemsD, List.range, List.range.loop, eqD_int, dSl, dRev, slD, cutD, okR, sNext, sNever, sBrk, sCnt, dMake, makeG, PK.initD, iSeq, iDrop, iSet, iFld, dMeth, dIfE, isND, PK.isNon, oSome, oNone, HT.sIx, enc, q1, q2, q3, q4, q5, q6, q7, q8]
  have s1 : lb1 (lsx A 3 k u (some (.fz (enc (.lift 2 [w, v, 0] m dd)))) x5 x6 x7 x8 x9 x10 x11 st) = some (.nx, lsx A 3 k u (some (.fz (enc (.lift 2 [w, v, 0] m dd)))) x5 (some (.fz (.lst [.int 0, .int 0, .int 0]))) x7 x8 x9 x10 x11 st) := by
    unfold lb1 lsx
    simp [fnD, sSeq, sSet, sDrop, sRet, sRetN, sIf, sAsg, sPar, sFor, forD, dC, dVar, dOp, der, ders, frz, frzs, dTup, dLst, aNil, aCons, aStar, PK.mk, dCB, PK.g1, PK.g2, lenD, absD, maxD, minD, PK.intD, listD, tupD, sumD, allD, intsD, bls, addD, subD, mulD, divD, modD, powD, cmpD, ixD, atI, ixN, dUn, negD, dB, truD, bNot, bAnd, bOr, bYes, dAndV, dOrV, dNotV, dChain, dFld, recvOk, dIsi, tyD, kitB, dCallN, callG, refs, renum, lives, PK.putAll, hNm, hSub, hNil, hCons, hTup, setIx, asgT, setAll, dMt, appD, extD, dLc, lcGo, wipeD, iSq, iRg1, iRg2, iZipD, iEnumD, iRevD, srcOf, rangeD, zipD, small, itemsD, List.range, List.range.loop, eqD_int, dSl, dRev, slD, cutD, okR, sNext, sNever, sBrk, sCnt, dMake, makeG, PK.initD, iSeq, iDrop, iSet, iFld, dMeth, dIfE, isND, PK.isNon, oSome, oNone, HT.sIx]
  have s2 : lb2 (lsx A 3 k u (some (.fz (enc (.lift 2 [w, v, 0] m dd)))) x5 (some (.fz (.lst [.int 0, .int 0, .int 0]))) x7 x8 x9 x10 x11 st) = some (.nx, lsx A 3 k u (some (.fz (enc (.lift 2 [w, v, 0] m dd)))) x5 (some (.fz (.lst [.int (w * a + v * e), .int (w * b + v * f), .int (w * c + v * g)]))) (some (.fz (.int 0))) (some (.fz (.lst [.int i, .int j, .int l]))) x9 x10 x11 st) := by
    unfold lb2 lsx
    simp [fnD, sSeq, sSet, sDrop, sRet, sRetN, sIf, sAsg, sPar, sFor, forD, dC, dVar, dOp, der, ders, frz, frzs, dTup, dLst, aNil, aCons, aStar, PK.mk, dCB, PK.g1, PK.g2, lenD, absD, maxD, minD, PK.intD, listD, tupD, sumD, allD, intsD, bls, addD, subD, mulD, divD, modD, powD, cmpD, ixD, atI, ixN, dUn, negD, dB, truD, bNot, bAnd, bOr, bYes, dAndV, dOrV, dNotV, dChain, dFld, recvOk, dIsi, tyD, kitB, dCallN, callG, refs, renum, lives, PK.putAll, hNm, hSub, hNil, hCons, hTup, setIx, asgT, setAll, dMt, appD, extD, dLc, lcGo, wipeD, iSq, iRg1, iRg2, iZipD, iEnumD, iRevD, srcOf, rangeD, zipD, small, itemsD, List.range, List.range.loop, eqD_int, dSl, dRev, slD, cutD, okR, sNext, sNever, sBrk, sCnt, dMake, makeG, PK.initD, iSeq, iDrop, iSet, iFld, dMeth, dIfE, isND, PK.isNon, oSome, oNone, HT.sIx, enc, tupI, q1, q2, q3, q4, q5, q6, q7, q8, hk, CkOk, iZipWD, List.getElem?_set_self hlt, List.set_set, ku, k0, k1, k2, k3, k4, k5, k6, k7, k8, k9, k10, k11, k12, k13, k14, k15, k16, k17]
  rw [s0]
  unfold lbl
  rw [sSeq_nx s1, sSeq_nx s2]
  unfold lb3 lsx
  simp [fnD, sSeq, sSet, sDrop, sRet, sRetN, sIf, sAsg, sPar, sFor, forD, dC, dVar, dOp, der, ders, frz, frzs, dTup, dLst, aNil, aCons, aStar, PK.mk, dCB, PK.g1, PK.g2, lenD, absD, maxD, minD, PK.intD, listD, tupD, sumD, allD, intsD, bls, addD, subD, mulD, divD, modD, powD, cmpD, ixD, atI, ixN, dUn, negD, dB, truD, bNot, bAnd, bOr, bYes, dAndV, dOrV, dNotV, dChain, dFld, recvOk, dIsi, tyD, kitB, dCallN, callG, refs, renum, lives, PK.putAll, hNm, hSub, hNil, hCons, hTup, setIx, asgT, setAll, dMt, appD, extD, dLc, lcGo, wipeD, iSq, iRg1, iRg2, iZipD, iEnumD, iRevD, srcOf, rangeD, zipD, small, itemsD, List.range, List.range.loop, eqD_int, dSl, dRev, slD, cutD, okR, sNext, sNever, sBrk, sCnt, dMake, makeG, PK.initD, iSeq, iDrop, iSet, iFld, dMeth, dIfE, isND, PK.isNon, oSome, oNone, HT.sIx, enc, tupI, q1, q2, q3, q4, q5, q6, q7, q8, hk, CkOk, iZipWD, List.getElem?_set_self hlt, List.set_set, ku, k0, k1, k2, k3, k4, k5, k6, k7, k8, k9, k10, k11, k12, k13, k14, k15, k16, k17, sm, unit3, M.mul3, M.sc, mlist, M.rowD]
  all_goals omega
end
end K12

set_option maxHeartbeats 0
namespace K12
open PySem L2 PK
theorem nl_lift {s : S} (h : nl s = false) : ∃ c ws m d, s = .lift c ws m d := by
  cases s with
  | lift c ws m d => exact ⟨c, ws, m, d, rfl⟩
  | swap i j => cases h
  | turn i => cases h
section
variable {A : D} {n : Nat} {x5 x9 x10 x11 : Option Vl}
theorem d_step {k : Nat} {u : Int} {x6 x7 x8 : Option Vl} {st : List (Option (List D))} {L : List (List Int)} {s : S} (hn : n = 2 ∨ n = 3) (h : Ok n s) (hk : st[k]? = some (mlist L)) (hq : M.Sq n L) (hb : ∀ r ∈ L, ∀ x ∈ r, x.natAbs < 2 ^ 200) (hu : u.natAbs < 2 ^ 200) :
    ∃ k' y6 y7 y8 st', lbd (lsx A n k u (some (.fz (enc s))) x5 x6 x7 x8 x9 x10 x11 st) = some (.nx, lsx A n k' (u * dv s) (some (.fz (enc s))) x5 y6 y7 y8 x9 x10 x11 st') ∧ st'[k']? = some (mlist (M.mul n (sm n s) L)) := by
  cases hs : nl s with
  | true =>
    have e := d_plain (A := A) (u := u) (x5 := x5) (x6 := x6) (x7 := x7) (x8 := x8) (x9 := x9) (x10 := x10) (x11 := x11) hn h hs hk hq
    have d1 : u * dv s = u := by
      cases s with
      | lift c ws m d => cases hs
      | swap i j => simp [dv]
      | turn i => simp [dv]
    exact ⟨k, x6, x7, x8, _, by rw [d1]; exact e, List.getElem?_set_self (List.getElem?_eq_some_iff.mp hk).1⟩
  | false =>
    have key : ∀ y6 y7 y8, lbd (lsx A n k u (some (.fz (enc s))) x5 x6 x7 x8 x9 x10 x11 st) = some (.nx, lsx A n st.length (u * dv s) (some (.fz (enc s))) x5 y6 y7 y8 x9 x10 x11 (st ++ [mlist (M.mul n (sm n s) L)])) → ∃ k' y6 y7 y8 st', lbd (lsx A n k u (some (.fz (enc s))) x5 x6 x7 x8 x9 x10 x11 st) = some (.nx, lsx A n k' (u * dv s) (some (.fz (enc s))) x5 y6 y7 y8 x9 x10 x11 st') ∧ st'[k']? = some (mlist (M.mul n (sm n s) L)) := fun y6 y7 y8 e => ⟨_, y6, y7, y8, _, e, by simp⟩
    revert key hs hq
    refine st_cases (P := fun n s => M.Sq n L → nl s = false → (∀ y6 y7 y8, lbd (lsx A n k u (some (.fz (enc s))) x5 x6 x7 x8 x9 x10 x11 st) = some (.nx, lsx A n st.length (u * dv s) (some (.fz (enc s))) x5 y6 y7 y8 x9 x10 x11 (st ++ [mlist (M.mul n (sm n s) L)])) → ∃ k' y6 y7 y8 st', lbd (lsx A n k u (some (.fz (enc s))) x5 x6 x7 x8 x9 x10 x11 st) = some (.nx, lsx A n k' (u * dv s) (some (.fz (enc s))) x5 y6 y7 y8 x9 x10 x11 st') ∧ st'[k']? = some (mlist (M.mul n (sm n s) L))) → ∃ k' y6 y7 y8 st', lbd (lsx A n k u (some (.fz (enc s))) x5 x6 x7 x8 x9 x10 x11 st) = some (.nx, lsx A n k' (u * dv s) (some (.fz (enc s))) x5 y6 y7 y8 x9 x10 x11 st') ∧ st'[k']? = some (mlist (M.mul n (sm n s) L))) hn h ?_ ?_ ?_ ?_ ?_ ?_ ?_ ?_ ?_ ?_ ?_ ?_ ?_ ?_
    · intro w m d hw h1 h2 hq hs key
      obtain ⟨y6, y7, y8, e⟩ := d_l20 w m d hw h1 h2 hk hq hb hu
      exact key y6 y7 y8 e
    · intro w m d hw h1 h2 hq hs key
      obtain ⟨y6, y7, y8, e⟩ := d_l21 w m d hw h1 h2 hk hq hb hu
      exact key y6 y7 y8 e
    · intro hq hs; cases hs
    · intro hq hs; cases hs
    · intro hq hs; cases hs
    · intro w v m d hw hv h1 h2 hq hs key
      obtain ⟨y6, y7, y8, e⟩ := d_l30 w v m d hw hv h1 h2 hk hq hb hu
      exact key y6 y7 y8 e
    · intro w v m d hw hv h1 h2 hq hs key
      obtain ⟨y6, y7, y8, e⟩ := d_l31 w v m d hw hv h1 h2 hk hq hb hu
      exact key y6 y7 y8 e
    · intro w v m d hw hv h1 h2 hq hs key
      obtain ⟨y6, y7, y8, e⟩ := d_l32 w v m d hw hv h1 h2 hk hq hb hu
      exact key y6 y7 y8 e
    all_goals (intro hq hs; cases hs)
theorem Pm_snoc (hn : n = 2 ∨ n = 3) {done : List S} {s : S} (h : Oks n done) (g : Ok n s) : Pm n (done ++ [s]) = M.mul n (sm n s) (Pm n done) := by
  rw [Pm_app hn h (fun x hx => by rw [List.mem_singleton.mp hx]; exact g), Pm_one hn g]
theorem gd_snoc {done : List S} {s : S} : gd (done ++ [s]) = gd done * dv s := by
  rw [gd_app]; simp [gd]
theorem d_lines (hn : n = 2 ∨ n = 3) : ∀ (rest done : List S) (k : Nat) (x4 x6 x7 x8 : Option Vl) (st : List (Option (List D))), Oks n done → Oks n rest → done.length + rest.length ≤ 24 → st[k]? = some (mlist (Pm n done)) →
    ∃ k' y4 y6 y7 y8 st', forD [] (.nm 4) lbd (encs rest) (lsx A n k (gd done) x4 x5 x6 x7 x8 x9 x10 x11 st) = some (.nx, lsx A n k' (gd (done ++ rest)) y4 x5 y6 y7 y8 x9 x10 x11 st') ∧ st'[k']? = some (mlist (Pm n (done ++ rest)))
  | [], done, k, x4, x6, x7, x8, st, a, b, c, hk => ⟨k, x4, x6, x7, x8, st, by rw [List.append_nil]; exact forD_nil0, by rw [List.append_nil]; exact hk⟩
  | s :: rest, done, k, x4, x6, x7, x8, st, a, b, c, hk => by
    rw [List.length_cons] at c
    have hb : ∀ r ∈ Pm n done, ∀ x ∈ r, x.natAbs < 2 ^ 200 := fun r hr x hx => M.pup (sms_Pm hn a r hr x hx) (by omega)
    have hu : (gd done).natAbs < 2 ^ 200 := M.pup (gd_pos a).2 (by omega)
    obtain ⟨k1, y6, y7, y8, st1, e, hk1⟩ := d_step (A := A) (x5 := x5) (x6 := x6) (x7 := x7) (x8 := x8) (x9 := x9) (x10 := x10) (x11 := x11) hn b.hd hk (sq_Pm hn a) hb hu
    rw [← Pm_snoc hn a b.hd] at hk1
    rw [← gd_snoc] at e
    obtain ⟨k2, z4, z6, z7, z8, st2, ih, hk2⟩ := d_lines hn rest (done ++ [s]) k1 (some (.fz (enc s))) y6 y7 y8 st1 (a.app fun x hx => by rw [List.mem_singleton.mp hx]; exact b.hd) b.tl (by simp; omega) hk1
    rw [List.append_assoc, List.singleton_append] at ih hk2
    exact ⟨k2, z4, z6, z7, z8, st2, forD_nm e ih, hk2⟩
end
theorem g_law_linear {n : Nat} {ss : List S} (hn : n = 2 ∨ n = 3) (h : Oks n ss) (hl : ss.length ≤ 24) : G_law_linear [.fz (.lst (encs ss)), .fz (.int n)] [] = some (.fresh [M.mD (Pm n ss), .int (gd ss)], []) := by
  have o : Oks n [] := fun s hs => by cases hs
  obtain ⟨k, y4, y6, y7, y8, st, e, hk⟩ := d_lines (A := .lst (encs ss)) (x5 := none) (x9 := none) (x10 := none) (x11 := none) hn ss [] 0 none none none none [mlist (Pm n [])] o h (by simpa using hl) rfl
  rw [List.nil_append] at e hk
  have s1 : sPar [2, 3] (aCons (dLc true (iRg1 (dVar 1)) (.nm 5) [5] bYes (dLc false (iRg1 (dVar 1)) (.nm 9) [9] bYes (dCB intD (aCons (dOp (eqD false) (dVar 5) (dVar 9)) aNil)))) (aCons (dC (.int 1)) aNil)) ⟨[some (.fz (.lst (encs ss))), some (.fz (.int n)), none, none, none, none, none, none, none, none, none, none], []⟩ = some (.nx, lsx (.lst (encs ss)) n 0 (gd []) none none none none none none none none [mlist (Pm n [])]) := by
    rcases hn with rfl | rfl
    · simp [fnD, sSeq, sSet, sDrop, sRet, sRetN, sIf, sAsg, sPar, sFor, forD, dC, dVar, dOp, der, ders, frz, frzs, dTup, dLst, aNil, aCons, aStar, PK.mk, dCB, PK.g1, PK.g2, lenD, absD, maxD, minD, PK.intD, listD, tupD, sumD, allD, intsD, bls, addD, subD, mulD, divD, modD, powD, cmpD, ixD, atI, ixN, dUn, negD, dB, truD, bNot, bAnd, bOr, bYes, dAndV, dOrV, dNotV, dChain, dFld, recvOk, dIsi, tyD, kitB, dCallN, callG, refs, renum, lives, PK.putAll, hNm, hSub, hNil, hCons, hTup, setIx, asgT, setAll, dMt, appD, extD, dLc, lcGo, wipeD, iSq, iRg1, iRg2, iZipD, iEnumD, iRevD, srcOf, rangeD, zipD, small, itemsD, List.range, List.range.loop, eqD_int, dSl, dRev, slD, cutD, okR, sNext, sNever, sBrk, sCnt, dMake, makeG, PK.initD, iSeq, iDrop, iSet, iFld, dMeth, dIfE, isND, PK.isNon, oSome, oNone, HT.sIx, lsx, mlist, Pm, unit2, gd, M.rowD]
    · simp [fnD, sSeq, sSet, sDrop, sRet, sRetN, sIf, sAsg, sPar, sFor, forD, dC, dVar, dOp, der, ders, frz, frzs, dTup, dLst, aNil, aCons, aStar, PK.mk, dCB, PK.g1, PK.g2, lenD, absD, maxD, minD, PK.intD, listD, tupD, sumD, allD, intsD, bls, addD, subD, mulD, divD, modD, powD, cmpD, ixD, atI, ixN, dUn, negD, dB, truD, bNot, bAnd, bOr, bYes, dAndV, dOrV, dNotV, dChain, dFld, recvOk, dIsi, tyD, kitB, dCallN, callG, refs, renum, lives, PK.putAll, hNm, hSub, hNil, hCons, hTup, setIx, asgT, setAll, dMt, appD, extD, dLc, lcGo, wipeD, iSq, iRg1, iRg2, iZipD, iEnumD, iRevD, srcOf, rangeD, zipD, small, itemsD, List.range, List.range.loop, eqD_int, dSl, dRev, slD, cutD, okR, sNext, sNever, sBrk, sCnt, dMake, makeG, PK.initD, iSeq, iDrop, iSet, iFld, dMeth, dIfE, isND, PK.isNon, oSome, oNone, HT.sIx, lsx, mlist, Pm, unit3, gd, M.rowD]
  have s2 : sFor (iSq (dVar 0)) (.nm 4) lbd (lsx (.lst (encs ss)) n 0 (gd []) none none none none none none none none [mlist (Pm n [])]) = some (.nx, lsx (.lst (encs ss)) n k (gd ss) y4 none y6 y7 y8 none none none st) := by
    rw [sFor]
    exact e
  unfold G_law_linear fnD
  rw [f_linear_eq2]
  show ((sSeq _ _ ⟨[some (.fz (.lst (encs ss))), some (.fz (.int n)), none, none, none, none, none, none, none, none, none, none], []⟩).bind _) = _
  rw [sSeq_nx s1, sSeq_nx s2]
  simp only [mlist] at hk
  simp [fnD, sSeq, sSet, sDrop, sRet, sRetN, sIf, sAsg, sPar, sFor, forD, dC, dVar, dOp, der, ders, frz, frzs, dTup, dLst, aNil, aCons, aStar, PK.mk, dCB, PK.g1, PK.g2, lenD, absD, maxD, minD, PK.intD, listD, tupD, sumD, allD, intsD, bls, addD, subD, mulD, divD, modD, powD, cmpD, ixD, atI, ixN, dUn, negD, dB, truD, bNot, bAnd, bOr, bYes, dAndV, dOrV, dNotV, dChain, dFld, recvOk, dIsi, tyD, kitB, dCallN, callG, refs, renum, lives, PK.putAll, hNm, hSub, hNil, hCons, hTup, setIx, asgT, setAll, dMt, appD, extD, dLc, lcGo, wipeD, iSq, iRg1, iRg2, iZipD, iEnumD, iRevD, srcOf, rangeD, zipD, small, itemsD, List.range, List.range.loop, eqD_int, dSl, dRev, slD, cutD, okR, sNext, sNever, sBrk, sCnt, dMake, makeG, PK.initD, iSeq, iDrop, iSet, iFld, dMeth, dIfE, isND, PK.isNon, oSome, oNone, HT.sIx, lsx, hk, M.mD]
end K12

set_option maxHeartbeats 0
namespace K12
open PySem L2 PK
/-! ### sums of vectors -/
def vadd (a b : List Int) : List Int := List.zipWith (· + ·) a b
theorem vadd_len {a b : List Int} (h : a.length = b.length) : (vadd a b).length = a.length := by simp [vadd, h]
theorem el1 {x m w y d t : Int} (h : 1 ≤ d) : x + d * t + (w * (y + d * m) + t) / d = x + d * t + (w * (y + d * m) + t) / d := rfl
theorem fl1 {w y z m d : Int} (h : 1 ≤ d) : (w * (y + d * z) + m) / d = (w * y + m) / d + w * z := by
  rw [show w * (y + d * z) + m = w * y + m + d * (w * z) by grind, Int.add_mul_ediv_left _ _ (by omega)]
theorem fl2 {w y z u p q m d : Int} (h : 1 ≤ d) : (w * (y + d * z) + u * (p + d * q) + m) / d = (w * y + u * p + m) / d + (w * z + u * q) := by
  rw [show w * (y + d * z) + u * (p + d * q) + m = w * y + u * p + m + d * (w * z + u * q) by grind, Int.add_mul_ediv_left _ _ (by omega)]
theorem go_lin {n : Nat} (hn : n = 2 ∨ n = 3) {v u : List Int} (hv : v.length = n) (hu : u.length = n) {s : S} (h : Ok n s) : go s (vadd v (smul (dv s) u)) = vadd (go s v) (img (sm n s) u) := by
  revert hv hu
  refine st_cases (P := fun n s => v.length = n → u.length = n → go s (vadd v (smul (dv s) u)) = vadd (go s v) (img (sm n s) u)) hn h ?_ ?_ ?_ ?_ ?_ ?_ ?_ ?_ ?_ ?_ ?_ ?_ ?_ ?_
  · intro w m d hw h1 h2 hv hu
    obtain ⟨x, y, rfl⟩ := len2 hv
    obtain ⟨p, q, rfl⟩ := len2 hu
    simp [go, dv, vadd, smul, img, sm, unit2, M.sc, dotI, M.dotI, fl1 h1]
    omega
  · intro w m d hw h1 h2 hv hu
    obtain ⟨x, y, rfl⟩ := len2 hv
    obtain ⟨p, q, rfl⟩ := len2 hu
    simp [go, dv, vadd, smul, img, sm, unit2, M.sc, dotI, M.dotI, fl1 h1]
    omega
  · intro hv hu
    obtain ⟨x, y, rfl⟩ := len2 hv
    obtain ⟨p, q, rfl⟩ := len2 hu
    simp [go, dv, vadd, smul, img, sm, unit2, M.dotI]
    all_goals omega
  · intro hv hu
    obtain ⟨x, y, rfl⟩ := len2 hv
    obtain ⟨p, q, rfl⟩ := len2 hu
    simp [go, dv, vadd, smul, img, sm, unit2, M.dotI]
    all_goals omega
  · intro hv hu
    obtain ⟨x, y, rfl⟩ := len2 hv
    obtain ⟨p, q, rfl⟩ := len2 hu
    simp [go, dv, vadd, smul, img, sm, unit2, M.dotI]
    all_goals omega
  · intro w t m d hw ht h1 h2 hv hu
    obtain ⟨x, y, z, rfl⟩ := len3 hv
    obtain ⟨p, q, r, rfl⟩ := len3 hu
    simp [go, dv, vadd, smul, img, sm, unit3, M.sc, dotI, M.dotI, fl2 h1]
    omega
  · intro w t m d hw ht h1 h2 hv hu
    obtain ⟨x, y, z, rfl⟩ := len3 hv
    obtain ⟨p, q, r, rfl⟩ := len3 hu
    simp [go, dv, vadd, smul, img, sm, unit3, M.sc, dotI, M.dotI, fl2 h1]
    omega
  · intro w t m d hw ht h1 h2 hv hu
    obtain ⟨x, y, z, rfl⟩ := len3 hv
    obtain ⟨p, q, r, rfl⟩ := len3 hu
    simp [go, dv, vadd, smul, img, sm, unit3, M.sc, dotI, M.dotI, fl2 h1]
    omega
  · intro hv hu
    obtain ⟨x, y, z, rfl⟩ := len3 hv
    obtain ⟨p, q, r, rfl⟩ := len3 hu
    simp [go, dv, vadd, smul, img, sm, unit3, M.dotI]
    all_goals omega
  · intro hv hu
    obtain ⟨x, y, z, rfl⟩ := len3 hv
    obtain ⟨p, q, r, rfl⟩ := len3 hu
    simp [go, dv, vadd, smul, img, sm, unit3, M.dotI]
    all_goals omega
  · intro hv hu
    obtain ⟨x, y, z, rfl⟩ := len3 hv
    obtain ⟨p, q, r, rfl⟩ := len3 hu
    simp [go, dv, vadd, smul, img, sm, unit3, M.dotI]
    all_goals omega
  · intro hv hu
    obtain ⟨x, y, z, rfl⟩ := len3 hv
    obtain ⟨p, q, r, rfl⟩ := len3 hu
    simp [go, dv, vadd, smul, img, sm, unit3, M.dotI]
    all_goals omega
  · intro hv hu
    obtain ⟨x, y, z, rfl⟩ := len3 hv
    obtain ⟨p, q, r, rfl⟩ := len3 hu
    simp [go, dv, vadd, smul, img, sm, unit3, M.dotI]
    all_goals omega
  · intro hv hu
    obtain ⟨x, y, z, rfl⟩ := len3 hv
    obtain ⟨p, q, r, rfl⟩ := len3 hu
    simp [go, dv, vadd, smul, img, sm, unit3, M.dotI]
    all_goals omega
/-- a chain takes the sum of a vector and a multiple of the grid to the sum of the images -/
theorem runs_lin {n : Nat} (hn : n = 2 ∨ n = 3) : ∀ {ss : List S} {v u : List Int}, Oks n ss → v.length = n → u.length = n → runs ss (vadd v (smul (gd ss) u)) = vadd (runs ss v) (img (Pm n ss) u)
  | [], v, u, _, hv, hu => by
    rw [Pm, img_unit hn hu]
    simp [runs, gd, smul]
  | s :: r, v, u, h, hv, hu => by
    have l1 : (go s v).length = n := by rw [go_len, hv]
    have l2 : (img (sm n s) u).length = n := by rw [img_len, (sq_sm hn h.hd).1]
    rw [runs, gd, smul_smul, go_lin hn hv (by rw [smul_len, hu]) h.hd, img_smul, runs_lin hn h.tl l1 l2, Pm, img_mul hn (sq_Pm hn h.tl) (sq_sm hn h.hd) hu, runs]
theorem g_plus_t {n : Nat} (hn : n = 2 ∨ n = 3) {a b : List Int} (ha : a.length = n) (hb : b.length = n) : G_law_plus [.fz (tupI a), .fz (tupI b)] [] = some (.val (tupI (vadd a b)), []) := by
  rcases hn with rfl | rfl
  · obtain ⟨x, y, rfl⟩ := len2 ha
    obtain ⟨p, q, rfl⟩ := len2 hb
    unfold G_law_plus f_law_plus
    simp [fnD, sSeq, sSet, sDrop, sRet, sRetN, sIf, sAsg, sPar, sFor, forD, dC, dVar, dOp, der, ders, frz, frzs, dTup, dLst, aNil, aCons, aStar, PK.mk, dCB, PK.g1, PK.g2, lenD, absD, maxD, minD, PK.intD, listD, tupD, sumD, allD, intsD, bls, addD, subD, mulD, divD, modD, powD, cmpD, ixD, atI, ixN, dUn, negD, dB, truD, bNot, bAnd, bOr, bYes, dAndV, dOrV, dNotV, dChain, dFld, recvOk, dIsi, tyD, kitB, dCallN, callG, refs, renum, lives, PK.putAll, hNm, hSub, hNil, hCons, hTup, setIx, asgT, setAll, dMt, appD, extD, dLc, lcGo, wipeD, iSq, iRg1, iRg2, iZipD, iEnumD, iRevD, srcOf, rangeD, zipD, small, itemsD, List.range, List.range.loop, eqD_int, dSl, dRev, slD, cutD, okR, sNext, sNever, sBrk, sCnt, dMake, makeG, PK.initD, iSeq, iDrop, iSet, iFld, dMeth, dIfE, isND, PK.isNon, oSome, oNone, HT.sIx, tupI, vadd, iZipWD]
  · obtain ⟨x, y, z, rfl⟩ := len3 ha
    obtain ⟨p, q, r, rfl⟩ := len3 hb
    unfold G_law_plus f_law_plus
    simp [fnD, sSeq, sSet, sDrop, sRet, sRetN, sIf, sAsg, sPar, sFor, forD, dC, dVar, dOp, der, ders, frz, frzs, dTup, dLst, aNil, aCons, aStar, PK.mk, dCB, PK.g1, PK.g2, lenD, absD, maxD, minD, PK.intD, listD, tupD, sumD, allD, intsD, bls, addD, subD, mulD, divD, modD, powD, cmpD, ixD, atI, ixN, dUn, negD, dB, truD, bNot, bAnd, bOr, bYes, dAndV, dOrV, dNotV, dChain, dFld, recvOk, dIsi, tyD, kitB, dCallN, callG, refs, renum, lives, PK.putAll, hNm, hSub, hNil, hCons, hTup, setIx, asgT, setAll, dMt, appD, extD, dLc, lcGo, wipeD, iSq, iRg1, iRg2, iZipD, iEnumD, iRevD, srcOf, rangeD, zipD, small, itemsD, List.range, List.range.loop, eqD_int, dSl, dRev, slD, cutD, okR, sNext, sNever, sBrk, sCnt, dMake, makeG, PK.initD, iSeq, iDrop, iSet, iFld, dMeth, dIfE, isND, PK.isNon, oSome, oNone, HT.sIx, tupI, vadd, iZipWD]
theorem g_plus_r {n : Nat} (hn : n = 2 ∨ n = 3) {a b : List Int} (ha : a.length = n) (hb : b.length = n) : G_law_plus [.fz (tupI a), .rf 0] [b.map D.int] = some (.val (tupI (vadd a b)), [b.map D.int]) := by
  rcases hn with rfl | rfl
  · obtain ⟨x, y, rfl⟩ := len2 ha
    obtain ⟨p, q, rfl⟩ := len2 hb
    unfold G_law_plus f_law_plus
    simp [fnD, sSeq, sSet, sDrop, sRet, sRetN, sIf, sAsg, sPar, sFor, forD, dC, dVar, dOp, der, ders, frz, frzs, dTup, dLst, aNil, aCons, aStar, PK.mk, dCB, PK.g1, PK.g2, lenD, absD, maxD, minD, PK.intD, listD, tupD, sumD, allD, intsD, bls, addD, subD, mulD, divD, modD, powD, cmpD, ixD, atI, ixN, dUn, negD, dB, truD, bNot, bAnd, bOr, bYes, dAndV, dOrV, dNotV, dChain, dFld, recvOk, dIsi, tyD, kitB, dCallN, callG, refs, renum, lives, PK.putAll, hNm, hSub, hNil, hCons, hTup, setIx, asgT, setAll, dMt, appD, extD, dLc, lcGo, wipeD, iSq, iRg1, iRg2, iZipD, iEnumD, iRevD, srcOf, rangeD, zipD, small, itemsD, List.range, List.range.loop, eqD_int, dSl, dRev, slD, cutD, okR, sNext, sNever, sBrk, sCnt, dMake, makeG, PK.initD, iSeq, iDrop, iSet, iFld, dMeth, dIfE, isND, PK.isNon, oSome, oNone, HT.sIx, tupI, vadd, iZipWD, CkOk]
  · obtain ⟨x, y, z, rfl⟩ := len3 ha
    obtain ⟨p, q, r, rfl⟩ := len3 hb
    unfold G_law_plus f_law_plus
    simp [fnD, sSeq, sSet, sDrop, sRet, sRetN, sIf, sAsg, sPar, sFor, forD, dC, dVar, dOp, der, ders, frz, frzs, dTup, dLst, aNil, aCons, aStar, PK.mk, dCB, PK.g1, PK.g2, lenD, absD, maxD, minD, PK.intD, listD, tupD, sumD, allD, intsD, bls, addD, subD, mulD, divD, modD, powD, cmpD, ixD, atI, ixN, dUn, negD, dB, truD, bNot, bAnd, bOr, bYes, dAndV, dOrV, dNotV, dChain, dFld, recvOk, dIsi, tyD, kitB, dCallN, callG, refs, renum, lives, PK.putAll, hNm, hSub, hNil, hCons, hTup, setIx, asgT, setAll, dMt, appD, extD, dLc, lcGo, wipeD, iSq, iRg1, iRg2, iZipD, iEnumD, iRevD, srcOf, rangeD, zipD, small, itemsD, List.range, List.range.loop, eqD_int, dSl, dRev, slD, cutD, okR, sNext, sNever, sBrk, sCnt, dMake, makeG, PK.initD, iSeq, iDrop, iSet, iFld, dMeth, dIfE, isND, PK.isNon, oSome, oNone, HT.sIx, tupI, vadd, iZipWD, CkOk]
/-! ### steps with neither more nor divisor -/
def pl : S → S
  | .lift c ws _ _ => .lift c ws 0 1
  | .swap i j => .swap i j
  | .turn i => .turn i
theorem ok_pl {n : Nat} {s : S} (h : Ok n s) : Ok n (pl s) := by
  cases s with
  | lift c ws m d =>
    obtain ⟨h1, h2, h3, h4, h5, h6, h7, h8⟩ := h
    exact ⟨h1, h2, h3, h4, by decide, by decide, by decide, by decide⟩
  | swap i j => exact h
  | turn i => exact h
theorem oks_pl {n : Nat} {ss : List S} (h : Oks n ss) : Oks n (ss.map pl) := fun s hs => by
  obtain ⟨t, ht, rfl⟩ := List.mem_map.mp hs
  exact ok_pl (h t ht)
theorem gd_pl : ∀ (ss : List S), gd (ss.map pl) = 1
  | [] => rfl
  | s :: r => by
    rw [List.map_cons, gd, gd_pl r]
    cases s <;> rfl
theorem plain_pl (ss : List S) : (ss.map pl).map plain = ss.map pl := by
  rw [List.map_map]
  refine List.map_congr_left fun s _ => ?_
  cases s <;> rfl
theorem runs_pl {n : Nat} (hn : n = 2 ∨ n = 3) {ss : List S} {v : List Int} (h : Oks n ss) (hv : v.length = n) : runs (ss.map pl) v = img (Pm n (ss.map pl)) v := by
  have e := runs_img hn (v := v) (oks_pl h) hv
  rw [plain_pl, gd_pl] at e
  rw [← e]
  simp [smul]
theorem g_plainly {ss : List S} (hl : ss.length ≤ 100) : G_law_plainly [.fz (.lst (encs ss))] [] = some (.fresh (encs (ss.map pl)), []) := by
  have e := M.lc_map (m := true) (f := dVar 0) (elt := dIfE (dB (dOp (eqD false) (dOp ixD (dVar 1) (dC (.int 0))) (dC (.str "lift")))) (dOp (addD false) (dSl false (dVar 1) oNone (oSome (dC (.int 3)))) (dTup (aCons (dC (.int 0)) (aCons (dC (.int 1)) aNil)))) (dVar 1)) (j := 1) (sl := [some (.fz (.lst (encs ss))), none]) (st := []) (xs := ss) (en := enc) (out := fun s => enc (pl s)) rfl (by omega) fun s hs => by
    cases s with
    | lift c ws m d => exact ⟨[some (.fz (.lst (encs ss))), some (.fz (enc (.lift c ws m d)))], by simp [fnD, sSeq, sSet, sDrop, sRet, sRetN, sIf, sAsg, sPar, sFor, forD, dC, dVar, dOp, der, ders, frz, frzs, dTup, dLst, aNil, aCons, aStar, PK.mk, dCB, PK.g1, PK.g2, lenD, absD, maxD, minD, PK.intD, listD, tupD, sumD, allD, intsD, bls, addD, subD, mulD, divD, modD, powD, cmpD, ixD, atI, ixN, dUn, negD, dB, truD, bNot, bAnd, bOr, bYes, dAndV, dOrV, dNotV, dChain, dFld, recvOk, dIsi, tyD, kitB, dCallN, callG, refs, renum, lives, PK.putAll, hNm, hSub, hNil, hCons, hTup, setIx, asgT, setAll, dMt, appD, extD, dLc, lcGo, wipeD, iSq, iRg1, iRg2, iZipD, iEnumD, iRevD, srcOf, rangeD, zipD, small, itemsD, List.range, List.range.loop, eqD_int, dSl, dRev, slD, cutD, okR, sNext, sNever, sBrk, sCnt, dMake, makeG, PK.initD, iSeq, iDrop, iSet, iFld, dMeth, dIfE, isND, PK.isNon, oSome, oNone, HT.sIx, enc, tupI, pl, q1, cutD, small]⟩
    | swap i j => exact ⟨[some (.fz (.lst (encs ss))), some (.fz (enc (.swap i j)))], by simp [fnD, sSeq, sSet, sDrop, sRet, sRetN, sIf, sAsg, sPar, sFor, forD, dC, dVar, dOp, der, ders, frz, frzs, dTup, dLst, aNil, aCons, aStar, PK.mk, dCB, PK.g1, PK.g2, lenD, absD, maxD, minD, PK.intD, listD, tupD, sumD, allD, intsD, bls, addD, subD, mulD, divD, modD, powD, cmpD, ixD, atI, ixN, dUn, negD, dB, truD, bNot, bAnd, bOr, bYes, dAndV, dOrV, dNotV, dChain, dFld, recvOk, dIsi, tyD, kitB, dCallN, callG, refs, renum, lives, PK.putAll, hNm, hSub, hNil, hCons, hTup, setIx, asgT, setAll, dMt, appD, extD, dLc, lcGo, wipeD, iSq, iRg1, iRg2, iZipD, iEnumD, iRevD, srcOf, rangeD, zipD, small, itemsD, List.range, List.range.loop, eqD_int, dSl, dRev, slD, cutD, okR, sNext, sNever, sBrk, sCnt, dMake, makeG, PK.initD, iSeq, iDrop, iSet, iFld, dMeth, dIfE, isND, PK.isNon, oSome, oNone, HT.sIx, enc, pl, q2]⟩
    | turn i => exact ⟨[some (.fz (.lst (encs ss))), some (.fz (enc (.turn i)))], by simp [fnD, sSeq, sSet, sDrop, sRet, sRetN, sIf, sAsg, sPar, sFor, forD, dC, dVar, dOp, der, ders, frz, frzs, dTup, dLst, aNil, aCons, aStar, PK.mk, dCB, PK.g1, PK.g2, lenD, absD, maxD, minD, PK.intD, listD, tupD, sumD, allD, intsD, bls, addD, subD, mulD, divD, modD, powD, cmpD, ixD, atI, ixN, dUn, negD, dB, truD, bNot, bAnd, bOr, bYes, dAndV, dOrV, dNotV, dChain, dFld, recvOk, dIsi, tyD, kitB, dCallN, callG, refs, renum, lives, PK.putAll, hNm, hSub, hNil, hCons, hTup, setIx, asgT, setAll, dMt, appD, extD, dLc, lcGo, wipeD, iSq, iRg1, iRg2, iZipD, iEnumD, iRevD, srcOf, rangeD, zipD, small, itemsD, List.range, List.range.loop, eqD_int, dSl, dRev, slD, cutD, okR, sNext, sNever, sBrk, sCnt, dMake, makeG, PK.initD, iSeq, iDrop, iSet, iFld, dMeth, dIfE, isND, PK.isNon, oSome, oNone, HT.sIx, enc, pl, q3]⟩
  have e2 : (ss.map fun s => enc (pl s)) = encs (ss.map pl) := by simp [encs]
  rw [e2] at e
  unfold G_law_plainly fnD f_law_plainly
  show ((sRet _ ⟨[some (.fz (.lst (encs ss))), none], []⟩).bind _) = _
  rw [sRet, e]
  rfl
theorem g_end {n k : Nat} (hn : n = 2 ∨ n = 3) {ss : List S} {v : List Int} (h : Oks n ss) (hv : v.length = n) (hb : Bd k v) (hk : k + 8 * ss.length ≤ 1000) (hl : ss.length ≤ 100) : G_law_end [.fz (.lst (encs ss)), .fz (tupI v)] [] = some (.val (tupI (runs ss v)), []) := by
  obtain ⟨pre, e0⟩ := rows_last ss v
  have e1 := cl0f (G := G_law_walk) (m := false) (n := 2) (fa := aCons (dVar 0) (aCons (dVar 1) aNil)) (δ := ⟨[some (.fz (.lst (encs ss))), some (.fz (tupI v))], []⟩) rfl rfl rfl (g_walk hn h hv hb hk (by omega))
  rw [e0, List.map_append, List.map_cons, List.map_nil] at e1
  have e2 := (dOp_ (g := ixD) e1 (fb := dUn negD (dC (.int 1))) rfl rfl rfl).trans (show ixD _ _ _ = some (.fz (tupI (runs ss v)), ⟨[some (.fz (.lst (encs ss))), some (.fz (tupI v))], []⟩) by
    simp only [ixD, atI_last]
    rfl)
  unfold G_law_end fnD f_law_end
  show ((sRet _ ⟨[some (.fz (.lst (encs ss))), some (.fz (tupI v))], []⟩).bind _) = _
  rw [sRet, e2]
  rfl
end K12

set_option maxHeartbeats 0
namespace K12.M
open PySem L2 PK
/-! ### products of fractions -/
theorem nice_fr {x b : Int} : Nice 1 (fr x b) := nice_tup fun y hy => by
  simp only [List.mem_cons, List.not_mem_nil, or_false] at hy
  rcases hy with rfl | rfl <;> exact nice_int
theorem fr_parts {x b : Int} (hb : 1 ≤ b) : ∃ g : Int, 1 ≤ g ∧ x = g * (x / gI x b) ∧ b = g * (b / gI x b) ∧ 1 ≤ b / gI x b ∧ g = gI x b := by
  have p := gI_pos2 (x := x) hb
  refine ⟨gI x b, p.1, (Int.mul_ediv_cancel' (Int.gcd_dvd_left x b)).symm, (Int.mul_ediv_cancel' (Int.gcd_dvd_right x b)).symm, ?_, rfl⟩
  exact (Int.le_ediv_iff_mul_le (by omega)).mpr (by omega)
/-! ### products of matrices -/
end K12.M

set_option maxHeartbeats 0
namespace K12
open PySem L2 PK
/-! ### the law: its parts -/
noncomputable def inb : SF := (sSeq (sIf (dB (dOp (eqD true) (dOp modD (dCB intD (aCons (dVar 4) aNil)) (dVar 17)) (dC (.int 0)))) (sRet (dC (.bl false))) sNext) (sDrop (dMt appD (dVar 15) (aCons (dOp (mulD false) (dVar 16) (dOp divD (dVar 4) (dVar 17))) aNil))))
noncomputable def b1 : SF := (sPar [11, 13] (aCons (dCallN false 3 G_law_place (aCons (dVar 0) (aCons (dVar 1) (aCons (dVar 8) aNil)))) (aCons (dCallN false 3 G_law_place (aCons (dVar 0) (aCons (dVar 1) (aCons (dVar 8) aNil)))) aNil)))
noncomputable def b2 : SF := (sSet 14 (dCallN false 2 G_law_plus (aCons (dVar 11) (aCons (dCB tupD (aCons (dLc false (iSq (dVar 13)) (.nm 18) [18] bYes (dOp (mulD false) (dVar 4) (dVar 18))) aNil)) aNil))))
noncomputable def b3 : SF := (sSet 15 (dLst true aNil))
noncomputable def b4 : SF := (sFor (iSq (dMeth false "Matrix" "image" 2 G_Matrix_image (dVar 7) (aCons (dVar 13) aNil))) (.tp [16, 17]) inb)
noncomputable def b5 : SF := (sIf (dB (dOp (eqD true) (dMeth false "Chain" "at" 2 G_Chain_at (dVar 3) (aCons (dVar 14) aNil)) (dCallN false 2 G_law_plus (aCons (dMeth false "Chain" "at" 2 G_Chain_at (dVar 3) (aCons (dVar 11) aNil)) (aCons (dVar 15) aNil))))) (sRet (dC (.bl false))) sNext)
noncomputable def ub : SF := sSeq b1 (sSeq b2 (sSeq b3 (sSeq b4 b5)))
noncomputable def u1 : SF := (sSet 2 (dCallN false 4 G_law_moves (aCons (dVar 0) (aCons (dVar 1) (aCons (dC (.int 6)) (aCons (dOp ixD (dLst false (aCons (dC (.int 12)) (aCons (dC (.int 6)) aNil))) (dOp subD (dVar 1) (dC (.int 2)))) aNil))))))
noncomputable def u2 : SF := (sAsg (hTup 2 (hCons (hNm 3) (hCons (hNm 4) hNil))) (dTup (aCons (dMake "Chain" 3 G_Chain_init (aCons (dVar 1) (aCons (dVar 2) aNil))) (aCons (dCallN false 1 G_law_whole (aCons (dVar 2) aNil)) aNil))))
noncomputable def u3 : SF := (sAsg (hUnl 2 (hCons (hNm 5) (hCons (hNm 6) hNil))) (dCallN false 2 G_law_linear (aCons (dVar 2) (aCons (dVar 1) aNil))))
noncomputable def u4 : SF := (sSet 7 (dCallK false 1 0 1 [0] G_linear_part aNil (aCons (dVar 3) aNil)))
noncomputable def u5 : SF := (sIf (bOr (bNot (dB (dOp (eqI "Matrix" G_Matrix_eq) (dVar 7) (dMake "Matrix" 3 G_Matrix_init (aCons (dVar 5) (aCons (dVar 6) aNil)))))) (bOr (dB (dOp (eqD true) (dMeth false "Matrix" "" 1 G_Matrix_rows (dVar 7) aNil) (dMeth false "Matrix" "" 1 G_Matrix_rows (dCallN false 1 G_linear_part (aCons (dVar 3) aNil)) aNil))) (dB (dOp (eqD true) (dLenI "Matrix" G_Matrix_len (dVar 7)) (dVar 1))))) (sRet (dC (.bl false))) sNext)
noncomputable def u6 : SF := (sFor (iTupD (dTup (aCons (dC (.int 9)) (aCons (dOp powD (dC (.int 10)) (dC (.int 20))) (aCons (dOp powD (dC (.int 10)) (dC (.int 29))) aNil))))) (.nm 8) ub)
noncomputable def u7 : SF := (sSet 9 (dCallN false 1 G_law_plainly (aCons (dVar 2) aNil)))
noncomputable def u8 : SF := (sPar [10, 11] (aCons (dCallN false 1 G_linear_part (aCons (dMake "Chain" 3 G_Chain_init (aCons (dVar 1) (aCons (dVar 9) aNil))) aNil)) (aCons (dCallN false 3 G_law_place (aCons (dVar 0) (aCons (dVar 1) (aCons (dOp powD (dC (.int 10)) (dC (.int 20))) aNil)))) aNil)))
noncomputable def u9 : SF := (sSet 12 (dLc false (iSq (dCallN false 2 G_law_end (aCons (dVar 9) (aCons (dVar 11) aNil)))) (.nm 18) [18] bYes (dTup (aCons (dVar 18) (aCons (dC (.int 1)) aNil)))))
noncomputable def u10 : SF := (sIf (bOr (dB (dOp (eqD true) (dMeth false "Matrix" "" 1 G_Matrix_bottom (dVar 10) aNil) (dC (.int 1)))) (dB (dOp (eqD true) (dMeth false "Matrix" "image" 2 G_Matrix_image (dVar 10) (aCons (dVar 11) aNil)) (dVar 12)))) (sRet (dC (.bl false))) sNext)
noncomputable def u11 : SF := (sRet (dOp (eqD false) (dMeth false "Chain" "" 1 G_Chain_steps (dVar 3) aNil) (dVar 2)))
theorem f_law_right_eq : f_law_right = sSeq u1 (sSeq u2 (sSeq u3 (sSeq u4 (sSeq u5 (sSeq u6 (sSeq u7 (sSeq u8 (sSeq u9 (sSeq u10 (u11)))))))))) := rfl
def LD (n : Nat) (ss : List S) : D := M.lD (Pm n ss) (gd ss)
def rs (n : Nat) (ss : List S) (st : List (Option (List D))) (x8 x9 x10 x11 x12 x13 x14 x15 x16 x17 x18 : Option Vl) : Dl := ⟨[some (.rf 0), some (.fz (.int n)), some (.fz (.lst (encs ss))), some (.fz (chD n ss)), some (.fz (.int (gd ss))), some (.fz (M.mD (Pm n ss))), some (.fz (.int (gd ss))), some (.fz (LD n ss)), x8, x9, x10, x11, x12, x13, x14, x15, x16, x17, x18], st⟩
theorem lin {n : Nat} {ss : List S} {fo : EF} {δ δ1 : Dl} (hn : n = 2 ∨ n = 3) (h : Oks n ss) (hl : ss.length ≤ 24) (e : fo δ = some (.fz (chD n ss), δ1)) : dCallN false 1 G_linear_part (aCons fo aNil) δ = some (.fz (LD n ss), δ1) :=
  cl0 (aC e rfl) rfl rfl (g_linear hn h hl)
theorem mx200 {n : Nat} {ss : List S} (hn : n = 2 ∨ n = 3) (h : Oks n ss) (hl : ss.length ≤ 24) : M.Mx n 200 (Pm n ss) (gd ss) := (mx_Pm hn h).up (by omega)
theorem eqL {A : List (List Int)} {a : Int} {fa fb : EF} {δ δ1 δ2 : Dl} (e1 : fa δ = some (.fz (M.lD A a), δ1)) (e2 : fb δ1 = some (.fz (M.lD A a), δ2)) : dOp (eqI "Matrix" G_Matrix_eq) fa fb δ = some (.fz (.bl true), δ2) :=
  (dOp_ e1 e2 rfl rfl).trans (M.eqM_ δ2)
section
variable {n m k : Nat} {ss : List S} {p : List D} {st tl : List (Option (List D))} {x8 x9 x10 x11 x12 x13 x14 x15 x16 x17 x18 : Option Vl}
theorem set_same {α : Type} {l : List α} {i : Nat} {v : α} (h : l[i]? = some v) : l.set i v = l := by
  obtain ⟨hlt, e⟩ := List.getElem?_eq_some_iff.mp h
  rw [← e]
  exact List.set_getElem_self hlt
theorem d_in {acc : List D} {X : Int} (hk : st[k]? = some (some acc)) (hl : acc.length ≤ 100) (hX : X.natAbs < 2 ^ 199) (h1 : 1 ≤ gd ss) (h2 : (gd ss).natAbs < 2 ^ 199) :
    inb (rs n ss st x8 x9 x10 x11 x12 x13 x14 (some (.rf k)) (some (.fz (.int (X / M.gI X (gd ss))))) (some (.fz (.int (gd ss / M.gI X (gd ss))))) x18) = some (.nx, rs n ss (st.set k (some (acc ++ [.int X]))) x8 x9 x10 x11 x12 x13 x14 (some (.rf k)) (some (.fz (.int (X / M.gI X (gd ss))))) (some (.fz (.int (gd ss / M.gI X (gd ss))))) x18) := by
  obtain ⟨g, g1, gx, gb, gl, _⟩ := M.fr_parts (x := X) h1
  generalize X / M.gI X (gd ss) = t at *
  generalize gd ss / M.gI X (gd ss) = l at *
  generalize hG : gd ss = G at *
  have e1 : G % l = 0 := by rw [gb]; exact Int.mul_emod_left g l
  have e2 : G / l = g := by rw [gb]; exact Int.mul_ediv_cancel g (by omega)
  have e3 : t * g = X := by rw [gx]; exact Int.mul_comm t g
  have b1 : l.natAbs < 2 ^ 199 := by
    have : l.natAbs ≤ G.natAbs := by
      rw [gb, Int.natAbs_mul]
      exact Nat.le_mul_of_pos_left _ (by omega)
    omega
  have b2 : g.natAbs < 2 ^ 199 := by
    have : g.natAbs ≤ G.natAbs := by
      rw [gb, Int.natAbs_mul]
      exact Nat.le_mul_of_pos_right _ (by omega)
    omega
  have b3 : t.natAbs < 2 ^ 199 := by
    have : t.natAbs ≤ X.natAbs := by
      rw [gx, Int.natAbs_mul]
      exact Nat.le_mul_of_pos_left _ (by omega)
    omega
  have o1 : okMul t g = true := okMul_nn (M.pup b3 (by decide)) (M.pup b2 (by decide))
  have o2 : okDiv l = true := okDiv_of gl (by omega)
  have o3 : acc.length < 100000 := by omega
  have o4 : 0 < l := by omega
  unfold inb
  simp [fnD, sSeq, sSet, sDrop, sRet, sRetN, sIf, sAsg, sPar, sFor, forD, dC, dVar, dOp, der, ders, frz, frzs, dTup, dLst, aNil, aCons, aStar, PK.mk, dCB, PK.g1, PK.g2, lenD, absD, maxD, minD, PK.intD, listD, tupD, sumD, allD, intsD, bls, addD, subD, mulD, divD, modD, powD, cmpD, ixD, atI, ixN, dUn, negD, dB, truD, bNot, bAnd, bOr, bYes, dAndV, dOrV, dNotV, dChain, dFld, recvOk, dIsi, tyD, kitB, dCallN, callG, refs, renum, lives, PK.putAll, hNm, hSub, hNil, hCons, hTup, setIx, asgT, setAll, dMt, appD, extD, dLc, lcGo, wipeD, iSq, iRg1, iRg2, iZipD, iEnumD, iRevD, srcOf, rangeD, zipD, small, itemsD, List.range, List.range.loop, eqD_int, dSl, dRev, slD, cutD, okR, sNext, sNever, sBrk, sCnt, dMake, makeG, PK.initD, iSeq, iDrop, iSet, iFld, dMeth, dIfE, isND, PK.isNon, oSome, oNone, HT.sIx, rs, hG, e1, e2, e3, o1, o2, o4, hk]
  exact ⟨_, _, if_pos o3, rfl⟩
theorem d_lp (h1 : 1 ≤ gd ss) (h2 : (gd ss).natAbs < 2 ^ 199) : ∀ (Xs : List Int) (acc : List D) (st : List (Option (List D))) (x16 x17 : Option Vl), st[k]? = some (some acc) → acc.length + Xs.length ≤ 100 → (∀ X ∈ Xs, X.natAbs < 2 ^ 199) →
    ∃ y16 y17, forD [] (.tp [16, 17]) inb (Xs.map fun X => M.fr X (gd ss)) (rs n ss st x8 x9 x10 x11 x12 x13 x14 (some (.rf k)) x16 x17 x18) = some (.nx, rs n ss (st.set k (some (acc ++ Xs.map D.int))) x8 x9 x10 x11 x12 x13 x14 (some (.rf k)) y16 y17 x18)
  | [], acc, st, x16, x17, hk, _, _ => ⟨x16, x17, by
    simp only [List.map_nil, List.append_nil, set_same hk]
    exact forD_nil0⟩
  | X :: Xs, acc, st, x16, x17, hk, hl, hX => by
    rw [List.length_cons] at hl
    have hlt := (List.getElem?_eq_some_iff.mp hk).1
    have e := d_in (n := n) (x8 := x8) (x9 := x9) (x10 := x10) (x11 := x11) (x12 := x12) (x13 := x13) (x14 := x14) (x18 := x18) hk (by omega) (hX X List.mem_cons_self) h1 h2
    obtain ⟨y16, y17, ih⟩ := d_lp h1 h2 Xs (acc ++ [.int X]) (st.set k (some (acc ++ [.int X]))) (some (.fz (.int (X / M.gI X (gd ss))))) (some (.fz (.int (gd ss / M.gI X (gd ss))))) (List.getElem?_set_self hlt) (by simp; omega) (fun z hz => hX z (List.mem_cons_of_mem _ hz))
    refine ⟨y16, y17, ?_⟩
    rw [List.set_set, List.append_assoc, List.singleton_append] at ih
    rw [List.map_cons, forD, if_pos (by simp [CkOk])]
    show (Option.bind (inb (rs n ss st x8 x9 x10 x11 x12 x13 x14 (some (.rf k)) (some (.fz (.int (X / M.gI X (gd ss))))) (some (.fz (.int (gd ss / M.gI X (gd ss))))) x18)) _) = _
    rw [e]
    exact ih
theorem sm_of {j e : Nat} {v : List Int} (h : Bd j v) (hj : j ≤ e) : M.Sm e v := fun x hx => M.pup (h x hx) hj
theorem img_bd {A : List (List Int)} {v : List Int} (hA : M.Sms 60 A) (hq : ∀ r ∈ A, r.length ≤ 3) (hv : Bd 110 v) : ∀ X ∈ img A v, X.natAbs < 2 ^ 199 := fun X hX => by
  obtain ⟨r, hr, rfl⟩ := List.mem_map.mp hX
  have d := dot_bd2 r v (hA r hr) hv
  have := Nat.mul_le_mul_right (2 ^ (60 + 110)) (hq r hr)
  have p : (3 : Nat) * 2 ^ (60 + 110) < 2 ^ 199 := by decide
  omega
theorem d_far {far : Int} (hn : n = 2 ∨ n = 3) (h : Oks n ss) (hl : ss.length ≤ 6) (f1 : 1 ≤ far) (f2 : far ≤ 10 ^ 31) (hp : Pool m p) (hm : m ≤ 7000) : ∃ p' tl' y11 y13 y14 y15 y16 y17, Pool (m + 24) p' ∧
    ub (rs n ss (some p :: tl) (some (.fz (.int far))) x9 x10 x11 x12 x13 x14 x15 x16 x17 x18) = some (.nx, rs n ss (some p' :: tl') (some (.fz (.int far))) x9 x10 y11 x12 y13 y14 y15 y16 y17 x18) := by
  obtain ⟨v, p1, e1, v1, v2, hp1⟩ := g_place (far := far) hn hp (by omega) f1 f2
  obtain ⟨w, p2, e2, w1, w2, hp2⟩ := g_place (far := far) hn hp1 (by omega) f1 f2
  have c1 := cl1 (G := G_law_place) (m := false) (n := 3) (k := 0) (fa := aCons (dVar 0) (aCons (dVar 1) (aCons (dVar 8) aNil))) (δ := rs n ss (some p :: tl) (some (.fz (.int far))) x9 x10 x11 x12 x13 x14 x15 x16 x17 x18) rfl rfl rfl rfl e1
  have c2 := cl1 (G := G_law_place) (m := false) (n := 3) (k := 0) (fa := aCons (dVar 0) (aCons (dVar 1) (aCons (dVar 8) aNil))) (δ := rs n ss (some p1 :: tl) (some (.fz (.int far))) x9 x10 x11 x12 x13 x14 x15 x16 x17 x18) rfl rfl rfl rfl e2
  have s1 : b1 (rs n ss (some p :: tl) (some (.fz (.int far))) x9 x10 x11 x12 x13 x14 x15 x16 x17 x18) = some (.nx, rs n ss (some p2 :: tl) (some (.fz (.int far))) x9 x10 (some (.fz (tupI v))) x12 (some (.fz (tupI w))) x14 x15 x16 x17 x18) := (sPar2 (aC c1 (aC (g := aNil) c2 rfl))).trans rfl
  obtain ⟨g1, g2⟩ := gd_pos h
  have g3 : (gd ss).natAbs < 2 ^ 90 := M.pup g2 (by omega)
  have d2 : dCB tupD (aCons (dLc false (iSq (dVar 13)) (.nm 18) [18] bYes (dOp (mulD false) (dVar 4) (dVar 18))) aNil) (rs n ss (some p2 :: tl) (some (.fz (.int far))) x9 x10 (some (.fz (tupI v))) x12 (some (.fz (tupI w))) x14 x15 x16 x17 x18) = some (.fz (tupI (smul (gd ss) w)), rs n ss (some p2 :: tl) (some (.fz (.int far))) x9 x10 (some (.fz (tupI v))) x12 (some (.fz (tupI w))) x14 x15 x16 x17 x18) := by
    have ok : ∀ x ∈ w, okMul (gd ss) x = true := fun x hx => okMul_nn (M.pup g3 (by decide)) (M.pup (w2 x hx) (by decide))
    have e := M.lc_mapI (m := false) (fi := iSq (dVar 13)) (elt := dOp (mulD false) (dVar 4) (dVar 18)) (j := 18) (sl := (rs n ss (some p2 :: tl) (some (.fz (.int far))) x9 x10 (some (.fz (tupI v))) x12 (some (.fz (tupI w))) x14 x15 x16 x17 x18).sl) (st := some p2 :: tl) (xs := w) (en := D.int) (out := fun x => D.int (gd ss * x)) rfl (by omega) fun x hx => ⟨_, (dOp_ (g := mulD false) (fa := dVar 4) (fb := dVar 18) rfl rfl rfl rfl).trans (show mulD false _ _ _ = some (.fz (.int (gd ss * x)), ⟨_, _⟩) by simp only [mulD, ok x hx, if_true]; rfl)⟩
    refine (cb1_ (g := tupD) (e.trans rfl) rfl).trans ?_
    simp [tupD, tupI, smul, Function.comp_def]
    rfl
  have d3 := cl0 (G := G_law_plus) (m := false) (n := 2) (aC (f := dVar 11) (δ := rs n ss (some p2 :: tl) (some (.fz (.int far))) x9 x10 (some (.fz (tupI v))) x12 (some (.fz (tupI w))) x14 x15 x16 x17 x18) rfl (aC (g := aNil) d2 rfl)) rfl rfl (g_plus_t hn v1 (by rw [smul_len, w1]))
  have s2 : b2 (rs n ss (some p2 :: tl) (some (.fz (.int far))) x9 x10 (some (.fz (tupI v))) x12 (some (.fz (tupI w))) x14 x15 x16 x17 x18) = some (.nx, rs n ss (some p2 :: tl) (some (.fz (.int far))) x9 x10 (some (.fz (tupI v))) x12 (some (.fz (tupI w))) (some (.fz (tupI (vadd v (smul (gd ss) w))))) x15 x16 x17 x18) := (sSet_ d3).trans rfl
  have s3 : b3 (rs n ss (some p2 :: tl) (some (.fz (.int far))) x9 x10 (some (.fz (tupI v))) x12 (some (.fz (tupI w))) (some (.fz (tupI (vadd v (smul (gd ss) w))))) x15 x16 x17 x18) = some (.nx, rs n ss ((some p2 :: tl) ++ [some []]) (some (.fz (.int far))) x9 x10 (some (.fz (tupI v))) x12 (some (.fz (tupI w))) (some (.fz (tupI (vadd v (smul (gd ss) w))))) (some (.rf (some p2 :: tl).length)) x16 x17 x18) := rfl
  have hqP := sq_Pm hn h
  have hX : ∀ X ∈ img (Pm n ss) w, X.natAbs < 2 ^ 199 := img_bd (M.sms_up (sms_Pm hn h) (by omega)) (fun r hr => by rw [hqP.2 r hr]; omega) w2
  obtain ⟨y16, y17, e4⟩ := d_lp (n := n) (ss := ss) (k := (some p2 :: tl).length) (x8 := some (.fz (.int far))) (x9 := x9) (x10 := x10) (x11 := some (.fz (tupI v))) (x12 := x12) (x13 := some (.fz (tupI w))) (x14 := some (.fz (tupI (vadd v (smul (gd ss) w))))) (x18 := x18) g1 (M.pup g3 (by decide)) (img (Pm n ss) w) [] ((some p2 :: tl) ++ [some []]) x16 x17 (by simp) (by rw [img_len, hqP.1]; simp; omega) hX
  have i1 := M.image_ (mx200 hn h (by omega)) (by decide) (v := w) (sm_of w2 (by decide)) false (fo := dVar 7) (fv := dVar 13) (δ := rs n ss ((some p2 :: tl) ++ [some []]) (some (.fz (.int far))) x9 x10 (some (.fz (tupI v))) x12 (some (.fz (tupI w))) (some (.fz (tupI (vadd v (smul (gd ss) w))))) (some (.rf (some p2 :: tl).length)) x16 x17 x18) rfl rfl
  have i2 : M.im (Pm n ss) (gd ss) w = (img (Pm n ss) w).map fun X => M.fr X (gd ss) := by simp [M.im, img, Function.comp_def]
  have s4 : b4 (rs n ss ((some p2 :: tl) ++ [some []]) (some (.fz (.int far))) x9 x10 (some (.fz (tupI v))) x12 (some (.fz (tupI w))) (some (.fz (tupI (vadd v (smul (gd ss) w))))) (some (.rf (some p2 :: tl).length)) x16 x17 x18) = some (.nx, rs n ss ((some p2 :: tl) ++ [some ((img (Pm n ss) w).map D.int)]) (some (.fz (.int far))) x9 x10 (some (.fz (tupI v))) x12 (some (.fz (tupI w))) (some (.fz (tupI (vadd v (smul (gd ss) w))))) (some (.rf (some p2 :: tl).length)) y16 y17 x18) := by
    have q : ((some p2 :: tl) ++ [some []]).set (some p2 :: tl).length (some ([] ++ (img (Pm n ss) w).map D.int)) = (some p2 :: tl) ++ [some ((img (Pm n ss) w).map D.int)] := by
      rw [List.set_append_right _ _ (Nat.le_refl _), Nat.sub_self, List.set_cons_zero, List.nil_append]
    rw [q] at e4
    have i3 : iSq (dMeth false "Matrix" "image" 2 G_Matrix_image (dVar 7) (aCons (dVar 13) aNil)) (rs n ss ((some p2 :: tl) ++ [some []]) (some (.fz (.int far))) x9 x10 (some (.fz (tupI v))) x12 (some (.fz (tupI w))) (some (.fz (tupI (vadd v (smul (gd ss) w))))) (some (.rf (some p2 :: tl).length)) x16 x17 x18) = some ((img (Pm n ss) w).map (fun X => M.fr X (gd ss)), [], rs n ss ((some p2 :: tl) ++ [some []]) (some (.fz (.int far))) x9 x10 (some (.fz (tupI v))) x12 (some (.fz (tupI w))) (some (.fz (tupI (vadd v (smul (gd ss) w))))) (some (.rf (some p2 :: tl).length)) x16 x17 x18) := by
      rw [iSq, i1, i2]
      rfl
    unfold b4
    rw [sFor, i3]
    exact e4
  have mvb : Bd 210 (vadd v (smul (gd ss) w)) := fun x hx => by
    unfold vadd at hx
    obtain ⟨i, hi, rfl⟩ := List.getElem_of_mem hx
    rw [List.getElem_zipWith]
    have hv := v2 _ (List.getElem_mem (l := v) (n := i) (by simp at hi; omega))
    have hw : (smul (gd ss) w)[i]'(by simp at hi; omega) = gd ss * w[i]'(by simp [smul] at hi; omega) := by simp [smul]
    have hw2 := w2 _ (List.getElem_mem (l := w) (n := i) (by simp [smul] at hi; omega))
    rw [hw]
    have hm2 : (gd ss * w[i]'(by simp [smul] at hi; omega)).natAbs < 2 ^ 200 := by
      rw [Int.natAbs_mul]
      exact Nat.lt_of_lt_of_le (Nat.mul_lt_mul'' g3 hw2) (by rw [← Nat.pow_add]; exact Nat.pow_le_pow_right (by decide) (by decide))
    have p1 : (2 : Nat) ^ 110 < 2 ^ 200 := by decide
    have p2 : (2 : Nat) ^ 200 + 2 ^ 200 ≤ 2 ^ 210 := by decide
    omega
  have vl := vadd_len (a := v) (b := smul (gd ss) w) (by rw [smul_len, v1, w1])
  have a1 : dMeth false "Chain" "at" 2 G_Chain_at (dVar 3) (aCons (dVar 14) aNil) (rs n ss ((some p2 :: tl) ++ [some ((img (Pm n ss) w).map D.int)]) (some (.fz (.int far))) x9 x10 (some (.fz (tupI v))) x12 (some (.fz (tupI w))) (some (.fz (tupI (vadd v (smul (gd ss) w))))) (some (.rf (some p2 :: tl).length)) y16 y17 x18) = some (.fz (tupI (runs ss (vadd v (smul (gd ss) w)))), rs n ss ((some p2 :: tl) ++ [some ((img (Pm n ss) w).map D.int)]) (some (.fz (.int far))) x9 x10 (some (.fz (tupI v))) x12 (some (.fz (tupI w))) (some (.fz (tupI (vadd v (smul (gd ss) w))))) (some (.rf (some p2 :: tl).length)) y16 y17 x18) :=
    PK.mt0 (fo := dVar 3) (x := chD n ss) rfl rv_at (aC (f := dVar 14) (g := aNil) rfl rfl) rfl rfl (g_at hn h (by rw [vl, v1]) mvb (by omega))
  have a2 : dMeth false "Chain" "at" 2 G_Chain_at (dVar 3) (aCons (dVar 11) aNil) (rs n ss ((some p2 :: tl) ++ [some ((img (Pm n ss) w).map D.int)]) (some (.fz (.int far))) x9 x10 (some (.fz (tupI v))) x12 (some (.fz (tupI w))) (some (.fz (tupI (vadd v (smul (gd ss) w))))) (some (.rf (some p2 :: tl).length)) y16 y17 x18) = some (.fz (tupI (runs ss v)), rs n ss ((some p2 :: tl) ++ [some ((img (Pm n ss) w).map D.int)]) (some (.fz (.int far))) x9 x10 (some (.fz (tupI v))) x12 (some (.fz (tupI w))) (some (.fz (tupI (vadd v (smul (gd ss) w))))) (some (.rf (some p2 :: tl).length)) y16 y17 x18) :=
    PK.mt0 (fo := dVar 3) (x := chD n ss) rfl rv_at (aC (f := dVar 11) (g := aNil) rfl rfl) rfl rfl (g_at hn h v1 v2 (by omega))
  have a3 := cl1 (G := G_law_plus) (m := false) (n := 2) (k := (some p2 :: tl).length) (aC a2 (aC (g := aNil) (f := dVar 15) rfl rfl)) rfl rfl (by show ((some p2 :: tl) ++ [some ((img (Pm n ss) w).map D.int)])[(some p2 :: tl).length]? = some (some ((img (Pm n ss) w).map D.int)); simp) (g_plus_r hn (by rw [runs_len, v1]) (by rw [img_len, hqP.1]))
  have a3' : dCallN false 2 G_law_plus (aCons (dMeth false "Chain" "at" 2 G_Chain_at (dVar 3) (aCons (dVar 11) aNil)) (aCons (dVar 15) aNil)) (rs n ss ((some p2 :: tl) ++ [some ((img (Pm n ss) w).map D.int)]) (some (.fz (.int far))) x9 x10 (some (.fz (tupI v))) x12 (some (.fz (tupI w))) (some (.fz (tupI (vadd v (smul (gd ss) w))))) (some (.rf (some p2 :: tl).length)) y16 y17 x18) = some (.fz (tupI (vadd (runs ss v) (img (Pm n ss) w))), rs n ss ((some p2 :: tl) ++ [some ((img (Pm n ss) w).map D.int)]) (some (.fz (.int far))) x9 x10 (some (.fz (tupI v))) x12 (some (.fz (tupI w))) (some (.fz (tupI (vadd v (smul (gd ss) w))))) (some (.rf (some p2 :: tl).length)) y16 y17 x18) := by
    rw [a3]
    show some (Vl.fz (tupI (vadd (runs ss v) (img (Pm n ss) w))), (⟨_, List.set ((some p2 :: tl) ++ [some ((img (Pm n ss) w).map D.int)]) _ _⟩ : Dl)) = _
    rw [set_same (by simp)]
    rfl
  rw [runs_lin hn h v1 w1] at a1
  have a4 := (dOp_ (g := eqD true) a1 a3' rfl rfl).trans (eq_same (k := 1) (nice_tupI _) (by decide) _ true)
  have s5 : b5 (rs n ss ((some p2 :: tl) ++ [some ((img (Pm n ss) w).map D.int)]) (some (.fz (.int far))) x9 x10 (some (.fz (tupI v))) x12 (some (.fz (tupI w))) (some (.fz (tupI (vadd v (smul (gd ss) w))))) (some (.rf (some p2 :: tl).length)) y16 y17 x18) = some (.nx, rs n ss ((some p2 :: tl) ++ [some ((img (Pm n ss) w).map D.int)]) (some (.fz (.int far))) x9 x10 (some (.fz (tupI v))) x12 (some (.fz (tupI w))) (some (.fz (tupI (vadd v (smul (gd ss) w))))) (some (.rf (some p2 :: tl).length)) y16 y17 x18) := by
    unfold b5
    rw [sIf_ (dB_ a4)]
    rfl
  refine ⟨p2, tl ++ [some ((img (Pm n ss) w).map D.int)], some (.fz (tupI v)), some (.fz (tupI w)), some (.fz (tupI (vadd v (smul (gd ss) w)))), some (.rf (some p2 :: tl).length), y16, y17, hp2.up (by omega), ?_⟩
  unfold ub
  rw [sSeq_nx s1, sSeq_nx s2, sSeq_nx s3, sSeq_nx s4, s5]
  rfl
end
end K12

set_option maxHeartbeats 0
namespace K12
open PySem L2 PK
/-! ### the law -/
section
variable {n m : Nat} {ss : List S} {p : List D} {st tl : List (Option (List D))} {x8 x9 x10 x11 x12 x13 x14 x15 x16 x17 x18 : Option Vl}
def ra (n : Nat) (p : List D) (x2 x3 x4 x5 x6 x7 : Option Vl) : Dl := ⟨[some (.rf 0), some (.fz (.int n)), x2, x3, x4, x5, x6, x7, none, none, none, none, none, none, none, none, none, none, none], [some p]⟩
theorem d_u1 (hn : n = 2 ∨ n = 3) (hp : Pool m p) (hm : m ≤ 5900) : ∃ ss p', (∀ s ∈ ss, Dr n s) ∧ ss.length ≤ 6 ∧ Pool (m + 67) p' ∧
    u1 (ra n p none none none none none none) = some (.nx, ra n p' (some (.fz (.lst (encs ss)))) none none none none none) := by
  have key : ∀ (R : Int), 1 ≤ R → R ≤ 12 → (aCons (dVar 0) (aCons (dVar 1) (aCons (dC (.int 6)) (aCons (dOp ixD (dLst false (aCons (dC (.int 12)) (aCons (dC (.int 6)) aNil))) (dOp subD (dVar 1) (dC (.int 2)))) aNil))) (ra n p none none none none none none) = some ([.rf 0, .fz (.int n), .fz (.int 6), .fz (.int R)], ra n p none none none none none none)) →
      ∃ ss p', (∀ s ∈ ss, Dr n s) ∧ ss.length ≤ 6 ∧ Pool (m + 67) p' ∧
    u1 (ra n p none none none none none none) = some (.nx, ra n p' (some (.fz (.lst (encs ss)))) none none none none none) := by
    intro R r1 r2 ea
    obtain ⟨ss, p1, e1, a1, a2, hp1⟩ := g_moves (T := 6) (R0 := R) hn (by decide) hp (by omega) r1 r2
    refine ⟨ss, p1, a1, a2, hp1, ?_⟩
    have f1 := cl1f (G := G_law_moves) (m := false) (n := 4) (k := 0) ea rfl rfl rfl e1
    exact (sSet_ f1).trans rfl
  rcases hn with rfl | rfl
  · exact key 12 (by decide) (by decide) rfl
  · exact key 6 (by decide) (by decide) rfl
theorem d_u2 (hn : n = 2 ∨ n = 3) (h : Oks n ss) (hl : ss.length ≤ 6) : u2 (ra n p (some (.fz (.lst (encs ss)))) none none none none none) = some (.nx, ra n p (some (.fz (.lst (encs ss)))) (some (.fz (chD n ss))) (some (.fz (.int (gd ss)))) none none none) := by
  have e1 := mk_chain hn h (fa := aCons (dVar 1) (aCons (dVar 2) aNil)) (δ := ra n p (some (.fz (.lst (encs ss)))) none none none none none) rfl
  have e2 := cl0 (G := G_law_whole) (m := false) (n := 1) (fa := aCons (dVar 2) aNil) (δ := ra n p (some (.fz (.lst (encs ss)))) none none none none none) rfl rfl rfl (g_whole h (by omega))
  rw [whole_gd, Int.one_mul] at e2
  have ea := aC e1 (aC (g := aNil) e2 rfl)
  unfold u2
  simp only [sAsg, dTup, ea, Option.bind_some, frzs, frz, Option.map_some, List.length_cons, List.length_nil]
  rfl
theorem d_u3 (hn : n = 2 ∨ n = 3) (h : Oks n ss) (hl : ss.length ≤ 6) : u3 (ra n p (some (.fz (.lst (encs ss)))) (some (.fz (chD n ss))) (some (.fz (.int (gd ss)))) none none none) = some (.nx, ra n p (some (.fz (.lst (encs ss)))) (some (.fz (chD n ss))) (some (.fz (.int (gd ss)))) (some (.fz (M.mD (Pm n ss)))) (some (.fz (.int (gd ss)))) none) := by
  have e2 := cl0f (G := G_law_linear) (m := false) (n := 2) (fa := aCons (dVar 2) (aCons (dVar 1) aNil)) (δ := ra n p (some (.fz (.lst (encs ss)))) (some (.fz (chD n ss))) (some (.fz (.int (gd ss)))) none none none) rfl rfl rfl (g_law_linear hn h (by omega))
  unfold u3
  simp only [sAsg, e2, PK.mk, Option.bind_some, frz, Option.map_some]
  rfl
theorem d_u4 (hn : n = 2 ∨ n = 3) (h : Oks n ss) (hl : ss.length ≤ 6) : u4 (ra n p (some (.fz (.lst (encs ss)))) (some (.fz (chD n ss))) (some (.fz (.int (gd ss)))) (some (.fz (M.mD (Pm n ss)))) (some (.fz (.int (gd ss)))) none) = some (.nx, rs n ss [some p] none none none none none none none none none none none) := by
  have e : dCallK false 1 0 1 [0] G_linear_part aNil (aCons (dVar 3) aNil) (ra n p (some (.fz (.lst (encs ss)))) (some (.fz (chD n ss))) (some (.fz (.int (gd ss)))) (some (.fz (M.mD (Pm n ss)))) (some (.fz (.int (gd ss)))) none) = some (.fz (LD n ss), ra n p (some (.fz (.lst (encs ss)))) (some (.fz (chD n ss))) (some (.fz (.int (gd ss)))) (some (.fz (M.mD (Pm n ss)))) (some (.fz (.int (gd ss)))) none) := by
    have g := g_linear hn h (by omega)
    have c : aCons (dVar 3) aNil (ra n p (some (.fz (.lst (encs ss)))) (some (.fz (chD n ss))) (some (.fz (.int (gd ss)))) (some (.fz (M.mD (Pm n ss)))) (some (.fz (.int (gd ss)))) none) = some ([.fz (chD n ss)], ra n p (some (.fz (.lst (encs ss)))) (some (.fz (chD n ss))) (some (.fz (.int (gd ss)))) (some (.fz (M.mD (Pm n ss)))) (some (.fz (.int (gd ss)))) none) := rfl
    simp only [dCallK, aNil, c, Option.bind_some]
    simp [pick, callG, refs, renum, lives, g, PK.putAll, LD]
  exact (sSet_ e).trans rfl
theorem d_u5 (hn : n = 2 ∨ n = 3) (h : Oks n ss) (hl : ss.length ≤ 6) : u5 (rs n ss st x8 x9 x10 x11 x12 x13 x14 x15 x16 x17 x18) = some (.nx, rs n ss st x8 x9 x10 x11 x12 x13 x14 x15 x16 x17 x18) := by
  have mx := mx200 hn h (by omega)
  have hR := mx.sqr
  have f1 := mx.make (by decide) (fa := aCons (dVar 5) (aCons (dVar 6) aNil)) (δ := rs n ss st x8 x9 x10 x11 x12 x13 x14 x15 x16 x17 x18) rfl
  have e1 := bNot_ (dB_ (eqL (fa := dVar 7) (δ := rs n ss st x8 x9 x10 x11 x12 x13 x14 x15 x16 x17 x18) rfl f1))
  have f2 := M.rw_f (R := M.lr (Pm n ss) (gd ss)) (b := M.lb (Pm n ss) (gd ss)) false (by rw [hR.1]; omega) (fo := dVar 7) (δ := rs n ss st x8 x9 x10 x11 x12 x13 x14 x15 x16 x17 x18) rfl
  have f3 := M.rw_f (R := M.lr (Pm n ss) (gd ss)) (b := M.lb (Pm n ss) (gd ss)) false (by rw [hR.1]; omega) (lin (fo := dVar 3) (δ := rs n ss st x8 x9 x10 x11 x12 x13 x14 x15 x16 x17 x18) hn h (by omega) rfl)
  have e2 := dB_ ((dOp_ (g := eqD true) f2 f3 rfl rfl).trans (eq_same (k := 2) M.nice_mD (by decide) _ true))
  have f4 := M.ln_f (R := M.lr (Pm n ss) (gd ss)) (b := M.lb (Pm n ss) (gd ss)) (by rw [hR.1]; omega) (fo := dVar 7) (δ := rs n ss st x8 x9 x10 x11 x12 x13 x14 x15 x16 x17 x18) rfl
  rw [hR.1] at f4
  have e3 := dB_ ((dOp_ (g := eqD true) f4 (fb := dVar 1) rfl rfl rfl).trans (eq_same (k := 0) nice_int (by decide) _ true))
  unfold u5
  rw [sIf_ (bOr_ff e1 (bOr_ff e2 e3))]
  rfl
theorem d_u6 (hn : n = 2 ∨ n = 3) (h : Oks n ss) (hl : ss.length ≤ 6) (hp : Pool m p) (hm : m ≤ 6000) : ∃ p' tl' y8 y11 y13 y14 y15 y16 y17, Pool (m + 72) p' ∧
    u6 (rs n ss (some p :: tl) x8 x9 x10 x11 x12 x13 x14 x15 x16 x17 x18) = some (.nx, rs n ss (some p' :: tl') y8 x9 x10 y11 x12 y13 y14 y15 y16 y17 x18) := by
  obtain ⟨p1, t1, a11, a13, a14, a15, a16, a17, hp1, e1⟩ := d_far (far := 9) (tl := tl) (x9 := x9) (x10 := x10) (x11 := x11) (x12 := x12) (x13 := x13) (x14 := x14) (x15 := x15) (x16 := x16) (x17 := x17) (x18 := x18) hn h hl (by decide) (by decide) hp (by omega)
  obtain ⟨p2, t2, b11, b13, b14, b15, b16, b17, hp2, e2⟩ := d_far (far := 10 ^ 20) (tl := t1) (x9 := x9) (x10 := x10) (x11 := a11) (x12 := x12) (x13 := a13) (x14 := a14) (x15 := a15) (x16 := a16) (x17 := a17) (x18 := x18) hn h hl (by decide) (by decide) hp1 (by omega)
  obtain ⟨p3, t3, c11, c13, c14, c15, c16, c17, hp3, e3⟩ := d_far (far := 10 ^ 29) (tl := t2) (x9 := x9) (x10 := x10) (x11 := b11) (x12 := x12) (x13 := b13) (x14 := b14) (x15 := b15) (x16 := b16) (x17 := b17) (x18 := x18) hn h hl (by decide) (by decide) hp2 (by omega)
  refine ⟨p3, t3, some (.fz (.int (10 ^ 29))), c11, c13, c14, c15, c16, c17, hp3.up (by omega), ?_⟩
  have i1 : iTupD (dTup (aCons (dC (.int 9)) (aCons (dOp powD (dC (.int 10)) (dC (.int 20))) (aCons (dOp powD (dC (.int 10)) (dC (.int 29))) aNil)))) (rs n ss (some p :: tl) x8 x9 x10 x11 x12 x13 x14 x15 x16 x17 x18) = some ([.int 9, .int (10 ^ 20), .int (10 ^ 29)], [], rs n ss (some p :: tl) x8 x9 x10 x11 x12 x13 x14 x15 x16 x17 x18) := by
    have o : okPow 10 = true := by decide
    simp [iTupD, dTup, aCons, aNil, dC, dOp, der, powD, o, frzs, frz, small]
  unfold u6
  rw [sFor, i1]
  exact forD_nm e1 (forD_nm e2 (forD_nm e3 forD_nil0))
theorem d_u7 (hl : ss.length ≤ 6) : u7 (rs n ss st x8 x9 x10 x11 x12 x13 x14 x15 x16 x17 x18) = some (.nx, rs n ss st x8 (some (.fz (.lst (encs (ss.map pl))))) x10 x11 x12 x13 x14 x15 x16 x17 x18) := by
  have e := cl0f (G := G_law_plainly) (m := false) (n := 1) (fa := aCons (dVar 2) aNil) (δ := rs n ss st x8 x9 x10 x11 x12 x13 x14 x15 x16 x17 x18) rfl rfl rfl (g_plainly (ss := ss) (by omega))
  exact (sSet_ e).trans rfl
theorem d_u8 (hn : n = 2 ∨ n = 3) (h : Oks n ss) (hl : ss.length ≤ 6) (hp : Pool m p) (hm : m ≤ 7000) : ∃ v p', v.length = n ∧ Bd 110 v ∧ Pool (m + 12) p' ∧
    u8 (rs n ss (some p :: tl) x8 (some (.fz (.lst (encs (ss.map pl))))) x10 x11 x12 x13 x14 x15 x16 x17 x18) = some (.nx, rs n ss (some p' :: tl) x8 (some (.fz (.lst (encs (ss.map pl))))) (some (.fz (LD n (ss.map pl)))) (some (.fz (tupI v))) x12 x13 x14 x15 x16 x17 x18) := by
  obtain ⟨v, p1, e1, v1, v2, hp1⟩ := g_place (far := 10 ^ 20) hn hp (by omega) (by decide) (by decide)
  refine ⟨v, p1, v1, v2, hp1, ?_⟩
  have f1 := lin hn (oks_pl h) (by rw [List.length_map]; omega) (mk_chain hn (oks_pl h) (fa := aCons (dVar 1) (aCons (dVar 9) aNil)) (δ := rs n ss (some p :: tl) x8 (some (.fz (.lst (encs (ss.map pl))))) x10 x11 x12 x13 x14 x15 x16 x17 x18) (δ' := rs n ss (some p :: tl) x8 (some (.fz (.lst (encs (ss.map pl))))) x10 x11 x12 x13 x14 x15 x16 x17 x18) rfl)
  have o : okPow 10 = true := by decide
  have ea : aCons (dVar 0) (aCons (dVar 1) (aCons (dOp powD (dC (.int 10)) (dC (.int 20))) aNil)) (rs n ss (some p :: tl) x8 (some (.fz (.lst (encs (ss.map pl))))) x10 x11 x12 x13 x14 x15 x16 x17 x18) = some ([.rf 0, .fz (.int n), .fz (.int (10 ^ 20))], rs n ss (some p :: tl) x8 (some (.fz (.lst (encs (ss.map pl))))) x10 x11 x12 x13 x14 x15 x16 x17 x18) := by
    simp [rs, aCons, aNil, dVar, dC, dOp, der, powD, o]
  have f2 := cl1 (G := G_law_place) (m := false) (n := 3) (k := 0) ea rfl rfl rfl e1
  exact (sPar2 (aC f1 (aC (g := aNil) f2 rfl))).trans rfl
def due (n : Nat) (ss : List S) (v : List Int) : D := .lst ((runs (ss.map pl) v).map fun x => .tup [.int x, .int 1])
theorem d_u9 {v : List Int} (hn : n = 2 ∨ n = 3) (h : Oks n ss) (hl : ss.length ≤ 6) (v1 : v.length = n) (v2 : Bd 110 v) :
    u9 (rs n ss st x8 (some (.fz (.lst (encs (ss.map pl))))) x10 (some (.fz (tupI v))) x12 x13 x14 x15 x16 x17 x18) = some (.nx, rs n ss st x8 (some (.fz (.lst (encs (ss.map pl))))) x10 (some (.fz (tupI v))) (some (.fz (due n ss v))) x13 x14 x15 x16 x17 x18) := by
  have e1 := cl0 (G := G_law_end) (m := false) (n := 2) (fa := aCons (dVar 9) (aCons (dVar 11) aNil)) (δ := rs n ss st x8 (some (.fz (.lst (encs (ss.map pl))))) x10 (some (.fz (tupI v))) x12 x13 x14 x15 x16 x17 x18) rfl rfl rfl (g_end hn (oks_pl h) v1 v2 (by rw [List.length_map]; omega) (by rw [List.length_map]; omega))
  have i1 : iSq (dCallN false 2 G_law_end (aCons (dVar 9) (aCons (dVar 11) aNil))) (rs n ss st x8 (some (.fz (.lst (encs (ss.map pl))))) x10 (some (.fz (tupI v))) x12 x13 x14 x15 x16 x17 x18) = some ((runs (ss.map pl) v).map D.int, [], rs n ss st x8 (some (.fz (.lst (encs (ss.map pl))))) x10 (some (.fz (tupI v))) x12 x13 x14 x15 x16 x17 x18) := by
    rw [iSq, e1]
    rfl
  have e := M.lc_mapI (m := false) (fi := iSq (dCallN false 2 G_law_end (aCons (dVar 9) (aCons (dVar 11) aNil)))) (elt := dTup (aCons (dVar 18) (aCons (dC (.int 1)) aNil))) (j := 18) (sl := (rs n ss st x8 (some (.fz (.lst (encs (ss.map pl))))) x10 (some (.fz (tupI v))) x12 x13 x14 x15 x16 x17 x18).sl) (st := st) (xs := runs (ss.map pl) v) (en := D.int) (out := fun x => .tup [.int x, .int 1]) i1 (by rw [runs_len]; omega) fun x hx => ⟨_, rfl⟩
  exact (sSet_ (e.trans rfl)).trans rfl
theorem fr_one (x : Int) : M.fr x 1 = .tup [.int x, .int 1] := by
  have h : M.gI x 1 = 1 := by simp [M.gI]
  unfold M.fr
  rw [h, Int.ediv_one, Int.ediv_one]
theorem d_u10 {v : List Int} (hn : n = 2 ∨ n = 3) (h : Oks n ss) (hl : ss.length ≤ 6) (v1 : v.length = n) (v2 : Bd 110 v) :
    u10 (rs n ss st x8 x9 (some (.fz (LD n (ss.map pl)))) (some (.fz (tupI v))) (some (.fz (due n ss v))) x13 x14 x15 x16 x17 x18) = some (.nx, rs n ss st x8 x9 (some (.fz (LD n (ss.map pl)))) (some (.fz (tupI v))) (some (.fz (due n ss v))) x13 x14 x15 x16 x17 x18) := by
  have mx := mx200 hn (oks_pl h) (by rw [List.length_map]; omega)
  have f1 := M.bt_f (R := M.lr (Pm n (ss.map pl)) (gd (ss.map pl))) (b := M.lb (Pm n (ss.map pl)) (gd (ss.map pl))) (fo := dVar 10) (δ := rs n ss st x8 x9 (some (.fz (LD n (ss.map pl)))) (some (.fz (tupI v))) (some (.fz (due n ss v))) x13 x14 x15 x16 x17 x18) rfl
  have hb : M.lb (Pm n (ss.map pl)) (gd (ss.map pl)) = 1 := by rw [gd_pl]; exact M.one_of.2
  rw [hb] at f1
  have e1 := dB_ ((dOp_ (g := eqD true) f1 (fb := dC (.int 1)) rfl rfl rfl).trans (eq_same (k := 0) nice_int (by decide) _ true))
  have f2 := M.image_ mx (by decide) (v := v) (sm_of v2 (by decide)) false (fo := dVar 10) (fv := dVar 11) (δ := rs n ss st x8 x9 (some (.fz (LD n (ss.map pl)))) (some (.fz (tupI v))) (some (.fz (due n ss v))) x13 x14 x15 x16 x17 x18) rfl rfl
  have hd : D.lst (M.im (Pm n (ss.map pl)) (gd (ss.map pl)) v) = due n ss v := by
    unfold due
    rw [runs_pl hn h v1, gd_pl]
    simp [M.im, img, Function.comp_def, fr_one]
  have f3 : dMeth false "Matrix" "image" 2 G_Matrix_image (dVar 10) (aCons (dVar 11) aNil) (rs n ss st x8 x9 (some (.fz (LD n (ss.map pl)))) (some (.fz (tupI v))) (some (.fz (due n ss v))) x13 x14 x15 x16 x17 x18) = some (.fz (due n ss v), rs n ss st x8 x9 (some (.fz (LD n (ss.map pl)))) (some (.fz (tupI v))) (some (.fz (due n ss v))) x13 x14 x15 x16 x17 x18) := by
    rw [f2, ← hd]
    rfl
  have nd : Nice 2 (due n ss v) := nice_lst fun d hd => by
    obtain ⟨x, _, rfl⟩ := List.mem_map.mp hd
    exact nice_tup fun y hy => by
      simp only [List.mem_cons, List.not_mem_nil, or_false] at hy
      rcases hy with rfl | rfl <;> exact nice_int
  have e2 := dB_ ((dOp_ (g := eqD true) f3 (fb := dVar 12) rfl rfl rfl).trans (eq_same nd (by decide) _ true))
  unfold u10
  rw [sIf_ (bOr_ff e1 e2)]
  rfl
theorem d_u11 : u11 (rs n ss st x8 x9 x10 x11 x12 x13 x14 x15 x16 x17 x18) = some (.rt (.fz (.bl true)), rs n ss st x8 x9 x10 x11 x12 x13 x14 x15 x16 x17 x18) := by
  have e1 := st_f (n := n) (ss := ss) (fo := dVar 3) (δ := rs n ss st x8 x9 x10 x11 x12 x13 x14 x15 x16 x17 x18) rfl
  have e2 := (dOp_ (g := eqD false) e1 (fb := dVar 2) rfl rfl rfl).trans (eq_same (k := 3) nice_lencs (by decide) _ false)
  unfold u11
  rw [sRet, e2]
  rfl
theorem g_right (hn : n = 2 ∨ n = 3) (hp : Pool m p) (hm : m ≤ 5900) : ∃ p', G_law_right [.rf 0, .fz (.int n)] [p] = some (.val (.bl true), [p']) ∧ Pool (m + 160) p' := by
  obtain ⟨ss, p1, a1, hl, hp1, e1⟩ := d_u1 hn hp hm
  have h : Oks n ss := fun s hs => (a1 s hs).1
  have e2 := d_u2 (p := p1) hn h hl
  have e3 := d_u3 (p := p1) hn h hl
  have e4 := d_u4 (p := p1) hn h hl
  have e5 := d_u5 (st := [some p1]) (x8 := none) (x9 := none) (x10 := none) (x11 := none) (x12 := none) (x13 := none) (x14 := none) (x15 := none) (x16 := none) (x17 := none) (x18 := none) hn h hl
  obtain ⟨p2, t2, y8, y11, y13, y14, y15, y16, y17, hp2, e6⟩ := d_u6 (tl := []) (x8 := none) (x9 := none) (x10 := none) (x11 := none) (x12 := none) (x13 := none) (x14 := none) (x15 := none) (x16 := none) (x17 := none) (x18 := none) hn h hl hp1 (by omega)
  have e7 := d_u7 (n := n) (st := some p2 :: t2) (x8 := y8) (x9 := none) (x10 := none) (x11 := y11) (x12 := none) (x13 := y13) (x14 := y14) (x15 := y15) (x16 := y16) (x17 := y17) (x18 := none) hl
  obtain ⟨v, p3, v1, v2, hp3, e8⟩ := d_u8 (tl := t2) (x8 := y8) (x10 := none) (x11 := y11) (x12 := none) (x13 := y13) (x14 := y14) (x15 := y15) (x16 := y16) (x17 := y17) (x18 := none) hn h hl hp2 (by omega)
  have e9 := d_u9 (st := some p3 :: t2) (x8 := y8) (x10 := some (.fz (LD n (ss.map pl)))) (x12 := none) (x13 := y13) (x14 := y14) (x15 := y15) (x16 := y16) (x17 := y17) (x18 := none) hn h hl v1 v2
  have e10 := d_u10 (st := some p3 :: t2) (x8 := y8) (x9 := some (.fz (.lst (encs (ss.map pl))))) (x13 := y13) (x14 := y14) (x15 := y15) (x16 := y16) (x17 := y17) (x18 := none) hn h hl v1 v2
  have e11 := d_u11 (n := n) (ss := ss) (st := some p3 :: t2) (x8 := y8) (x9 := some (.fz (.lst (encs (ss.map pl))))) (x10 := some (.fz (LD n (ss.map pl)))) (x11 := some (.fz (tupI v))) (x12 := some (.fz (due n ss v))) (x13 := y13) (x14 := y14) (x15 := y15) (x16 := y16) (x17 := y17) (x18 := none)
  refine ⟨p3, ?_, hp3.up (by omega)⟩
  unfold G_law_right fnD
  rw [f_law_right_eq]
  show ((sSeq u1 _ (ra n p none none none none none none)).bind _) = _
  rw [sSeq_nx e1, sSeq_nx e2, sSeq_nx e3, sSeq_nx e4, sSeq_nx e5, sSeq_nx e6, sSeq_nx e7, sSeq_nx e8, sSeq_nx e9, sSeq_nx e10, e11]
  rfl
end
noncomputable def lC : SF := sIf (bNot (dB (dCallN false 2 G_law_right (aCons (dVar 2) (aCons (dVar 3) aNil))))) (sRet (dC (.bl false))) sNext
noncomputable def lB : SF := sSeq (sSet 2 (dCallN true 2 G_law_pool (aCons (dVar 0) (aCons (dVar 1) aNil)))) (sFor (iTupD (dTup (aCons (dC (.int 2)) (aCons (dC (.int 3)) (aCons (dC (.int 2)) aNil))))) (.nm 3) lC)
noncomputable def lI : IF := iRg1 (dCB maxD (aCons (dC (.int 1)) (aCons (dCB minD (aCons (dC (.int 6)) (aCons (dCB lenD (aCons (dVar 0) aNil)) aNil))) aNil)))
noncomputable def lE : SF := sRet (dC (.bl true))
theorem f_law_eq : f_law = sSeq (sFor lI (.nm 1) lB) lE := rfl
theorem d_lC {n m k : Nat} {A B : Option Vl} {st : List (Option (List D))} {p : List D} (hn : n = 2 ∨ n = 3) (hk : st[k]? = some (some p)) (hp : Pool m p) (hm : m ≤ 5900) : ∃ p', Pool (m + 160) p' ∧ lC ⟨[A, B, some (.rf k), some (.fz (.int n))], st⟩ = some (.nx, ⟨[A, B, some (.rf k), some (.fz (.int n))], st.set k (some p')⟩) := by
  obtain ⟨p1, e1, hp1⟩ := g_right hn hp (by omega)
  have f1 := cl1 (G := G_law_right) (m := false) (n := 2) (fa := aCons (dVar 2) (aCons (dVar 3) aNil)) (δ := ⟨[A, B, some (.rf k), some (.fz (.int n))], st⟩) (δ' := ⟨[A, B, some (.rf k), some (.fz (.int n))], st⟩) (rs := [.rf k, .fz (.int n)]) (k := k) rfl rfl rfl hk e1
  refine ⟨p1, hp1.up (by omega), ?_⟩
  unfold lC
  rw [sIf_ (bNot_ (dB_ f1))]
  rfl
theorem d_lL {k : Nat} {A B : Option Vl} : ∀ (ns : List Nat) (m : Nat) (x3 : Option Vl) (st : List (Option (List D))) (p : List D), (∀ n ∈ ns, n = 2 ∨ n = 3) → st[k]? = some (some p) → Pool m p → m + 160 * ns.length ≤ 5900 →
    ∃ y3 st', forD [] (.nm 3) lC (ns.map fun (n : Nat) => D.int (n : Int)) ⟨[A, B, some (.rf k), x3], st⟩ = some (.nx, ⟨[A, B, some (.rf k), y3], st'⟩)
  | [], m, x3, st, p, _, _, _, _ => ⟨x3, st, forD_nil0⟩
  | n :: ns, m, x3, st, p, hs, hk, hp, hm => by
    rw [List.length_cons] at hm
    obtain ⟨p', hp', e⟩ := d_lC (A := A) (B := B) (hs n List.mem_cons_self) hk hp (by omega)
    have hlt := (List.getElem?_eq_some_iff.mp hk).1
    obtain ⟨z3, st', e2⟩ := d_lL (A := A) (B := B) ns (m + 160) (some (.fz (.int n))) (st.set k (some p')) p' (fun x hx => hs x (List.mem_cons_of_mem _ hx)) (List.getElem?_set_self hlt) hp' (by omega)
    exact ⟨z3, st', forD_nm e e2⟩
theorem d_lB {ns : List Int} {i : Nat} (hi : i ≤ 10) {x2 x3 : Option Vl} {st : List (Option (List D))} : ∃ st' y2 y3, lB ⟨[some (.fz (.scr ns)), some (.fz (.int i)), x2, x3], st⟩ = some (.nx, ⟨[some (.fz (.scr ns)), some (.fz (.int i)), y2, y3], st'⟩) := by
  obtain ⟨p, e1, hp⟩ := g_pool (ns := ns) hi
  have e2 := cl0f (G := G_law_pool) (m := true) (n := 2) (fa := aCons (dVar 0) (aCons (dVar 1) aNil)) (δ := ⟨[some (.fz (.scr ns)), some (.fz (.int i)), x2, x3], st⟩) rfl rfl rfl e1
  have s1 : sSet 2 (dCallN true 2 G_law_pool (aCons (dVar 0) (aCons (dVar 1) aNil))) ⟨[some (.fz (.scr ns)), some (.fz (.int i)), x2, x3], st⟩ = some (.nx, ⟨[some (.fz (.scr ns)), some (.fz (.int i)), some (.rf st.length), x3], st ++ [some p]⟩) := by
    rw [sSet_ e2]
    rfl
  obtain ⟨y3, st', e3⟩ := d_lL (A := some (.fz (.scr ns))) (B := some (.fz (.int i))) (k := st.length) [2, 3, 2] 0 x3 (st ++ [some p]) p (by decide) (by simp) hp (by decide)
  refine ⟨st', some (.rf st.length), y3, ?_⟩
  unfold lB
  rw [sSeq_nx s1, sFor]
  exact e3
theorem law_true (ns : List Int) (h : ns.length ≤ 63 ∧ ∀ z ∈ ns, Builtin.Int.intBits z ≤ 1048576) : G_law [.fz (.scr ns)] [] = some (.val (.bl true), []) := by
  have e1 : ∃ k : Nat, k ≤ 10 ∧ lI ⟨[some (.fz (.scr ns)), none, none, none], []⟩ = some (rangeD 0 k, [], ⟨[some (.fz (.scr ns)), none, none, none], []⟩) := by
    have h1 : lI ⟨[some (.fz (.scr ns)), none, none, none], []⟩ = (if okR (if (if (ns.length : Int) < 6 then (ns.length : Int) else 6) > 1 then (if (ns.length : Int) < 6 then (ns.length : Int) else 6) else 1) then some (rangeD 0 (if (if (ns.length : Int) < 6 then (ns.length : Int) else 6) > 1 then (if (ns.length : Int) < 6 then (ns.length : Int) else 6) else 1).toNat, [], (⟨[some (.fz (.scr ns)), none, none, none], []⟩ : Dl)) else none) := rfl
    have hX : 0 ≤ (if (if (ns.length : Int) < 6 then (ns.length : Int) else 6) > 1 then (if (ns.length : Int) < 6 then (ns.length : Int) else 6) else 1) ∧ (if (if (ns.length : Int) < 6 then (ns.length : Int) else 6) > 1 then (if (ns.length : Int) < 6 then (ns.length : Int) else 6) else 1) ≤ 10 := by
      by_cases a : (ns.length : Int) < 6
      · rw [if_pos a]
        split <;> omega
      · rw [if_neg a]
        decide
    generalize (if (if (ns.length : Int) < 6 then (ns.length : Int) else 6) > 1 then (if (ns.length : Int) < 6 then (ns.length : Int) else 6) else 1) = X at h1 hX
    refine ⟨X.toNat, by omega, ?_⟩
    rw [h1, if_pos]
    unfold okR
    omega
  obtain ⟨k, hk, e1⟩ := e1
  obtain ⟨δ', e2, x1, x2, x3, st, rfl⟩ := forD_inv (tg := .nm 1) (body := lB) (ck := []) (fun i δ => ∃ x1 x2 x3 st, δ = ⟨[some (.fz (.scr ns)), x1, x2, x3], st⟩) (fun i δ _ => by simp) (rangeD 0 k) 0 ⟨[some (.fz (.scr ns)), none, none, none], []⟩ ⟨_, _, _, _, rfl⟩ (by
    rintro j d δ hj ⟨x1, x2, x3, st, rfl⟩
    have hjk : j < k := by
      obtain ⟨hlt, _⟩ := List.getElem?_eq_some_iff.mp hj
      simpa [rangeD] using hlt
    rw [rangeD_get hjk] at hj
    cases hj
    rw [Int.zero_add]
    obtain ⟨st', y2, y3, e⟩ := d_lB (ns := ns) (i := j) (by omega) (x2 := x2) (x3 := x3) (st := st)
    exact ⟨_, rfl, _, e, _, _, _, _, rfl⟩)
  have s1 : sFor lI (.nm 1) lB ⟨[some (.fz (.scr ns)), none, none, none], []⟩ = some (.nx, ⟨[some (.fz (.scr ns)), x1, x2, x3], st⟩) := by
    rw [sFor, e1]
    exact e2
  unfold G_law fnD
  rw [f_law_eq]
  show ((sSeq _ _ ⟨[some (.fz (.scr ns)), none, none, none], []⟩).bind _) = _
  rw [sSeq_nx s1]
  rfl
end K12

namespace K12
open PySem L2 PySem.Spec PyProof.Rows PK
/-! ### the head -/
theorem law_spec (K : PySem.W.Frag) (mg : Str → Option Value) {Pg : List Int → Prop} (hG : ∀ ns : List Int, Pg ns → G_law [.fz (.scr ns)] [] = some (.val (.bl true), [])) (vs : List V) (H : Hp) (Q : VK) (E : XK) (h : ∃ (a : Addr) (ns : List Int), vs = [.ref a] ∧ SqL K H a (ns.map V.int) ∧ Pg ns ∧ ∀ H', Q (.bl true) H') : spD K mg 1 G_law vs H Q E := lawSpec hG h
set_option maxHeartbeats 0 in
theorem all_mk {l : PySem.W.OpenLaw} {w : World} {K : PySem.W.Frag} {h : Heap} {mg : Str → Option Value} {fa : Addr} (X : K.In h) (G : h.Ns mainGlobals mg) (hfa : mg "law" = some (.ref fa))
    {Pg : List Int → Prop} (hG : ∀ ns : List Int, Pg ns → G_law [.fz (.scr ns)] [] = some (.val (.bl true), []))
    {f0 f1 f2 f3 f4 f5 f6 f7 f8 f9 f10 f11 f12 f13 f14 f15 f16 f17 f18 f19 f20 f21 f22 f23 f24 f25 f26 f27 f28 f29 f30 f31 f32 f33 f34 f35 f36 f37 f38 f39 f40 f41 f42 f43 f44 C0 C1 p6 p7 p12 p13 : Addr}
    {od0 an0 od1 an1 od2 an2 od3 an3 od4 an4 od5 an5 od6 an6 od7 an7 od8 an8 od9 an9 od10 an10 od11 an11 od12 an12 od13 an13 od14 an14 od15 an15 od16 an16 od17 an17 od18 an18 od19 an19 od20 an20 od21 an21 od22 an22 od23 an23 od24 an24 od25 an25 od26 an26 od27 an27 od28 an28 od29 an29 od30 an30 od31 an31 od32 an32 od33 an33 od34 an34 od35 an35 od36 an36 od37 an37 od38 an38 od39 an39 od40 an40 od41 an41 od42 an42 od43 an43 od44 an44 : Option Addr}
    {sl0 sl1 sl2 sl3 sl4 sl5 sl6 sl7 sl8 sl9 sl10 sl11 sl12 sl13 sl14 sl15 sl16 sl17 sl18 sl19 sl20 sl21 sl22 sl23 sl24 sl25 sl26 sl27 sl28 sl29 sl30 sl31 sl32 sl33 sl34 sl35 sl36 sl37 sl38 sl39 sl40 sl41 sl42 sl43 sl44 : Array (Option Value)}
    {oc0 kV0 dc0 pm0 cd0 ct0 oc1 kV1 dc1 pm1 cd1 ct1 oc2 kV2 dc2 pm2 cd2 ct2 oc3 kV3 dc3 pm3 cd3 ct3 oc4 kV4 dc4 pm4 cd4 ct4 oc5 kV5 dc5 pm5 cd5 ct5 oc6 kV6 dc6 pm6 cd6 ct6 oc7 kV7 dc7 pm7 cd7 ct7 oc8 kV8 dc8 pm8 cd8 ct8 oc9 kV9 dc9 pm9 cd9 ct9 oc10 kV10 dc10 pm10 cd10 ct10 oc11 kV11 dc11 pm11 cd11 ct11 oc12 kV12 dc12 pm12 cd12 ct12 oc13 kV13 dc13 pm13 cd13 ct13 oc14 kV14 dc14 pm14 cd14 ct14 oc15 kV15 dc15 pm15 cd15 ct15 oc16 kV16 dc16 pm16 cd16 ct16 oc17 kV17 dc17 pm17 cd17 ct17 oc18 kV18 dc18 pm18 cd18 ct18 oc19 kV19 dc19 pm19 cd19 ct19 oc20 kV20 dc20 pm20 cd20 ct20 oc21 kV21 dc21 pm21 cd21 ct21 oc22 kV22 dc22 pm22 cd22 ct22 oc23 kV23 dc23 pm23 cd23 ct23 oc24 kV24 dc24 pm24 cd24 ct24 oc25 kV25 dc25 pm25 cd25 ct25 oc26 kV26 dc26 pm26 cd26 ct26 oc27 kV27 dc27 pm27 cd27 ct27 oc28 kV28 dc28 pm28 cd28 ct28 oc29 kV29 dc29 pm29 cd29 ct29 oc30 kV30 dc30 pm30 cd30 ct30 oc31 kV31 dc31 pm31 cd31 ct31 oc32 kV32 dc32 pm32 cd32 ct32 oc33 kV33 dc33 pm33 cd33 ct33 oc34 kV34 dc34 pm34 cd34 ct34 oc35 kV35 dc35 pm35 cd35 ct35 oc36 kV36 dc36 pm36 cd36 ct36 oc37 kV37 dc37 pm37 cd37 ct37 oc38 kV38 dc38 pm38 cd38 ct38 oc39 kV39 dc39 pm39 cd39 ct39 oc40 kV40 dc40 pm40 cd40 ct40 oc41 kV41 dc41 pm41 cd41 ct41 oc42 kV42 dc42 pm42 cd42 ct42 oc43 kV43 dc43 pm43 cd43 ct43 oc44 kV44 dc44 pm44 cd44 ct44 : Value}
    {r6 r7 r12 r13 : List Value}
    (at0 : PySem.W.nsIn K mainGlobals "fraction" = some (some (.ref f0)))
    (at1 : PySem.W.nsIn K mainGlobals "dot" = some (some (.ref f1)))
    (at2 : PySem.W.nsIn K mainGlobals "multiple" = some (some (.ref f2)))
    (at3 : PySem.W.nsIn K mainGlobals "_are_integers" = some (some (.ref f3)))
    (at4 : PySem.W.nsIn K mainGlobals "plain_step" = some (some (.ref f4)))
    (at5 : PySem.W.nsIn K mainGlobals "unit_basis" = some (some (.ref f5)))
    (at10 : PySem.W.nsIn K mainGlobals "_check_matrix" = some (some (.ref f10)))
    (at11 : PySem.W.nsIn K mainGlobals "_common_divisor" = some (some (.ref f11)))
    (at15 : PySem.W.nsIn K mainGlobals "_law_pool" = some (some (.ref f15)))
    (at16 : PySem.W.nsIn K mainGlobals "_law_draw" = some (some (.ref f16)))
    (at17 : PySem.W.nsIn K mainGlobals "_law_back" = some (some (.ref f17)))
    (at18 : PySem.W.nsIn K mainGlobals "_law_done" = some (some (.ref f18)))
    (at19 : PySem.W.nsIn K mainGlobals "_law_whole" = some (some (.ref f19)))
    (at20 : PySem.W.nsIn K mainGlobals "_law_linear" = some (some (.ref f20)))
    (at21 : PySem.W.nsIn K mainGlobals "_law_plus" = some (some (.ref f21)))
    (at22 : PySem.W.nsIn K mainGlobals "_law_plainly" = some (some (.ref f22)))
    (at23 : PySem.W.nsIn K mainGlobals "_are_channels" = some (some (.ref f23)))
    (at24 : PySem.W.nsIn K mainGlobals "apply_step" = some (some (.ref f24)))
    (at27 : PySem.W.nsIn K mainGlobals "_law_divisor" = some (some (.ref f27)))
    (at28 : PySem.W.nsIn K mainGlobals "_law_weights" = some (some (.ref f28)))
    (at29 : PySem.W.nsIn K mainGlobals "_law_more" = some (some (.ref f29)))
    (at30 : PySem.W.nsIn K mainGlobals "_law_plain" = some (some (.ref f30)))
    (at31 : PySem.W.nsIn K mainGlobals "_law_entry" = some (some (.ref f31)))
    (at32 : PySem.W.nsIn K mainGlobals "_law_walk" = some (some (.ref f32)))
    (at33 : PySem.W.nsIn K mainGlobals "_is_lift" = some (some (.ref f33)))
    (at35 : PySem.W.nsIn K mainGlobals "_law_lift" = some (some (.ref f35)))
    (at36 : PySem.W.nsIn K mainGlobals "_law_place" = some (some (.ref f36)))
    (at37 : PySem.W.nsIn K mainGlobals "_law_end" = some (some (.ref f37)))
    (at38 : PySem.W.nsIn K mainGlobals "is_step" = some (some (.ref f38)))
    (at39 : PySem.W.nsIn K mainGlobals "linear_part" = some (some (.ref f39)))
    (at40 : PySem.W.nsIn K mainGlobals "_law_moves" = some (some (.ref f40)))
    (at41 : PySem.W.nsIn K mainGlobals "_check_chain" = some (some (.ref f41)))
    (at43 : PySem.W.nsIn K mainGlobals "_law_right" = some (some (.ref f43)))
    (at44 : PySem.W.nsIn K mainGlobals "law" = some (some (.ref f44)))
    (aC0 : PySem.W.nsIn K mainGlobals "Matrix" = some (some (.ref C0)))
    (aC1 : PySem.W.nsIn K mainGlobals "Chain" = some (some (.ref C1)))
    (pa6 : PySem.W.findIn K (.ref C0) "rows" = some (some (.ref p6)))
    (pb6 : PySem.W.specialIn K (.ref p6) "__get__" = some (some (.builtin "property.__get__")))
    (pc6 : PySem.W.takesIn K (.ref p6) = some true)
    (pd6 : PySem.W.recIn K p6 "property" = some (.ref f6 :: r6))
    (pa7 : PySem.W.findIn K (.ref C0) "bottom" = some (some (.ref p7)))
    (pb7 : PySem.W.specialIn K (.ref p7) "__get__" = some (some (.builtin "property.__get__")))
    (pc7 : PySem.W.takesIn K (.ref p7) = some true)
    (pd7 : PySem.W.recIn K p7 "property" = some (.ref f7 :: r7))
    (at8 : PySem.W.findIn K (.ref C0) "__len__" = some (some (.ref f8)))
    (fn8 : PySem.W.isFn K (.ref f8) = true)
    (at9 : PySem.W.findIn K (.ref C0) "__eq__" = some (some (.ref f9)))
    (fn9 : PySem.W.isFn K (.ref f9) = true)
    (pa12 : PySem.W.findIn K (.ref C1) "channels" = some (some (.ref p12)))
    (pb12 : PySem.W.specialIn K (.ref p12) "__get__" = some (some (.builtin "property.__get__")))
    (pc12 : PySem.W.takesIn K (.ref p12) = some true)
    (pd12 : PySem.W.recIn K p12 "property" = some (.ref f12 :: r12))
    (pa13 : PySem.W.findIn K (.ref C1) "steps" = some (some (.ref p13)))
    (pb13 : PySem.W.specialIn K (.ref p13) "__get__" = some (some (.builtin "property.__get__")))
    (pc13 : PySem.W.takesIn K (.ref p13) = some true)
    (pd13 : PySem.W.recIn K p13 "property" = some (.ref f13 :: r13))
    (at14 : PySem.W.findIn K (.ref C1) "grid" = some (some (.ref f14)))
    (fn14 : PySem.W.isFn K (.ref f14) = true)
    (at25 : PySem.W.findIn K (.ref C0) "__init__" = some (some (.ref f25)))
    (fn25 : PySem.W.isFn K (.ref f25) = true)
    (at26 : PySem.W.findIn K (.ref C0) "image" = some (some (.ref f26)))
    (fn26 : PySem.W.isFn K (.ref f26) = true)
    (at34 : PySem.W.findIn K (.ref C1) "at" = some (some (.ref f34)))
    (fn34 : PySem.W.isFn K (.ref f34) = true)
    (at42 : PySem.W.findIn K (.ref C1) "__init__" = some (some (.ref f42)))
    (fn42 : PySem.W.isFn K (.ref f42) = true)
    (l0 : K.lookup f0 = some ⟨oc0, od0, .func (PySem.W.fnOf "fraction" "fraction" (defArgs s_fraction) (defBody s_fraction) (defScope s_fraction) .none kV0 dc0 pm0 an0 cd0 ct0), sl0⟩)
    (cc0 : PySem.W.codeIn K cd0 "fraction" = true)
    (kk0 : PySem.W.keepIn K (.ref f0) = true)
    (l1 : K.lookup f1 = some ⟨oc1, od1, .func (PySem.W.fnOf "dot" "dot" (defArgs s_dot) (defBody s_dot) (defScope s_dot) .none kV1 dc1 pm1 an1 cd1 ct1), sl1⟩)
    (cc1 : PySem.W.codeIn K cd1 "dot" = true)
    (kk1 : PySem.W.keepIn K (.ref f1) = true)
    (l2 : K.lookup f2 = some ⟨oc2, od2, .func (PySem.W.fnOf "multiple" "multiple" (defArgs s_multiple) (defBody s_multiple) (defScope s_multiple) .none kV2 dc2 pm2 an2 cd2 ct2), sl2⟩)
    (cc2 : PySem.W.codeIn K cd2 "multiple" = true)
    (kk2 : PySem.W.keepIn K (.ref f2) = true)
    (l3 : K.lookup f3 = some ⟨oc3, od3, .func (PySem.W.fnOf "_are_integers" "_are_integers" (defArgs s_are_integers) (defBody s_are_integers) (defScope s_are_integers) .none kV3 dc3 pm3 an3 cd3 ct3), sl3⟩)
    (cc3 : PySem.W.codeIn K cd3 "_are_integers" = true)
    (kk3 : PySem.W.keepIn K (.ref f3) = true)
    (l4 : K.lookup f4 = some ⟨oc4, od4, .func (PySem.W.fnOf "plain_step" "plain_step" (defArgs s_plain_step) (defBody s_plain_step) (defScope s_plain_step) .none kV4 dc4 pm4 an4 cd4 ct4), sl4⟩)
    (cc4 : PySem.W.codeIn K cd4 "plain_step" = true)
    (kk4 : PySem.W.keepIn K (.ref f4) = true)
    (l5 : K.lookup f5 = some ⟨oc5, od5, .func (PySem.W.fnOf "unit_basis" "unit_basis" (defArgs s_unit_basis) (defBody s_unit_basis) (defScope s_unit_basis) .none kV5 dc5 pm5 an5 cd5 ct5), sl5⟩)
    (cc5 : PySem.W.codeIn K cd5 "unit_basis" = true)
    (kk5 : PySem.W.keepIn K (.ref f5) = true)
    (l6 : K.lookup f6 = some ⟨oc6, od6, .func (PySem.W.fnOf "rows" "Matrix.rows" (defArgs s_Matrix_rows) (defBody s_Matrix_rows) (defScope s_Matrix_rows) .none kV6 dc6 pm6 an6 cd6 ct6), sl6⟩)
    (cc6 : PySem.W.codeIn K cd6 "Matrix.rows" = true)
    (kk6 : PySem.W.keepIn K (.ref f6) = true)
    (l7 : K.lookup f7 = some ⟨oc7, od7, .func (PySem.W.fnOf "bottom" "Matrix.bottom" (defArgs s_Matrix_bottom) (defBody s_Matrix_bottom) (defScope s_Matrix_bottom) .none kV7 dc7 pm7 an7 cd7 ct7), sl7⟩)
    (cc7 : PySem.W.codeIn K cd7 "Matrix.bottom" = true)
    (kk7 : PySem.W.keepIn K (.ref f7) = true)
    (l8 : K.lookup f8 = some ⟨oc8, od8, .func (PySem.W.fnOf "__len__" "Matrix.__len__" (defArgs s_Matrix_len) (defBody s_Matrix_len) (defScope s_Matrix_len) .none kV8 dc8 pm8 an8 cd8 ct8), sl8⟩)
    (cc8 : PySem.W.codeIn K cd8 "Matrix.__len__" = true)
    (kk8 : PySem.W.keepIn K (.ref f8) = true)
    (l9 : K.lookup f9 = some ⟨oc9, od9, .func (PySem.W.fnOf "__eq__" "Matrix.__eq__" (defArgs s_Matrix_eq) (defBody s_Matrix_eq) (defScope s_Matrix_eq) .none kV9 dc9 pm9 an9 cd9 ct9), sl9⟩)
    (cc9 : PySem.W.codeIn K cd9 "Matrix.__eq__" = true)
    (kk9 : PySem.W.keepIn K (.ref f9) = true)
    (l10 : K.lookup f10 = some ⟨oc10, od10, .func (PySem.W.fnOf "_check_matrix" "_check_matrix" (defArgs s_check_matrix) (defBody s_check_matrix) (defScope s_check_matrix) .none kV10 dc10 pm10 an10 cd10 ct10), sl10⟩)
    (cc10 : PySem.W.codeIn K cd10 "_check_matrix" = true)
    (kk10 : PySem.W.keepIn K (.ref f10) = true)
    (l11 : K.lookup f11 = some ⟨oc11, od11, .func (PySem.W.fnOf "_common_divisor" "_common_divisor" (defArgs s_common_divisor) (defBody s_common_divisor) (defScope s_common_divisor) .none kV11 dc11 pm11 an11 cd11 ct11), sl11⟩)
    (cc11 : PySem.W.codeIn K cd11 "_common_divisor" = true)
    (kk11 : PySem.W.keepIn K (.ref f11) = true)
    (l12 : K.lookup f12 = some ⟨oc12, od12, .func (PySem.W.fnOf "channels" "Chain.channels" (defArgs s_Chain_channels) (defBody s_Chain_channels) (defScope s_Chain_channels) .none kV12 dc12 pm12 an12 cd12 ct12), sl12⟩)
    (cc12 : PySem.W.codeIn K cd12 "Chain.channels" = true)
    (kk12 : PySem.W.keepIn K (.ref f12) = true)
    (l13 : K.lookup f13 = some ⟨oc13, od13, .func (PySem.W.fnOf "steps" "Chain.steps" (defArgs s_Chain_steps) (defBody s_Chain_steps) (defScope s_Chain_steps) .none kV13 dc13 pm13 an13 cd13 ct13), sl13⟩)
    (cc13 : PySem.W.codeIn K cd13 "Chain.steps" = true)
    (kk13 : PySem.W.keepIn K (.ref f13) = true)
    (l14 : K.lookup f14 = some ⟨oc14, od14, .func (PySem.W.fnOf "grid" "Chain.grid" (defArgs s_Chain_grid) (defBody s_Chain_grid) (defScope s_Chain_grid) .none kV14 dc14 pm14 an14 cd14 ct14), sl14⟩)
    (cc14 : PySem.W.codeIn K cd14 "Chain.grid" = true)
    (kk14 : PySem.W.keepIn K (.ref f14) = true)
    (l15 : K.lookup f15 = some ⟨oc15, od15, .func (PySem.W.fnOf "_law_pool" "_law_pool" (defArgs s_law_pool) (defBody s_law_pool) (defScope s_law_pool) .none kV15 dc15 pm15 an15 cd15 ct15), sl15⟩)
    (cc15 : PySem.W.codeIn K cd15 "_law_pool" = true)
    (kk15 : PySem.W.keepIn K (.ref f15) = true)
    (l16 : K.lookup f16 = some ⟨oc16, od16, .func (PySem.W.fnOf "_law_draw" "_law_draw" (defArgs s_law_draw) (defBody s_law_draw) (defScope s_law_draw) .none kV16 dc16 pm16 an16 cd16 ct16), sl16⟩)
    (cc16 : PySem.W.codeIn K cd16 "_law_draw" = true)
    (kk16 : PySem.W.keepIn K (.ref f16) = true)
    (l17 : K.lookup f17 = some ⟨oc17, od17, .func (PySem.W.fnOf "_law_back" "_law_back" (defArgs s_law_back) (defBody s_law_back) (defScope s_law_back) .none kV17 dc17 pm17 an17 cd17 ct17), sl17⟩)
    (cc17 : PySem.W.codeIn K cd17 "_law_back" = true)
    (kk17 : PySem.W.keepIn K (.ref f17) = true)
    (l18 : K.lookup f18 = some ⟨oc18, od18, .func (PySem.W.fnOf "_law_done" "_law_done" (defArgs s_law_done) (defBody s_law_done) (defScope s_law_done) .none kV18 dc18 pm18 an18 cd18 ct18), sl18⟩)
    (cc18 : PySem.W.codeIn K cd18 "_law_done" = true)
    (kk18 : PySem.W.keepIn K (.ref f18) = true)
    (l19 : K.lookup f19 = some ⟨oc19, od19, .func (PySem.W.fnOf "_law_whole" "_law_whole" (defArgs s_law_whole) (defBody s_law_whole) (defScope s_law_whole) .none kV19 dc19 pm19 an19 cd19 ct19), sl19⟩)
    (cc19 : PySem.W.codeIn K cd19 "_law_whole" = true)
    (kk19 : PySem.W.keepIn K (.ref f19) = true)
    (l20 : K.lookup f20 = some ⟨oc20, od20, .func (PySem.W.fnOf "_law_linear" "_law_linear" (defArgs s_law_linear) (defBody s_law_linear) (defScope s_law_linear) .none kV20 dc20 pm20 an20 cd20 ct20), sl20⟩)
    (cc20 : PySem.W.codeIn K cd20 "_law_linear" = true)
    (kk20 : PySem.W.keepIn K (.ref f20) = true)
    (l21 : K.lookup f21 = some ⟨oc21, od21, .func (PySem.W.fnOf "_law_plus" "_law_plus" (defArgs s_law_plus) (defBody s_law_plus) (defScope s_law_plus) .none kV21 dc21 pm21 an21 cd21 ct21), sl21⟩)
    (cc21 : PySem.W.codeIn K cd21 "_law_plus" = true)
    (kk21 : PySem.W.keepIn K (.ref f21) = true)
    (l22 : K.lookup f22 = some ⟨oc22, od22, .func (PySem.W.fnOf "_law_plainly" "_law_plainly" (defArgs s_law_plainly) (defBody s_law_plainly) (defScope s_law_plainly) .none kV22 dc22 pm22 an22 cd22 ct22), sl22⟩)
    (cc22 : PySem.W.codeIn K cd22 "_law_plainly" = true)
    (kk22 : PySem.W.keepIn K (.ref f22) = true)
    (l23 : K.lookup f23 = some ⟨oc23, od23, .func (PySem.W.fnOf "_are_channels" "_are_channels" (defArgs s_are_channels) (defBody s_are_channels) (defScope s_are_channels) .none kV23 dc23 pm23 an23 cd23 ct23), sl23⟩)
    (cc23 : PySem.W.codeIn K cd23 "_are_channels" = true)
    (kk23 : PySem.W.keepIn K (.ref f23) = true)
    (l24 : K.lookup f24 = some ⟨oc24, od24, .func (PySem.W.fnOf "apply_step" "apply_step" (defArgs s_apply_step) (defBody s_apply_step) (defScope s_apply_step) .none kV24 dc24 pm24 an24 cd24 ct24), sl24⟩)
    (cc24 : PySem.W.codeIn K cd24 "apply_step" = true)
    (kk24 : PySem.W.keepIn K (.ref f24) = true)
    (l25 : K.lookup f25 = some ⟨oc25, od25, .func (PySem.W.fnOf "__init__" "Matrix.__init__" (defArgs s_Matrix_init) (defBody s_Matrix_init) (defScope s_Matrix_init) .none kV25 dc25 pm25 an25 cd25 ct25), sl25⟩)
    (cc25 : PySem.W.codeIn K cd25 "Matrix.__init__" = true)
    (kk25 : PySem.W.keepIn K (.ref f25) = true)
    (l26 : K.lookup f26 = some ⟨oc26, od26, .func (PySem.W.fnOf "image" "Matrix.image" (defArgs s_Matrix_image) (defBody s_Matrix_image) (defScope s_Matrix_image) .none kV26 dc26 pm26 an26 cd26 ct26), sl26⟩)
    (cc26 : PySem.W.codeIn K cd26 "Matrix.image" = true)
    (kk26 : PySem.W.keepIn K (.ref f26) = true)
    (l27 : K.lookup f27 = some ⟨oc27, od27, .func (PySem.W.fnOf "_law_divisor" "_law_divisor" (defArgs s_law_divisor) (defBody s_law_divisor) (defScope s_law_divisor) .none kV27 dc27 pm27 an27 cd27 ct27), sl27⟩)
    (cc27 : PySem.W.codeIn K cd27 "_law_divisor" = true)
    (kk27 : PySem.W.keepIn K (.ref f27) = true)
    (l28 : K.lookup f28 = some ⟨oc28, od28, .func (PySem.W.fnOf "_law_weights" "_law_weights" (defArgs s_law_weights) (defBody s_law_weights) (defScope s_law_weights) .none kV28 dc28 pm28 an28 cd28 ct28), sl28⟩)
    (cc28 : PySem.W.codeIn K cd28 "_law_weights" = true)
    (kk28 : PySem.W.keepIn K (.ref f28) = true)
    (l29 : K.lookup f29 = some ⟨oc29, od29, .func (PySem.W.fnOf "_law_more" "_law_more" (defArgs s_law_more) (defBody s_law_more) (defScope s_law_more) .none kV29 dc29 pm29 an29 cd29 ct29), sl29⟩)
    (cc29 : PySem.W.codeIn K cd29 "_law_more" = true)
    (kk29 : PySem.W.keepIn K (.ref f29) = true)
    (l30 : K.lookup f30 = some ⟨oc30, od30, .func (PySem.W.fnOf "_law_plain" "_law_plain" (defArgs s_law_plain) (defBody s_law_plain) (defScope s_law_plain) .none kV30 dc30 pm30 an30 cd30 ct30), sl30⟩)
    (cc30 : PySem.W.codeIn K cd30 "_law_plain" = true)
    (kk30 : PySem.W.keepIn K (.ref f30) = true)
    (l31 : K.lookup f31 = some ⟨oc31, od31, .func (PySem.W.fnOf "_law_entry" "_law_entry" (defArgs s_law_entry) (defBody s_law_entry) (defScope s_law_entry) .none kV31 dc31 pm31 an31 cd31 ct31), sl31⟩)
    (cc31 : PySem.W.codeIn K cd31 "_law_entry" = true)
    (kk31 : PySem.W.keepIn K (.ref f31) = true)
    (l32 : K.lookup f32 = some ⟨oc32, od32, .func (PySem.W.fnOf "_law_walk" "_law_walk" (defArgs s_law_walk) (defBody s_law_walk) (defScope s_law_walk) .none kV32 dc32 pm32 an32 cd32 ct32), sl32⟩)
    (cc32 : PySem.W.codeIn K cd32 "_law_walk" = true)
    (kk32 : PySem.W.keepIn K (.ref f32) = true)
    (l33 : K.lookup f33 = some ⟨oc33, od33, .func (PySem.W.fnOf "_is_lift" "_is_lift" (defArgs s_is_lift) (defBody s_is_lift) (defScope s_is_lift) .none kV33 dc33 pm33 an33 cd33 ct33), sl33⟩)
    (cc33 : PySem.W.codeIn K cd33 "_is_lift" = true)
    (kk33 : PySem.W.keepIn K (.ref f33) = true)
    (l34 : K.lookup f34 = some ⟨oc34, od34, .func (PySem.W.fnOf "at" "Chain.at" (defArgs s_Chain_at) (defBody s_Chain_at) (defScope s_Chain_at) .none kV34 dc34 pm34 an34 cd34 ct34), sl34⟩)
    (cc34 : PySem.W.codeIn K cd34 "Chain.at" = true)
    (kk34 : PySem.W.keepIn K (.ref f34) = true)
    (l35 : K.lookup f35 = some ⟨oc35, od35, .func (PySem.W.fnOf "_law_lift" "_law_lift" (defArgs s_law_lift) (defBody s_law_lift) (defScope s_law_lift) .none kV35 dc35 pm35 an35 cd35 ct35), sl35⟩)
    (cc35 : PySem.W.codeIn K cd35 "_law_lift" = true)
    (kk35 : PySem.W.keepIn K (.ref f35) = true)
    (l36 : K.lookup f36 = some ⟨oc36, od36, .func (PySem.W.fnOf "_law_place" "_law_place" (defArgs s_law_place) (defBody s_law_place) (defScope s_law_place) .none kV36 dc36 pm36 an36 cd36 ct36), sl36⟩)
    (cc36 : PySem.W.codeIn K cd36 "_law_place" = true)
    (kk36 : PySem.W.keepIn K (.ref f36) = true)
    (l37 : K.lookup f37 = some ⟨oc37, od37, .func (PySem.W.fnOf "_law_end" "_law_end" (defArgs s_law_end) (defBody s_law_end) (defScope s_law_end) .none kV37 dc37 pm37 an37 cd37 ct37), sl37⟩)
    (cc37 : PySem.W.codeIn K cd37 "_law_end" = true)
    (kk37 : PySem.W.keepIn K (.ref f37) = true)
    (l38 : K.lookup f38 = some ⟨oc38, od38, .func (PySem.W.fnOf "is_step" "is_step" (defArgs s_is_step) (defBody s_is_step) (defScope s_is_step) .none kV38 dc38 pm38 an38 cd38 ct38), sl38⟩)
    (cc38 : PySem.W.codeIn K cd38 "is_step" = true)
    (kk38 : PySem.W.keepIn K (.ref f38) = true)
    (l39 : K.lookup f39 = some ⟨oc39, od39, .func (PySem.W.fnOf "linear_part" "linear_part" (defArgs s_linear_part) (defBody s_linear_part) (defScope s_linear_part) .none kV39 dc39 pm39 an39 cd39 ct39), sl39⟩)
    (cc39 : PySem.W.codeIn K cd39 "linear_part" = true)
    (kk39 : PySem.W.keepIn K (.ref f39) = true)
    (l40 : K.lookup f40 = some ⟨oc40, od40, .func (PySem.W.fnOf "_law_moves" "_law_moves" (defArgs s_law_moves) (defBody s_law_moves) (defScope s_law_moves) .none kV40 dc40 pm40 an40 cd40 ct40), sl40⟩)
    (cc40 : PySem.W.codeIn K cd40 "_law_moves" = true)
    (kk40 : PySem.W.keepIn K (.ref f40) = true)
    (l41 : K.lookup f41 = some ⟨oc41, od41, .func (PySem.W.fnOf "_check_chain" "_check_chain" (defArgs s_check_chain) (defBody s_check_chain) (defScope s_check_chain) .none kV41 dc41 pm41 an41 cd41 ct41), sl41⟩)
    (cc41 : PySem.W.codeIn K cd41 "_check_chain" = true)
    (kk41 : PySem.W.keepIn K (.ref f41) = true)
    (l42 : K.lookup f42 = some ⟨oc42, od42, .func (PySem.W.fnOf "__init__" "Chain.__init__" (defArgs s_Chain_init) (defBody s_Chain_init) (defScope s_Chain_init) .none kV42 dc42 pm42 an42 cd42 ct42), sl42⟩)
    (cc42 : PySem.W.codeIn K cd42 "Chain.__init__" = true)
    (kk42 : PySem.W.keepIn K (.ref f42) = true)
    (l43 : K.lookup f43 = some ⟨oc43, od43, .func (PySem.W.fnOf "_law_right" "_law_right" (defArgs s_law_right) (defBody s_law_right) (defScope s_law_right) .none kV43 dc43 pm43 an43 cd43 ct43), sl43⟩)
    (cc43 : PySem.W.codeIn K cd43 "_law_right" = true)
    (kk43 : PySem.W.keepIn K (.ref f43) = true)
    (l44 : K.lookup f44 = some ⟨oc44, od44, .func (PySem.W.fnOf "law" "law" (defArgs s_law) (defBody s_law) (defScope s_law) .none kV44 dc44 pm44 an44 cd44 ct44), sl44⟩)
    (cc44 : PySem.W.codeIn K cd44 "law" = true)
    (kk44 : PySem.W.keepIn K (.ref f44) = true)
    (pg0 : PySem.W.plainGet K C0 Str.empty = true)
    (hd0 : PySem.W.hasDictIn K C0 = true)
    (po0 : PySem.W.plainOver K C0 = true)
    (sa0 : PySem.W.findIn K (.ref C0) "__setattr__" = some (some (.builtin "object.__setattr__")))
    (mk0 : PySem.W.makesIn K C0 = true)
    (kc0 : PySem.W.keepIn K (.ref C0) = true)
    (ia0 : PySem.W.findIn K (.ref C0) "__class__" = some (some (.builtin "object.__class__")))
    (ib0 : PySem.W.specialIn K (.builtin "object.__class__") "__get__" = some (some (.builtin "getset_descriptor.__get__")))
    (ic0 : PySem.W.takesIn K (.builtin "object.__class__") = some true)
    (im0 : PySem.W.mroIn K C0 (.type "object") = some true)
    (nf0_rows : PySem.W.findIn K (.ref C0) "_rows" = some none)
    (nf0_bottom : PySem.W.findIn K (.ref C0) "_bottom" = some none)
    (pg1 : PySem.W.plainGet K C1 Str.empty = true)
    (hd1 : PySem.W.hasDictIn K C1 = true)
    (po1 : PySem.W.plainOver K C1 = true)
    (sa1 : PySem.W.findIn K (.ref C1) "__setattr__" = some (some (.builtin "object.__setattr__")))
    (mk1 : PySem.W.makesIn K C1 = true)
    (kc1 : PySem.W.keepIn K (.ref C1) = true)
    (ia1 : PySem.W.findIn K (.ref C1) "__class__" = some (some (.builtin "object.__class__")))
    (ib1 : PySem.W.specialIn K (.builtin "object.__class__") "__get__" = some (some (.builtin "getset_descriptor.__get__")))
    (ic1 : PySem.W.takesIn K (.builtin "object.__class__") = some true)
    (im1 : PySem.W.mroIn K C1 (.type "object") = some true)
    (nf1_channels : PySem.W.findIn K (.ref C1) "_channels" = some none)
    (nf1_steps : PySem.W.findIn K (.ref C1) "_steps" = some none)
    (z_abs : PySem.W.nsIn K mainGlobals "abs" = some none)
    (z_all : PySem.W.nsIn K mainGlobals "all" = some none)
    (z_enumerate : PySem.W.nsIn K mainGlobals "enumerate" = some none)
    (z_int : PySem.W.nsIn K mainGlobals "int" = some none)
    (z_isinstance : PySem.W.nsIn K mainGlobals "isinstance" = some none)
    (z_len : PySem.W.nsIn K mainGlobals "len" = some none)
    (z_list : PySem.W.nsIn K mainGlobals "list" = some none)
    (z_max : PySem.W.nsIn K mainGlobals "max" = some none)
    (z_min : PySem.W.nsIn K mainGlobals "min" = some none)
    (z_range : PySem.W.nsIn K mainGlobals "range" = some none)
    (z_sum : PySem.W.nsIn K mainGlobals "sum" = some none)
    (z_tuple : PySem.W.nsIn K mainGlobals "tuple" = some none)
    (z_zip : PySem.W.nsIn K mainGlobals "zip" = some none)
    (zm_gcd : PySem.W.nsIn K mainGlobals "gcd" = some (some (.builtin "math.gcd"))) :
    ∃ fd : FuncData, (∀ (s : Shared) (v : Value), BindsTo s fd ⟨[v], []⟩ [("script", v)]) ∧ ∀ base : Heap, K.In base → base.Ns mainGlobals mg → FnOk l.prog w K mg base CX0 9 fa fd ["script"] (fun vs H Q _ => ∃ (a : Addr) (ns : List Int), vs = [.ref a] ∧ SqL K H a (ns.map V.int) ∧ Pg ns ∧ ∀ H', Q (.bl true) H') := by
  have e := hfa.symm.trans (PySem.W.mg_of X G at44)
  cases e
  have F0 := fun_mk (st := s_fraction) l0 cc0 kk0
  have b0 := F0.binds (ps := ["top", "bottom"]) fun _ _ _ _ _ _ us hl => match us, hl with | [_, _], _ => rfl
  have F1 := fun_mk (st := s_dot) l1 cc1 kk1
  have b1 := F1.binds (ps := ["first", "second"]) fun _ _ _ _ _ _ us hl => match us, hl with | [_, _], _ => rfl
  have F2 := fun_mk (st := s_multiple) l2 cc2 kk2
  have b2 := F2.binds (ps := ["times", "vector"]) fun _ _ _ _ _ _ us hl => match us, hl with | [_, _], _ => rfl
  have F3 := fun_mk (st := s_are_integers) l3 cc3 kk3
  have b3 := F3.binds (ps := ["items"]) fun _ _ _ _ _ _ us hl => match us, hl with | [_], _ => rfl
  have F4 := fun_mk (st := s_plain_step) l4 cc4 kk4
  have b4 := F4.binds (ps := ["step"]) fun _ _ _ _ _ _ us hl => match us, hl with | [_], _ => rfl
  have F5 := fun_mk (st := s_unit_basis) l5 cc5 kk5
  have b5 := F5.binds (ps := ["channels"]) fun _ _ _ _ _ _ us hl => match us, hl with | [_], _ => rfl
  have F6 := fun_mk (st := s_Matrix_rows) l6 cc6 kk6
  have b6 := F6.binds (ps := ["self"]) fun _ _ _ _ _ _ us hl => match us, hl with | [_], _ => rfl
  have F7 := fun_mk (st := s_Matrix_bottom) l7 cc7 kk7
  have b7 := F7.binds (ps := ["self"]) fun _ _ _ _ _ _ us hl => match us, hl with | [_], _ => rfl
  have F8 := fun_mk (st := s_Matrix_len) l8 cc8 kk8
  have b8 := F8.binds (ps := ["self"]) fun _ _ _ _ _ _ us hl => match us, hl with | [_], _ => rfl
  have F9 := fun_mk (st := s_Matrix_eq) l9 cc9 kk9
  have b9 := F9.binds (ps := ["self", "other"]) fun _ _ _ _ _ _ us hl => match us, hl with | [_, _], _ => rfl
  have F10 := fun_mk (st := s_check_matrix) l10 cc10 kk10
  have b10 := F10.binds (ps := ["rows", "bottom"]) fun _ _ _ _ _ _ us hl => match us, hl with | [_, _], _ => rfl
  have F11 := fun_mk (st := s_common_divisor) l11 cc11 kk11
  have b11 := F11.binds (ps := ["rows", "bottom"]) fun _ _ _ _ _ _ us hl => match us, hl with | [_, _], _ => rfl
  have F12 := fun_mk (st := s_Chain_channels) l12 cc12 kk12
  have b12 := F12.binds (ps := ["self"]) fun _ _ _ _ _ _ us hl => match us, hl with | [_], _ => rfl
  have F13 := fun_mk (st := s_Chain_steps) l13 cc13 kk13
  have b13 := F13.binds (ps := ["self"]) fun _ _ _ _ _ _ us hl => match us, hl with | [_], _ => rfl
  have F14 := fun_mk (st := s_Chain_grid) l14 cc14 kk14
  have b14 := F14.binds (ps := ["self"]) fun _ _ _ _ _ _ us hl => match us, hl with | [_], _ => rfl
  have F15 := fun_mk (st := s_law_pool) l15 cc15 kk15
  have b15 := F15.binds (ps := ["script", "spot"]) fun _ _ _ _ _ _ us hl => match us, hl with | [_, _], _ => rfl
  have F16 := fun_mk (st := s_law_draw) l16 cc16 kk16
  have b16 := F16.binds (ps := ["pool", "many"]) fun _ _ _ _ _ _ us hl => match us, hl with | [_, _], _ => rfl
  have F17 := fun_mk (st := s_law_back) l17 cc17 kk17
  have b17 := F17.binds (ps := ["one"]) fun _ _ _ _ _ _ us hl => match us, hl with | [_], _ => rfl
  have F18 := fun_mk (st := s_law_done) l18 cc18 kk18
  have b18 := F18.binds (ps := ["one", "place"]) fun _ _ _ _ _ _ us hl => match us, hl with | [_, _], _ => rfl
  have F19 := fun_mk (st := s_law_whole) l19 cc19 kk19
  have b19 := F19.binds (ps := ["moves"]) fun _ _ _ _ _ _ us hl => match us, hl with | [_], _ => rfl
  have F20 := fun_mk (st := s_law_linear) l20 cc20 kk20
  have b20 := F20.binds (ps := ["moves", "many"]) fun _ _ _ _ _ _ us hl => match us, hl with | [_, _], _ => rfl
  have F21 := fun_mk (st := s_law_plus) l21 cc21 kk21
  have b21 := F21.binds (ps := ["place", "other"]) fun _ _ _ _ _ _ us hl => match us, hl with | [_, _], _ => rfl
  have F22 := fun_mk (st := s_law_plainly) l22 cc22 kk22
  have b22 := F22.binds (ps := ["moves"]) fun _ _ _ _ _ _ us hl => match us, hl with | [_], _ => rfl
  have F23 := fun_mk (st := s_are_channels) l23 cc23 kk23
  have b23 := F23.binds (ps := ["channels", "items"]) fun _ _ _ _ _ _ us hl => match us, hl with | [_, _], _ => rfl
  have F24 := fun_mk (st := s_apply_step) l24 cc24 kk24
  have b24 := F24.binds (ps := ["step", "vector"]) fun _ _ _ _ _ _ us hl => match us, hl with | [_, _], _ => rfl
  have F25 := fun_mk (st := s_Matrix_init) l25 cc25 kk25
  have b25 := F25.binds (ps := ["self", "rows", "bottom"]) fun _ _ _ _ _ _ us hl => match us, hl with | [_, _, _], _ => rfl
  have F26 := fun_mk (st := s_Matrix_image) l26 cc26 kk26
  have b26 := F26.binds (ps := ["self", "vector"]) fun _ _ _ _ _ _ us hl => match us, hl with | [_, _], _ => rfl
  have F27 := fun_mk (st := s_law_divisor) l27 cc27 kk27
  have b27 := F27.binds (ps := ["pool", "room"]) fun _ _ _ _ _ _ us hl => match us, hl with | [_, _], _ => rfl
  have F28 := fun_mk (st := s_law_weights) l28 cc28 kk28
  have b28 := F28.binds (ps := ["pool", "many", "own"]) fun _ _ _ _ _ _ us hl => match us, hl with | [_, _, _], _ => rfl
  have F29 := fun_mk (st := s_law_more) l29 cc29 kk29
  have b29 := F29.binds (ps := ["pool"]) fun _ _ _ _ _ _ us hl => match us, hl with | [_], _ => rfl
  have F30 := fun_mk (st := s_law_plain) l30 cc30 kk30
  have b30 := F30.binds (ps := ["pool", "many"]) fun _ _ _ _ _ _ us hl => match us, hl with | [_, _], _ => rfl
  have F31 := fun_mk (st := s_law_entry) l31 cc31 kk31
  have b31 := F31.binds (ps := ["pool", "far"]) fun _ _ _ _ _ _ us hl => match us, hl with | [_, _], _ => rfl
  have F32 := fun_mk (st := s_law_walk) l32 cc32 kk32
  have b32 := F32.binds (ps := ["moves", "place"]) fun _ _ _ _ _ _ us hl => match us, hl with | [_, _], _ => rfl
  have F33 := fun_mk (st := s_is_lift) l33 cc33 kk33
  have b33 := F33.binds (ps := ["channels", "step"]) fun _ _ _ _ _ _ us hl => match us, hl with | [_, _], _ => rfl
  have F34 := fun_mk (st := s_Chain_at) l34 cc34 kk34
  have b34 := F34.binds (ps := ["self", "vector"]) fun _ _ _ _ _ _ us hl => match us, hl with | [_, _], _ => rfl
  have F35 := fun_mk (st := s_law_lift) l35 cc35 kk35
  have b35 := F35.binds (ps := ["pool", "many", "room"]) fun _ _ _ _ _ _ us hl => match us, hl with | [_, _, _], _ => rfl
  have F36 := fun_mk (st := s_law_place) l36 cc36 kk36
  have b36 := F36.binds (ps := ["pool", "many", "far"]) fun _ _ _ _ _ _ us hl => match us, hl with | [_, _, _], _ => rfl
  have F37 := fun_mk (st := s_law_end) l37 cc37 kk37
  have b37 := F37.binds (ps := ["moves", "place"]) fun _ _ _ _ _ _ us hl => match us, hl with | [_, _], _ => rfl
  have F38 := fun_mk (st := s_is_step) l38 cc38 kk38
  have b38 := F38.binds (ps := ["channels", "step"]) fun _ _ _ _ _ _ us hl => match us, hl with | [_, _], _ => rfl
  have F39 := fun_mk (st := s_linear_part) l39 cc39 kk39
  have b39 := F39.binds (ps := ["chain"]) fun _ _ _ _ _ _ us hl => match us, hl with | [_], _ => rfl
  have F40 := fun_mk (st := s_law_moves) l40 cc40 kk40
  have b40 := F40.binds (ps := ["pool", "many", "most", "product"]) fun _ _ _ _ _ _ us hl => match us, hl with | [_, _, _, _], _ => rfl
  have F41 := fun_mk (st := s_check_chain) l41 cc41 kk41
  have b41 := F41.binds (ps := ["channels", "steps"]) fun _ _ _ _ _ _ us hl => match us, hl with | [_, _], _ => rfl
  have F42 := fun_mk (st := s_Chain_init) l42 cc42 kk42
  have b42 := F42.binds (ps := ["self", "channels", "steps"]) fun _ _ _ _ _ _ us hl => match us, hl with | [_, _, _], _ => rfl
  have F43 := fun_mk (st := s_law_right) l43 cc43 kk43
  have b43 := F43.binds (ps := ["pool", "many"]) fun _ _ _ _ _ _ us hl => match us, hl with | [_, _], _ => rfl
  have F44 := fun_mk (st := s_law) l44 cc44 kk44
  have b44 := F44.binds (ps := ["script"]) fun _ _ _ _ _ _ us hl => match us, hl with | [_], _ => rfl
  have T : Tx K mg (fun n : Nat => ([f0, f1, f2, f3, f4, f5, f6, f7, f8, f9, f10, f11, f12, f13, f14, f15, f16, f17, f18, f19, f20, f21, f22, f23, f24, f25, f26, f27, f28, f29, f30, f31, f32, f33, f34, f35, f36, f37, f38, f39, f40, f41, f42, f43, fa] : List Addr).getD n 0) (fun n : Nat => ([(PySem.W.fnOf "fraction" "fraction" (defArgs s_fraction) (defBody s_fraction) (defScope s_fraction) .none kV0 dc0 pm0 an0 cd0 ct0), (PySem.W.fnOf "dot" "dot" (defArgs s_dot) (defBody s_dot) (defScope s_dot) .none kV1 dc1 pm1 an1 cd1 ct1), (PySem.W.fnOf "multiple" "multiple" (defArgs s_multiple) (defBody s_multiple) (defScope s_multiple) .none kV2 dc2 pm2 an2 cd2 ct2), (PySem.W.fnOf "_are_integers" "_are_integers" (defArgs s_are_integers) (defBody s_are_integers) (defScope s_are_integers) .none kV3 dc3 pm3 an3 cd3 ct3), (PySem.W.fnOf "plain_step" "plain_step" (defArgs s_plain_step) (defBody s_plain_step) (defScope s_plain_step) .none kV4 dc4 pm4 an4 cd4 ct4), (PySem.W.fnOf "unit_basis" "unit_basis" (defArgs s_unit_basis) (defBody s_unit_basis) (defScope s_unit_basis) .none kV5 dc5 pm5 an5 cd5 ct5), (PySem.W.fnOf "rows" "Matrix.rows" (defArgs s_Matrix_rows) (defBody s_Matrix_rows) (defScope s_Matrix_rows) .none kV6 dc6 pm6 an6 cd6 ct6), (PySem.W.fnOf "bottom" "Matrix.bottom" (defArgs s_Matrix_bottom) (defBody s_Matrix_bottom) (defScope s_Matrix_bottom) .none kV7 dc7 pm7 an7 cd7 ct7), (PySem.W.fnOf "__len__" "Matrix.__len__" (defArgs s_Matrix_len) (defBody s_Matrix_len) (defScope s_Matrix_len) .none kV8 dc8 pm8 an8 cd8 ct8), (PySem.W.fnOf "__eq__" "Matrix.__eq__" (defArgs s_Matrix_eq) (defBody s_Matrix_eq) (defScope s_Matrix_eq) .none kV9 dc9 pm9 an9 cd9 ct9), (PySem.W.fnOf "_check_matrix" "_check_matrix" (defArgs s_check_matrix) (defBody s_check_matrix) (defScope s_check_matrix) .none kV10 dc10 pm10 an10 cd10 ct10), (PySem.W.fnOf "_common_divisor" "_common_divisor" (defArgs s_common_divisor) (defBody s_common_divisor) (defScope s_common_divisor) .none kV11 dc11 pm11 an11 cd11 ct11), (PySem.W.fnOf "channels" "Chain.channels" (defArgs s_Chain_channels) (defBody s_Chain_channels) (defScope s_Chain_channels) .none kV12 dc12 pm12 an12 cd12 ct12), (PySem.W.fnOf "steps" "Chain.steps" (defArgs s_Chain_steps) (defBody s_Chain_steps) (defScope s_Chain_steps) .none kV13 dc13 pm13 an13 cd13 ct13), (PySem.W.fnOf "grid" "Chain.grid" (defArgs s_Chain_grid) (defBody s_Chain_grid) (defScope s_Chain_grid) .none kV14 dc14 pm14 an14 cd14 ct14), (PySem.W.fnOf "_law_pool" "_law_pool" (defArgs s_law_pool) (defBody s_law_pool) (defScope s_law_pool) .none kV15 dc15 pm15 an15 cd15 ct15), (PySem.W.fnOf "_law_draw" "_law_draw" (defArgs s_law_draw) (defBody s_law_draw) (defScope s_law_draw) .none kV16 dc16 pm16 an16 cd16 ct16), (PySem.W.fnOf "_law_back" "_law_back" (defArgs s_law_back) (defBody s_law_back) (defScope s_law_back) .none kV17 dc17 pm17 an17 cd17 ct17), (PySem.W.fnOf "_law_done" "_law_done" (defArgs s_law_done) (defBody s_law_done) (defScope s_law_done) .none kV18 dc18 pm18 an18 cd18 ct18), (PySem.W.fnOf "_law_whole" "_law_whole" (defArgs s_law_whole) (defBody s_law_whole) (defScope s_law_whole) .none kV19 dc19 pm19 an19 cd19 ct19), (PySem.W.fnOf "_law_linear" "_law_linear" (defArgs s_law_linear) (defBody s_law_linear) (defScope s_law_linear) .none kV20 dc20 pm20 an20 cd20 ct20), (PySem.W.fnOf "_law_plus" "_law_plus" (defArgs s_law_plus) (defBody s_law_plus) (defScope s_law_plus) .none kV21 dc21 pm21 an21 cd21 ct21), (PySem.W.fnOf "_law_plainly" "_law_plainly" (defArgs s_law_plainly) (defBody s_law_plainly) (defScope s_law_plainly) .none kV22 dc22 pm22 an22 cd22 ct22), (PySem.W.fnOf "_are_channels" "_are_channels" (defArgs s_are_channels) (defBody s_are_channels) (defScope s_are_channels) .none kV23 dc23 pm23 an23 cd23 ct23), (PySem.W.fnOf "apply_step" "apply_step" (defArgs s_apply_step) (defBody s_apply_step) (defScope s_apply_step) .none kV24 dc24 pm24 an24 cd24 ct24), (PySem.W.fnOf "__init__" "Matrix.__init__" (defArgs s_Matrix_init) (defBody s_Matrix_init) (defScope s_Matrix_init) .none kV25 dc25 pm25 an25 cd25 ct25), (PySem.W.fnOf "image" "Matrix.image" (defArgs s_Matrix_image) (defBody s_Matrix_image) (defScope s_Matrix_image) .none kV26 dc26 pm26 an26 cd26 ct26), (PySem.W.fnOf "_law_divisor" "_law_divisor" (defArgs s_law_divisor) (defBody s_law_divisor) (defScope s_law_divisor) .none kV27 dc27 pm27 an27 cd27 ct27), (PySem.W.fnOf "_law_weights" "_law_weights" (defArgs s_law_weights) (defBody s_law_weights) (defScope s_law_weights) .none kV28 dc28 pm28 an28 cd28 ct28), (PySem.W.fnOf "_law_more" "_law_more" (defArgs s_law_more) (defBody s_law_more) (defScope s_law_more) .none kV29 dc29 pm29 an29 cd29 ct29), (PySem.W.fnOf "_law_plain" "_law_plain" (defArgs s_law_plain) (defBody s_law_plain) (defScope s_law_plain) .none kV30 dc30 pm30 an30 cd30 ct30), (PySem.W.fnOf "_law_entry" "_law_entry" (defArgs s_law_entry) (defBody s_law_entry) (defScope s_law_entry) .none kV31 dc31 pm31 an31 cd31 ct31), (PySem.W.fnOf "_law_walk" "_law_walk" (defArgs s_law_walk) (defBody s_law_walk) (defScope s_law_walk) .none kV32 dc32 pm32 an32 cd32 ct32), (PySem.W.fnOf "_is_lift" "_is_lift" (defArgs s_is_lift) (defBody s_is_lift) (defScope s_is_lift) .none kV33 dc33 pm33 an33 cd33 ct33), (PySem.W.fnOf "at" "Chain.at" (defArgs s_Chain_at) (defBody s_Chain_at) (defScope s_Chain_at) .none kV34 dc34 pm34 an34 cd34 ct34), (PySem.W.fnOf "_law_lift" "_law_lift" (defArgs s_law_lift) (defBody s_law_lift) (defScope s_law_lift) .none kV35 dc35 pm35 an35 cd35 ct35), (PySem.W.fnOf "_law_place" "_law_place" (defArgs s_law_place) (defBody s_law_place) (defScope s_law_place) .none kV36 dc36 pm36 an36 cd36 ct36), (PySem.W.fnOf "_law_end" "_law_end" (defArgs s_law_end) (defBody s_law_end) (defScope s_law_end) .none kV37 dc37 pm37 an37 cd37 ct37), (PySem.W.fnOf "is_step" "is_step" (defArgs s_is_step) (defBody s_is_step) (defScope s_is_step) .none kV38 dc38 pm38 an38 cd38 ct38), (PySem.W.fnOf "linear_part" "linear_part" (defArgs s_linear_part) (defBody s_linear_part) (defScope s_linear_part) .none kV39 dc39 pm39 an39 cd39 ct39), (PySem.W.fnOf "_law_moves" "_law_moves" (defArgs s_law_moves) (defBody s_law_moves) (defScope s_law_moves) .none kV40 dc40 pm40 an40 cd40 ct40), (PySem.W.fnOf "_check_chain" "_check_chain" (defArgs s_check_chain) (defBody s_check_chain) (defScope s_check_chain) .none kV41 dc41 pm41 an41 cd41 ct41), (PySem.W.fnOf "__init__" "Chain.__init__" (defArgs s_Chain_init) (defBody s_Chain_init) (defScope s_Chain_init) .none kV42 dc42 pm42 an42 cd42 ct42), (PySem.W.fnOf "_law_right" "_law_right" (defArgs s_law_right) (defBody s_law_right) (defScope s_law_right) .none kV43 dc43 pm43 an43 cd43 ct43), (PySem.W.fnOf "law" "law" (defArgs s_law) (defBody s_law) (defScope s_law) .none kV44 dc44 pm44 an44 cd44 ct44)] : List FuncData).getD n (PySem.W.fnOf "fraction" "fraction" (defArgs s_fraction) (defBody s_fraction) (defScope s_fraction) .none kV0 dc0 pm0 an0 cd0 ct0)) (fun n : Nat => ([C0, C1] : List Addr).getD n 0) (fun n : Nat => ([0, 0, 0, 0, 0, 0, p6, p7, 0, 0, 0, 0, p12, p13, 0, 0, 0, 0, 0, 0, 0, 0, 0, 0, 0, 0, 0, 0, 0, 0, 0, 0, 0, 0, 0, 0, 0, 0, 0, 0, 0, 0, 0, 0, 0] : List Addr).getD n 0) := ⟨F0,
    b0,
    PySem.W.mg_of X G at0,
    F1,
    b1,
    PySem.W.mg_of X G at1,
    F2,
    b2,
    PySem.W.mg_of X G at2,
    F3,
    b3,
    PySem.W.mg_of X G at3,
    F4,
    b4,
    PySem.W.mg_of X G at4,
    F5,
    b5,
    PySem.W.mg_of X G at5,
    F6,
    b6,
    F7,
    b7,
    F8,
    b8,
    F9,
    b9,
    F10,
    b10,
    PySem.W.mg_of X G at10,
    F11,
    b11,
    PySem.W.mg_of X G at11,
    F12,
    b12,
    F13,
    b13,
    F14,
    b14,
    F15,
    b15,
    PySem.W.mg_of X G at15,
    F16,
    b16,
    PySem.W.mg_of X G at16,
    F17,
    b17,
    PySem.W.mg_of X G at17,
    F18,
    b18,
    PySem.W.mg_of X G at18,
    F19,
    b19,
    PySem.W.mg_of X G at19,
    F20,
    b20,
    PySem.W.mg_of X G at20,
    F21,
    b21,
    PySem.W.mg_of X G at21,
    F22,
    b22,
    PySem.W.mg_of X G at22,
    F23,
    b23,
    PySem.W.mg_of X G at23,
    F24,
    b24,
    PySem.W.mg_of X G at24,
    F25,
    b25,
    F26,
    b26,
    F27,
    b27,
    PySem.W.mg_of X G at27,
    F28,
    b28,
    PySem.W.mg_of X G at28,
    F29,
    b29,
    PySem.W.mg_of X G at29,
    F30,
    b30,
    PySem.W.mg_of X G at30,
    F31,
    b31,
    PySem.W.mg_of X G at31,
    F32,
    b32,
    PySem.W.mg_of X G at32,
    F33,
    b33,
    PySem.W.mg_of X G at33,
    F34,
    b34,
    F35,
    b35,
    PySem.W.mg_of X G at35,
    F36,
    b36,
    PySem.W.mg_of X G at36,
    F37,
    b37,
    PySem.W.mg_of X G at37,
    F38,
    b38,
    PySem.W.mg_of X G at38,
    F39,
    b39,
    PySem.W.mg_of X G at39,
    F40,
    b40,
    PySem.W.mg_of X G at40,
    F41,
    b41,
    PySem.W.mg_of X G at41,
    F42,
    b42,
    F43,
    b43,
    PySem.W.mg_of X G at43,
    F44,
    b44,
    PySem.W.mg_of X G at44,
    PySem.W.mg_none_of X G z_abs,
    PySem.W.mg_none_of X G z_all,
    PySem.W.mg_none_of X G z_enumerate,
    PySem.W.mg_none_of X G z_int,
    PySem.W.mg_none_of X G z_isinstance,
    PySem.W.mg_none_of X G z_len,
    PySem.W.mg_none_of X G z_list,
    PySem.W.mg_none_of X G z_max,
    PySem.W.mg_none_of X G z_min,
    PySem.W.mg_none_of X G z_range,
    PySem.W.mg_none_of X G z_sum,
    PySem.W.mg_none_of X G z_tuple,
    PySem.W.mg_none_of X G z_zip,
    PySem.W.mg_of X G zm_gcd,
    ⟨fun s us ws _ l1 l2 => .of_eq (match us, ws, l1, l2 with | [], [_], _, _ => rfl), fun r1 r2 => pick_vals (r1.append r2) _⟩,
    PySem.W.mg_of X G aC0,
    ⟨pg0, hd0, po0, sa0⟩,
    ⟨ia0, ib0, ic0, im0⟩,
    ⟨pa6, pb6, pc6, r6, pd6⟩,
    ⟨pa7, pb7, pc7, r7, pd7⟩,
    at8,
    fn8,
    at9,
    fn9,
    ⟨mk0, at25, fn25, kc0⟩,
    nf0_rows,
    nf0_bottom,
    ⟨at26, fn26, kk26⟩,
    PySem.W.mg_of X G aC1,
    ⟨pg1, hd1, po1, sa1⟩,
    ⟨ia1, ib1, ic1, im1⟩,
    ⟨pa12, pb12, pc12, r12, pd12⟩,
    ⟨pa13, pb13, pc13, r13, pd13⟩,
    ⟨at14, fn14, kk14⟩,
    ⟨at34, fn34, kk34⟩,
    ⟨mk1, at42, fn42, kc1⟩,
    nf1_channels,
    nf1_steps⟩
  exact ⟨(PySem.W.fnOf "law" "law" (defArgs s_law) (defBody s_law) (defScope s_law) .none kV44 dc44 pm44 an44 cd44 ct44), fun s v => .of_eq rfl, fun base _ _ => (ok_law T).imp (fun vs H Q E h => law_spec K mg hG vs H Q E h)⟩
end K12
open PySem PySem.W PyProof.Rows in
set_option maxRecDepth 100000 in
set_option maxHeartbeats 0 in
theorem PySem.Challenge.cw_liftsteps_k12_linear_parts_holds : PySem.Challenge.rw_liftsteps_k12_linear_parts.Holds := by
  w_on; o_law; k_head; (case hw => w_witness2)
  k_fill
  refine PK.walkLaw (l := PySem.Challenge.rw_liftsteps_k12_linear_parts) (k := 9) rfl rfl ⟨rfl, by decide, by decide⟩ (fun w h Y => PySem.W.kIn_of Y) ?F
  case F =>
    intro w mg fa h KX G hmg
    refine' K12.all_mk KX G hmg K12.law_true ?at0 ?at1 ?at2 ?at3 ?at4 ?at5 ?at10 ?at11 ?at15 ?at16 ?at17 ?at18 ?at19 ?at20 ?at21 ?at22 ?at23 ?at24 ?at27 ?at28 ?at29 ?at30 ?at31 ?at32 ?at33 ?at35 ?at36 ?at37 ?at38 ?at39 ?at40 ?at41 ?at43 ?at44 ?aC0 ?aC1 ?pa6 ?pb6 ?pc6 ?pd6 ?pa7 ?pb7 ?pc7 ?pd7 ?at8 ?fn8 ?at9 ?fn9 ?pa12 ?pb12 ?pc12 ?pd12 ?pa13 ?pb13 ?pc13 ?pd13 ?at14 ?fn14 ?at25 ?fn25 ?at26 ?fn26 ?at34 ?fn34 ?at42 ?fn42 ?l0 ?cc0 ?kk0 ?l1 ?cc1 ?kk1 ?l2 ?cc2 ?kk2 ?l3 ?cc3 ?kk3 ?l4 ?cc4 ?kk4 ?l5 ?cc5 ?kk5 ?l6 ?cc6 ?kk6 ?l7 ?cc7 ?kk7 ?l8 ?cc8 ?kk8 ?l9 ?cc9 ?kk9 ?l10 ?cc10 ?kk10 ?l11 ?cc11 ?kk11 ?l12 ?cc12 ?kk12 ?l13 ?cc13 ?kk13 ?l14 ?cc14 ?kk14 ?l15 ?cc15 ?kk15 ?l16 ?cc16 ?kk16 ?l17 ?cc17 ?kk17 ?l18 ?cc18 ?kk18 ?l19 ?cc19 ?kk19 ?l20 ?cc20 ?kk20 ?l21 ?cc21 ?kk21 ?l22 ?cc22 ?kk22 ?l23 ?cc23 ?kk23 ?l24 ?cc24 ?kk24 ?l25 ?cc25 ?kk25 ?l26 ?cc26 ?kk26 ?l27 ?cc27 ?kk27 ?l28 ?cc28 ?kk28 ?l29 ?cc29 ?kk29 ?l30 ?cc30 ?kk30 ?l31 ?cc31 ?kk31 ?l32 ?cc32 ?kk32 ?l33 ?cc33 ?kk33 ?l34 ?cc34 ?kk34 ?l35 ?cc35 ?kk35 ?l36 ?cc36 ?kk36 ?l37 ?cc37 ?kk37 ?l38 ?cc38 ?kk38 ?l39 ?cc39 ?kk39 ?l40 ?cc40 ?kk40 ?l41 ?cc41 ?kk41 ?l42 ?cc42 ?kk42 ?l43 ?cc43 ?kk43 ?l44 ?cc44 ?kk44 ?pg0 ?hd0 ?po0 ?sa0 ?mk0 ?kc0 ?ia0 ?ib0 ?ic0 ?im0 ?nf0_rows ?nf0_bottom ?pg1 ?hd1 ?po1 ?sa1 ?mk1 ?kc1 ?ia1 ?ib1 ?ic1 ?im1 ?nf1_channels ?nf1_steps ?z_abs ?z_all ?z_enumerate ?z_int ?z_isinstance ?z_len ?z_list ?z_max ?z_min ?z_range ?z_sum ?z_tuple ?z_zip ?zm_gcd
    (case at0 => k_is)
    (case at1 => k_is)
    (case at2 => k_is)
    (case at3 => k_is)
    (case at4 => k_is)
    (case at5 => k_is)
    (case at10 => k_is)
    (case at11 => k_is)
    (case at15 => k_is)
    (case at16 => k_is)
    (case at17 => k_is)
    (case at18 => k_is)
    (case at19 => k_is)
    (case at20 => k_is)
    (case at21 => k_is)
    (case at22 => k_is)
    (case at23 => k_is)
    (case at24 => k_is)
    (case at27 => k_is)
    (case at28 => k_is)
    (case at29 => k_is)
    (case at30 => k_is)
    (case at31 => k_is)
    (case at32 => k_is)
    (case at33 => k_is)
    (case at35 => k_is)
    (case at36 => k_is)
    (case at37 => k_is)
    (case at38 => k_is)
    (case at39 => k_is)
    (case at40 => k_is)
    (case at41 => k_is)
    (case at43 => k_is)
    (case at44 => k_is)
    (case aC0 => k_is)
    (case aC1 => k_is)
    (case pa6 => k_is)
    (case pb6 => k_is)
    (case pc6 => k_is)
    (case pd6 => k_is)
    (case pa7 => k_is)
    (case pb7 => k_is)
    (case pc7 => k_is)
    (case pd7 => k_is)
    (case at8 => k_is)
    (case fn8 => k_is)
    (case at9 => k_is)
    (case fn9 => k_is)
    (case pa12 => k_is)
    (case pb12 => k_is)
    (case pc12 => k_is)
    (case pd12 => k_is)
    (case pa13 => k_is)
    (case pb13 => k_is)
    (case pc13 => k_is)
    (case pd13 => k_is)
    (case at14 => k_is)
    (case fn14 => k_is)
    (case at25 => k_is)
    (case fn25 => k_is)
    (case at26 => k_is)
    (case fn26 => k_is)
    (case at34 => k_is)
    (case fn34 => k_is)
    (case at42 => k_is)
    (case fn42 => k_is)
    (case l0 => k_is)
    (case cc0 => k_is)
    (case kk0 => k_is)
    (case l1 => k_is)
    (case cc1 => k_is)
    (case kk1 => k_is)
    (case l2 => k_is)
    (case cc2 => k_is)
    (case kk2 => k_is)
    (case l3 => k_is)
    (case cc3 => k_is)
    (case kk3 => k_is)
    (case l4 => k_is)
    (case cc4 => k_is)
    (case kk4 => k_is)
    (case l5 => k_is)
    (case cc5 => k_is)
    (case kk5 => k_is)
    (case l6 => k_is)
    (case cc6 => k_is)
    (case kk6 => k_is)
    (case l7 => k_is)
    (case cc7 => k_is)
    (case kk7 => k_is)
    (case l8 => k_is)
    (case cc8 => k_is)
    (case kk8 => k_is)
    (case l9 => k_is)
    (case cc9 => k_is)
    (case kk9 => k_is)
    (case l10 => k_is)
    (case cc10 => k_is)
    (case kk10 => k_is)
    (case l11 => k_is)
    (case cc11 => k_is)
    (case kk11 => k_is)
    (case l12 => k_is)
    (case cc12 => k_is)
    (case kk12 => k_is)
    (case l13 => k_is)
    (case cc13 => k_is)
    (case kk13 => k_is)
    (case l14 => k_is)
    (case cc14 => k_is)
    (case kk14 => k_is)
    (case l15 => k_is)
    (case cc15 => k_is)
    (case kk15 => k_is)
    (case l16 => k_is)
    (case cc16 => k_is)
    (case kk16 => k_is)
    (case l17 => k_is)
    (case cc17 => k_is)
    (case kk17 => k_is)
    (case l18 => k_is)
    (case cc18 => k_is)
    (case kk18 => k_is)
    (case l19 => k_is)
    (case cc19 => k_is)
    (case kk19 => k_is)
    (case l20 => k_is)
    (case cc20 => k_is)
    (case kk20 => k_is)
    (case l21 => k_is)
    (case cc21 => k_is)
    (case kk21 => k_is)
    (case l22 => k_is)
    (case cc22 => k_is)
    (case kk22 => k_is)
    (case l23 => k_is)
    (case cc23 => k_is)
    (case kk23 => k_is)
    (case l24 => k_is)
    (case cc24 => k_is)
    (case kk24 => k_is)
    (case l25 => k_is)
    (case cc25 => k_is)
    (case kk25 => k_is)
    (case l26 => k_is)
    (case cc26 => k_is)
    (case kk26 => k_is)
    (case l27 => k_is)
    (case cc27 => k_is)
    (case kk27 => k_is)
    (case l28 => k_is)
    (case cc28 => k_is)
    (case kk28 => k_is)
    (case l29 => k_is)
    (case cc29 => k_is)
    (case kk29 => k_is)
    (case l30 => k_is)
    (case cc30 => k_is)
    (case kk30 => k_is)
    (case l31 => k_is)
    (case cc31 => k_is)
    (case kk31 => k_is)
    (case l32 => k_is)
    (case cc32 => k_is)
    (case kk32 => k_is)
    (case l33 => k_is)
    (case cc33 => k_is)
    (case kk33 => k_is)
    (case l34 => k_is)
    (case cc34 => k_is)
    (case kk34 => k_is)
    (case l35 => k_is)
    (case cc35 => k_is)
    (case kk35 => k_is)
    (case l36 => k_is)
    (case cc36 => k_is)
    (case kk36 => k_is)
    (case l37 => k_is)
    (case cc37 => k_is)
    (case kk37 => k_is)
    (case l38 => k_is)
    (case cc38 => k_is)
    (case kk38 => k_is)
    (case l39 => k_is)
    (case cc39 => k_is)
    (case kk39 => k_is)
    (case l40 => k_is)
    (case cc40 => k_is)
    (case kk40 => k_is)
    (case l41 => k_is)
    (case cc41 => k_is)
    (case kk41 => k_is)
    (case l42 => k_is)
    (case cc42 => k_is)
    (case kk42 => k_is)
    (case l43 => k_is)
    (case cc43 => k_is)
    (case kk43 => k_is)
    (case l44 => k_is)
    (case cc44 => k_is)
    (case kk44 => k_is)
    (case pg0 => k_is)
    (case hd0 => k_is)
    (case po0 => k_is)
    (case sa0 => k_is)
    (case mk0 => k_is)
    (case kc0 => k_is)
    (case ia0 => k_is)
    (case ib0 => k_is)
    (case ic0 => k_is)
    (case im0 => k_is)
    (case nf0_rows => k_is)
    (case nf0_bottom => k_is)
    (case pg1 => k_is)
    (case hd1 => k_is)
    (case po1 => k_is)
    (case sa1 => k_is)
    (case mk1 => k_is)
    (case kc1 => k_is)
    (case ia1 => k_is)
    (case ib1 => k_is)
    (case ic1 => k_is)
    (case im1 => k_is)
    (case nf1_channels => k_is)
    (case nf1_steps => k_is)
    (case z_abs => k_is)
    (case z_all => k_is)
    (case z_enumerate => k_is)
    (case z_int => k_is)
    (case z_isinstance => k_is)
    (case z_len => k_is)
    (case z_list => k_is)
    (case z_max => k_is)
    (case z_min => k_is)
    (case z_range => k_is)
    (case z_sum => k_is)
    (case z_tuple => k_is)
    (case z_zip => k_is)
    (case zm_gcd => k_is)
#print axioms PySem.Challenge.cw_liftsteps_k12_linear_parts_holds

