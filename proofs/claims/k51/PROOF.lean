import PyProof.Rows.All
import Wide.All
import OpenK.AllK
import Wide.FinOn
import HandS.ForMost
import HandS.ForExc
import HandS.Walk
import HandS.Zip
import HandS.Rev
import HandS.Style
import HandS.Property
import HandS.MakeKw
import HandS.OwnEq
import HandS.Star
import HandS.IsInst
import HandS.Wide
import HandS.Flow
import HandS.ExcInit
import HandS.Gcd
import HandS.TupAny
import HandS.TupMul
import HandS.MakeKwOnly
import HandS.EndBits
import PyProof.ReprRoads
import PyProof.ReprLen
import KE.DataCmp
import HandS.NoneIn
import HandS.Dict
import KE.KDictZip
import HandS.RevRange
import HandS.Conv
import HandS.Deep
import HandS.WordsExc
import HandS.ExcField
import HandS.ExcIs
import KE.KExcIs
import KE.KRevSl
import PyProof.ListIndexNeg
import HandS.SetFor
import PyProof.Draws
import PyProof.EnumMake
import PySem.Challenge.RW_liftsteps_k51_rounds_in_few_values
set_option Elab.async false
set_option linter.all false
set_option maxRecDepth 100000
namespace PK
open PySem L2

/-- data: what a value stands for, without the heap -/
inductive D where
  | non | bl (b : Bool) | int (i : Int) | str (s : Str)
  | lst (xs : List D) | tup (xs : List D)
  | ins (c : Str) (ns : List Str) (xs : List D)
  | scr (ns : List Int)
  /-- an exception of an own class, told of one thing -/
  | exc (c : Str) (d : D)
/-- what a slot holds: data, or a list of the def's own that may change, by its number -/
inductive Vl where
  | fz (d : D) | rf (k : Nat)

/-- an exception that is held, of the class at C, its dict at dd -/
def exk (a C dd : Addr) : HO := .ext fun h => ∃ (oe : Obj) (vs : Array Value), h.get? a = some oe ∧ oe.cls = .ref C ∧ oe.dict = some dd ∧ oe.data = .fields vs
section
variable (K : PySem.W.Frag) (mg : Str → Option Value)
mutual
def Rp (B : Hp) : D → V → Prop
  | .non, v => v = .non
  | .bl b, v => v = .bl b
  | .int i, v => v = .int i
  | .str s, v => v = .str s
  | .lst ds, v => ∃ a xs, v = .ref a ∧ B a = some (.lst xs) ∧ Rps B ds xs
  | .tup ds, v => ∃ a xs, v = .ref a ∧ B a = some (.tup xs) ∧ Rps B ds xs
  | .ins c ns ds, v => ∃ a C dx xs, v = .ref a ∧ mg c = some (.ref C) ∧ B a = some (.ins C dx (ns.zip xs)) ∧ ns.length = xs.length ∧ Rps B ds xs
  | .scr ns, v => ∃ a, v = .ref a ∧ SqL K B a (ns.map V.int)
  | .exc c d, v => ∃ (a C dd : Addr) (w : V), v = .ref a ∧ mg c = some (.ref C) ∧ B a = some (exk a C dd) ∧ B dd = some (.xd [(("value" : Str), w)]) ∧ Rp B d w
def Rps (B : Hp) : List D → List V → Prop
  | [], vs => vs = []
  | d :: ds, vs => ∃ v r, vs = v :: r ∧ Rp B d v ∧ Rps B ds r
end
end

/-- the slots and the lists that may change (none: dead) -/
structure Dl where
  sl : List (Option Vl)
  st : List (Option (List D))

theorem sqL_mono {K : PySem.W.Frag} {B B' : Hp} {a : Addr} {xs : List V} (e : Same B B') (h : SqL K B a xs) : SqL K B' a xs := e.seq h
theorem sqT_mono {K : PySem.W.Frag} {B B' : Hp} {a : Addr} {xs : List V} (e : Same B B') (h : SqT K B a xs) : SqT K B' a xs := by
  rcases h with (h | ⟨o, h⟩) | h
  · exact .inl (.inl (e _ _ h))
  · exact .inl (.inr ⟨o, e _ _ h⟩)
  · exact .inr h

def Pre (ad ad' : List Addr) : Prop := ∃ m, ad' = ad ++ m
theorem Pre.refl (ad : List Addr) : Pre ad ad := ⟨[], by simp⟩
theorem Pre.trans {a b c : List Addr} (h : Pre a b) (g : Pre b c) : Pre a c := by
  obtain ⟨m, rfl⟩ := h
  obtain ⟨n, rfl⟩ := g
  exact ⟨m ++ n, by simp⟩
theorem Pre.get {a b : List Addr} (h : Pre a b) {k : Nat} {p : Addr} (e : a[k]? = some p) : b[k]? = some p := by
  obtain ⟨m, rfl⟩ := h
  obtain ⟨hk, _⟩ := List.getElem?_eq_some_iff.mp e
  rw [List.getElem?_append_left hk]
  exact e
theorem Pre.app (a m : List Addr) : Pre a (a ++ m) := ⟨m, rfl⟩

section
variable {K : PySem.W.Frag} {mg : Str → Option Value} {B B' : Hp}
mutual
theorem Rp.mono (e : Same B B') : ∀ (d : D) (v : V), Rp K mg B d v → Rp K mg B' d v
  | .non, v, h => h
  | .bl _, v, h => h
  | .int _, v, h => h
  | .str _, v, h => h
  | .lst ds, v, h => by
    obtain ⟨a, xs, h1, h2, h3⟩ := h
    exact ⟨a, xs, h1, e _ _ h2, Rps.mono e ds xs h3⟩
  | .tup ds, v, h => by
    obtain ⟨a, xs, h1, h2, h3⟩ := h
    exact ⟨a, xs, h1, e _ _ h2, Rps.mono e ds xs h3⟩
  | .ins c ns ds, v, h => by
    obtain ⟨a, C, dx, xs, h1, h2, h3, h4, h5⟩ := h
    exact ⟨a, C, dx, xs, h1, h2, e _ _ h3, h4, Rps.mono e ds xs h5⟩
  | .scr ns, v, h => by
    obtain ⟨a, h1, h2⟩ := h
    exact ⟨a, h1, sqL_mono e h2⟩
  | .exc c d, v, h => by
    obtain ⟨a, C, dd, w, h1, h2, h3, h4, h5⟩ := h
    exact ⟨a, C, dd, w, h1, h2, e _ _ h3, e _ _ h4, Rp.mono e d w h5⟩
theorem Rps.mono (e : Same B B') : ∀ (ds : List D) (vs : List V), Rps K mg B ds vs → Rps K mg B' ds vs
  | [], vs, h => h
  | d :: ds, vs, h => by
    obtain ⟨v, r, h1, h2, h3⟩ := h
    exact ⟨v, r, h1, Rp.mono e d v h2, Rps.mono e ds r h3⟩
end
theorem Rps.length : ∀ {ds : List D} {vs : List V}, Rps K mg B ds vs → vs.length = ds.length
  | [], vs, h => by
    have h' : vs = [] := h
    rw [h']; rfl
  | d :: ds, vs, h => by
    obtain ⟨v, r, h1, _, h3⟩ := h
    rw [h1, List.length_cons, List.length_cons, Rps.length h3]
theorem Rps.get : ∀ {ds : List D} {vs : List V} {i : Nat} {d : D}, Rps K mg B ds vs → ds[i]? = some d → ∃ v, vs[i]? = some v ∧ Rp K mg B d v
  | [], vs, i, d, h, e => by simp at e
  | x :: ds, vs, 0, d, h, e => by
    obtain ⟨v, r, h1, h2, h3⟩ := h
    simp at e
    subst e
    exact ⟨v, by rw [h1]; rfl, h2⟩
  | x :: ds, vs, i + 1, d, h, e => by
    obtain ⟨v, r, h1, h2, h3⟩ := h
    obtain ⟨w, h4, h5⟩ := Rps.get h3 (by simpa using e)
    exact ⟨w, by rw [h1]; simpa using h4, h5⟩
theorem Rps.back : ∀ {ds : List D} {vs : List V} {i : Nat} {v : V}, Rps K mg B ds vs → vs[i]? = some v → ∃ d, ds[i]? = some d ∧ Rp K mg B d v := fun {ds vs i v} h e => by
  have hl := Rps.length h
  obtain ⟨hi, _⟩ := List.getElem?_eq_some_iff.mp e
  have hi' : i < ds.length := by omega
  obtain ⟨w, h1, h2⟩ := Rps.get h (List.getElem?_eq_getElem hi')
  rw [e] at h1
  cases h1
  exact ⟨_, List.getElem?_eq_getElem hi', h2⟩
theorem Rps.app : ∀ {ds es : List D} {vs ws : List V}, Rps K mg B ds vs → Rps K mg B es ws → Rps K mg B (ds ++ es) (vs ++ ws)
  | [], es, vs, ws, h, g => by
    have h' : vs = [] := h
    rw [h']; exact g
  | d :: ds, es, vs, ws, h, g => by
    obtain ⟨v, r, h1, h2, h3⟩ := h
    exact ⟨v, r ++ ws, by rw [h1]; rfl, h2, Rps.app h3 g⟩
theorem Rps.one {d : D} {v : V} (h : Rp K mg B d v) : Rps K mg B [d] [v] := ⟨v, [], rfl, h, rfl⟩
theorem Rps.of_get : ∀ {ds : List D} {vs : List V}, vs.length = ds.length → (∀ (i : Nat) (d : D) (v : V), ds[i]? = some d → vs[i]? = some v → Rp K mg B d v) → Rps K mg B ds vs
  | [], vs, hl, h => by
    show vs = []
    exact List.length_eq_zero_iff.mp (by simpa using hl)
  | d :: ds, [], hl, h => by simp at hl
  | d :: ds, v :: vs, hl, h => ⟨v, vs, rfl, h 0 d v rfl rfl, Rps.of_get (by simpa using hl) fun i e w h1 h2 => h (i + 1) e w (by simpa using h1) (by simpa using h2)⟩
theorem Rps.set {ds : List D} {vs : List V} {i : Nat} {d : D} {v : V} (h : Rps K mg B ds vs) (hd : Rp K mg B d v) : Rps K mg B (ds.set i d) (vs.set i v) := by
  have hl := Rps.length h
  refine Rps.of_get (by simp [hl]) fun j e w h1 h2 => ?_
  by_cases hj : i = j
  · subst hj
    obtain ⟨q, _⟩ := List.getElem?_eq_some_iff.mp h1
    have q' : i < ds.length := by simpa using q
    rw [List.getElem?_set_self q'] at h1
    rw [List.getElem?_set_self (by omega)] at h2
    cases h1; cases h2
    exact hd
  · rw [List.getElem?_set_ne hj] at h1 h2
    obtain ⟨w', g1, g2⟩ := Rps.get h h1
    rw [h2] at g1
    cases g1
    exact g2
theorem Rps.take {ds : List D} {vs : List V} (n : Nat) (h : Rps K mg B ds vs) : Rps K mg B (ds.take n) (vs.take n) := by
  have hl := Rps.length h
  refine Rps.of_get (by simp [hl]) fun j e w h1 h2 => ?_
  rw [List.getElem?_take] at h1 h2
  split at h1
  · rename_i hj
    rw [if_pos hj] at h2
    obtain ⟨w', g1, g2⟩ := Rps.get h h1
    rw [h2] at g1
    cases g1
    exact g2
  · cases h1
theorem Rps.drop {ds : List D} {vs : List V} (n : Nat) (h : Rps K mg B ds vs) : Rps K mg B (ds.drop n) (vs.drop n) := by
  have hl := Rps.length h
  refine Rps.of_get (by simp [hl]) fun j e w h1 h2 => ?_
  rw [List.getElem?_drop] at h1 h2
  obtain ⟨w', g1, g2⟩ := Rps.get h h1
  rw [h2] at g1
  cases g1
  exact g2
theorem Rps.rev {ds : List D} {vs : List V} (h : Rps K mg B ds vs) : Rps K mg B ds.reverse vs.reverse := by
  have hl := Rps.length h
  refine Rps.of_get (by simp [hl]) fun j e w h1 h2 => ?_
  obtain ⟨hj, _⟩ := List.getElem?_eq_some_iff.mp h1
  have hj' : j < ds.length := by simpa using hj
  rw [List.getElem?_reverse hj'] at h1
  rw [List.getElem?_reverse (by omega)] at h2
  rw [hl] at h2
  obtain ⟨w', g1, g2⟩ := Rps.get h h1
  rw [h2] at g1
  cases g1
  exact g2
end

def RpV (K : PySem.W.Frag) (mg : Str → Option Value) (B : Hp) (ad : List Addr) : Vl → V → Prop
  | .fz d, v => Rp K mg B d v
  | .rf k, v => ∃ a, v = .ref a ∧ ad[k]? = some a
theorem RpV.mono {K : PySem.W.Frag} {mg : Str → Option Value} {B B' : Hp} {ad ad' : List Addr} (e : Same B B') (p : Pre ad ad') {d : Vl} {v : V} (h : RpV K mg B ad d v) : RpV K mg B' ad' d v := by
  cases d with
  | fz d => exact Rp.mono e d v h
  | rf k =>
    obtain ⟨a, h1, h2⟩ := h
    exact ⟨a, h1, p.get h2⟩

structure SRep (K : PySem.W.Frag) (mg : Str → Option Value) (B F : Hp) (ad : List Addr) (σ : L2.St) (δ : Dl) (H : Hp) : Prop where
  exB : Same B H
  exF : Same F H
  dis : ∀ a o, F a = some o → B a = none
  nd : ad.Nodup
  len : ad.length = δ.st.length
  slen : σ.length = δ.sl.length
  cell : ∀ (k : Nat) (ds : List D), δ.st[k]? = some (some ds) → ∃ (p : Addr) (xs : List V), ad[k]? = some p ∧ H p = some (.lst xs) ∧ Rps K mg B ds xs ∧ B p = none ∧ F p = none
  dead : ∀ (k : Nat) (p : Addr), ad[k]? = some p → δ.st[k]? = some none → B p ≠ none
  slot : ∀ (i : Nat) (d : Vl), δ.sl[i]? = some (some d) → ∃ v, σ[i]? = some (some v) ∧ RpV K mg B ad d v

section
variable {K : PySem.W.Frag} {mg : Str → Option Value} {B B' F : Hp} {ad ad' : List Addr} {σ : L2.St} {δ : Dl} {H : Hp} {p : Addr} {o : HO}
theorem SRep.known (S : SRep K mg B F ad σ δ H) {p : Addr} (hp : p ∈ ad) : H p ≠ none := by
  obtain ⟨k, hk⟩ := List.getElem?_of_mem hp
  obtain ⟨hl, _⟩ := List.getElem?_eq_some_iff.mp hk
  have hl' : k < δ.st.length := by rw [← S.len]; exact hl
  cases e : δ.st[k]? with
  | none => exact absurd (List.getElem?_eq_none_iff.mp e) (by omega)
  | some u =>
    cases u with
    | none =>
      have h1 := S.dead k p hk e
      intro z
      cases q : B p with
      | none => exact h1 q
      | some o =>
        have := S.exB p o q
        rw [z] at this
        cases this
    | some ds =>
      obtain ⟨q, xs, h1, h2, _⟩ := S.cell k ds e
      rw [hk] at h1
      cases h1
      rw [h2]
      simp
theorem same_new (h : H p = none) : Same H (upd H p o) := fun a u e => by
  rw [upd_ne (ne_of_none e h)]
  exact e
/-- a new object, known from now on -/
theorem SRep.alloc (S : SRep K mg B F ad σ δ H) (h : H p = none) : SRep K mg (upd B p o) F ad σ δ (upd H p o) where
  exB := fun a u e => by
    by_cases ha : a = p
    · subst ha
      rw [upd_same] at e ⊢
      exact e
    · rw [upd_ne ha] at e ⊢
      exact S.exB a u e
  exF := fun a u e => by rw [upd_ne (ne_of_none (S.exF a u e) h)]; exact S.exF a u e
  dis := fun a u e => by rw [upd_ne (ne_of_none (S.exF a u e) h)]; exact S.dis a u e
  nd := S.nd
  len := S.len
  slen := S.slen
  cell := fun k ds e => by
    obtain ⟨q, xs, h1, h2, h3, h4, h5⟩ := S.cell k ds e
    have hq : q ≠ p := ne_of_none h2 h
    exact ⟨q, xs, h1, by rw [upd_ne hq]; exact h2, Rps.mono (same_new (S.exB.free h)) ds xs h3, by rw [upd_ne hq]; exact h4, h5⟩
  dead := fun k q h1 h2 => by
    have h3 := S.dead k q h1 h2
    by_cases hq : q = p
    · rw [hq, upd_same]; simp
    · rw [upd_ne hq]; exact h3
  slot := fun i d e => by
    obtain ⟨v, h1, h2⟩ := S.slot i d e
    exact ⟨v, h1, RpV.mono (same_new (S.exB.free h)) (Pre.refl _) h2⟩
/-- a new list that may change -/
theorem SRep.cellNew {xs : List V} {ds : List D} (S : SRep K mg B F ad σ δ H) (h : H p = none) (r : Rps K mg B ds xs) : SRep K mg B F (ad ++ [p]) σ { δ with st := δ.st ++ [some ds] } (upd H p (.lst xs)) where
  exB := fun a u e => by rw [upd_ne (ne_of_none (S.exB a u e) h)]; exact S.exB a u e
  exF := fun a u e => by rw [upd_ne (ne_of_none (S.exF a u e) h)]; exact S.exF a u e
  dis := S.dis
  nd := by
    rw [List.nodup_append]
    refine ⟨S.nd, by simp, fun a ha b hb => ?_⟩
    have hb' : b = p := by simpa using hb
    subst hb'
    exact fun z => S.known ha (by rw [z]; exact h)
  len := by simp [S.len]
  slen := S.slen
  cell := fun k es e => by
    have e' : (δ.st ++ [some ds])[k]? = some (some es) := e
    by_cases hk : k < δ.st.length
    · rw [List.getElem?_append_left hk] at e'
      obtain ⟨q, ys, h1, h2, h3, h4, h5⟩ := S.cell k es e'
      have hq : q ≠ p := ne_of_none h2 h
      exact ⟨q, ys, (Pre.app ad [p]).get h1, by rw [upd_ne hq]; exact h2, h3, h4, h5⟩
    · have hk2 : k = δ.st.length := by
        obtain ⟨q, _⟩ := List.getElem?_eq_some_iff.mp e'
        simp at q
        omega
      subst hk2
      rw [List.getElem?_append_right (Nat.le_refl _)] at e'
      simp at e'
      subst e'
      refine ⟨p, xs, ?_, upd_same, r, S.exB.free h, S.exF.free h⟩
      rw [← S.len, List.getElem?_append_right (Nat.le_refl _)]
      simp
  dead := fun k q h1 h2 => by
    have h2' : (δ.st ++ [some ds])[k]? = some none := h2
    have hk : k < δ.st.length := by
      rcases Nat.lt_or_ge k δ.st.length with z | z
      · exact z
      · rw [List.getElem?_append_right z] at h2'
        cases q : k - δ.st.length with
        | zero => rw [q] at h2'; simp at h2'
        | succ n => rw [q] at h2'; simp at h2'
    rw [List.getElem?_append_left hk] at h2'
    rw [List.getElem?_append_left (by rw [S.len]; exact hk)] at h1
    exact S.dead k q h1 h2'
  slot := fun i d e => by
    obtain ⟨v, h1, h2⟩ := S.slot i d e
    exact ⟨v, h1, RpV.mono (Same.refl _) (Pre.app _ _) h2⟩
/-- a slot is set -/
theorem SRep.setS {i : Nat} {d : Vl} {v : V} (S : SRep K mg B F ad σ δ H) (r : RpV K mg B ad d v) : SRep K mg B F ad (σ.set i (some v)) { δ with sl := δ.sl.set i (some d) } H where
  exB := S.exB
  exF := S.exF
  dis := S.dis
  nd := S.nd
  len := S.len
  slen := by simp [S.slen]
  cell := S.cell
  dead := S.dead
  slot := fun j e he => by
    have he' : (δ.sl.set i (some d))[j]? = some (some e) := he
    by_cases hj : i = j
    · subst hj
      obtain ⟨q, _⟩ := List.getElem?_eq_some_iff.mp he'
      have q' : i < δ.sl.length := by simpa using q
      rw [List.getElem?_set_self q'] at he'
      cases he'
      exact ⟨v, by rw [List.getElem?_set_self (by rw [S.slen]; exact q')], r⟩
    · rw [List.getElem?_set_ne hj] at he' ⊢
      exact S.slot j e he'
/-- a slot is forgotten (whatever stands there) -/
theorem SRep.dropS {i : Nat} {x : Option V} (S : SRep K mg B F ad σ δ H) : SRep K mg B F ad (σ.set i x) { δ with sl := δ.sl.set i none } H where
  exB := S.exB
  exF := S.exF
  dis := S.dis
  nd := S.nd
  len := S.len
  slen := by simp [S.slen]
  cell := S.cell
  dead := S.dead
  slot := fun j e he => by
    have he' : (δ.sl.set i none)[j]? = some (some e) := he
    by_cases hj : i = j
    · subst hj
      obtain ⟨q, _⟩ := List.getElem?_eq_some_iff.mp he'
      have q' : i < δ.sl.length := by simpa using q
      rw [List.getElem?_set_self q'] at he'
      cases he'
    · rw [List.getElem?_set_ne hj] at he' ⊢
      exact S.slot j e he'
/-- a list of our own changes -/
theorem SRep.cellSet {k : Nat} {ds es : List D} {xs ys : List V} (S : SRep K mg B F ad σ δ H) (hk : δ.st[k]? = some (some ds)) (hp : ad[k]? = some p) (hx : H p = some (.lst xs)) (r : Rps K mg B es ys) :
    SRep K mg B F ad σ { δ with st := δ.st.set k (some es) } (upd H p (.lst ys)) := by
  obtain ⟨q, zs, g1, g2, g3, g4, g5⟩ := S.cell k ds hk
  rw [hp] at g1
  cases g1
  have hkl : k < δ.st.length := (List.getElem?_eq_some_iff.mp hk).1
  refine ⟨fun a u e => ?_, fun a u e => ?_, S.dis, S.nd, by simp [S.len], S.slen, fun j fs e => ?_, fun j a h1 h2 => ?_, S.slot⟩
  · rw [upd_ne (ne_of_none e g4)]; exact S.exB a u e
  · rw [upd_ne (ne_of_none e g5)]; exact S.exF a u e
  · have e' : (δ.st.set k (some es))[j]? = some (some fs) := e
    by_cases hj : k = j
    · subst hj
      rw [List.getElem?_set_self hkl] at e'
      cases e'
      exact ⟨p, ys, hp, upd_same, r, g4, g5⟩
    · rw [List.getElem?_set_ne hj] at e'
      obtain ⟨b, ws, h1, h2, h3, h4, h5⟩ := S.cell j fs e'
      have hb : b ≠ p := fun z => by
        subst z
        obtain ⟨hk1, e1⟩ := List.getElem?_eq_some_iff.mp hp
        obtain ⟨hj1, e2⟩ := List.getElem?_eq_some_iff.mp h1
        exact hj ((List.getElem_inj S.nd).mp (e1.trans e2.symm))
      exact ⟨b, ws, h1, by rw [upd_ne hb]; exact h2, h3, h4, h5⟩
  · have h2' : (δ.st.set k (some es))[j]? = some none := h2
    by_cases hj : k = j
    · subst hj
      rw [List.getElem?_set_self hkl] at h2'
      cases h2'
    · rw [List.getElem?_set_ne hj] at h2'
      exact S.dead j a h1 h2'
/-- a list of our own is frozen -/
theorem SRep.freeze {k : Nat} {ds : List D} {xs : List V} (S : SRep K mg B F ad σ δ H) (hk : δ.st[k]? = some (some ds)) (hp : ad[k]? = some p) (hx : H p = some (.lst xs)) :
    SRep K mg (upd B p (.lst xs)) F ad σ { δ with st := δ.st.set k none } H ∧ Same B (upd B p (.lst xs)) := by
  obtain ⟨q, zs, g1, g2, g3, g4, g5⟩ := S.cell k ds hk
  rw [hp] at g1
  cases g1
  have hkl : k < δ.st.length := (List.getElem?_eq_some_iff.mp hk).1
  have sB : Same B (upd B p (.lst xs)) := same_new g4
  refine ⟨⟨fun a u e => ?_, S.exF, fun a u e => ?_, S.nd, by simp [S.len], S.slen, fun j fs e => ?_, fun j a h1 h2 => ?_, fun i d e => ?_⟩, sB⟩
  · by_cases ha : a = p
    · subst ha
      rw [upd_same] at e
      cases e
      exact hx
    · rw [upd_ne ha] at e
      exact S.exB a u e
  · rw [upd_ne (ne_of_none e g5)]; exact S.dis a u e
  · have e' : (δ.st.set k none)[j]? = some (some fs) := e
    by_cases hj : k = j
    · subst hj
      rw [List.getElem?_set_self hkl] at e'
      cases e'
    · rw [List.getElem?_set_ne hj] at e'
      obtain ⟨b, ws, h1, h2, h3, h4, h5⟩ := S.cell j fs e'
      have hb : b ≠ p := fun z => by
        subst z
        obtain ⟨hk1, e1⟩ := List.getElem?_eq_some_iff.mp hp
        obtain ⟨hj1, e2⟩ := List.getElem?_eq_some_iff.mp h1
        exact hj ((List.getElem_inj S.nd).mp (e1.trans e2.symm))
      exact ⟨b, ws, h1, h2, Rps.mono sB fs ws h3, by rw [upd_ne hb]; exact h4, h5⟩
  · have h2' : (δ.st.set k none)[j]? = some none := h2
    by_cases hap : a = p
    · rw [hap, upd_same]; simp
    · rw [upd_ne hap]
      by_cases hj : k = j
      · subst hj
        rw [hp] at h1
        cases h1
        exact absurd rfl hap
      · rw [List.getElem?_set_ne hj] at h2'
        exact S.dead j a h1 h2'
  · obtain ⟨v, h1, h2⟩ := S.slot i d e
    exact ⟨v, h1, RpV.mono sB (Pre.refl _) h2⟩
end
end PK

namespace PK
open PySem L2

theorem PE.weak {X : Cx} {e : Expr} {t t' : TE} (h : PE X e t) (w : ∀ σ H Q, t' σ H Q → t σ H Q) : PE X e t' := ⟨fun pins s σ H Q I q => h.run pins s σ H Q I (w σ H Q q)⟩
theorem PT.weak {X : Cx} {e : Expr} {t t' : TT} (h : PT X e t) (w : ∀ σ H Q, t' σ H Q → t σ H Q) : PT X e t' := ⟨fun pins s σ H Q I q => h.run pins s σ H Q I (w σ H Q q)⟩
theorem PA.weak {X : Cx} {e : List Expr} {t t' : TA} (h : PA X e t) (w : ∀ σ H Q, t' σ H Q → t σ H Q) : PA X e t' := ⟨fun pos pins s σ H Q I q => h.run pos pins s σ H Q I (w σ H Q q)⟩
theorem PS.weak {X : Cx} {e : Stmt} {t t' : TS} (h : PS X e t) (w : ∀ D σ H, t' D σ H → t D σ H) : PS X e t' := ⟨fun pins s σ H D I q => h.run pins s σ H D I (w D σ H q)⟩
theorem PSs.weak {X : Cx} {e : List Stmt} {t t' : TS} (h : PSs X e t) (w : ∀ D σ H, t' D σ H → t D σ H) : PSs X e t' := ⟨fun pins s σ H D I q => h.run pins s σ H D I (w D σ H q)⟩

abbrev EF := Dl → Option (Vl × Dl)
abbrev AF := Dl → Option (List Vl × Dl)
abbrev BF := Dl → Option (Bool × Dl)

section
variable (K : PySem.W.Frag) (mg : Str → Option Value)
def RpVs (B : Hp) (ad : List Addr) : List Vl → List V → Prop
  | [], vs => vs = []
  | d :: ds, vs => ∃ v r, vs = v :: r ∧ RpV K mg B ad d v ∧ RpVs B ad ds r
def tD (f : EF) : TE := fun σ H Q => ∃ B F ad δ r δ', SRep K mg B F ad σ δ H ∧ f δ = some (r, δ') ∧
  ∀ B' ad' v H', Same B B' → Pre ad ad' → SRep K mg B' F ad' σ δ' H' → RpV K mg B' ad' r v → Q v H'
def tDA (f : AF) : TA := fun σ H Q => ∃ B F ad δ r δ', SRep K mg B F ad σ δ H ∧ f δ = some (r, δ') ∧
  ∀ B' ad' v H', Same B B' → Pre ad ad' → SRep K mg B' F ad' σ δ' H' → RpVs K mg B' ad' r v → Q v H'
def tDT (f : BF) : TT := fun σ H Q => ∃ B F ad δ r δ', SRep K mg B F ad σ δ H ∧ f δ = some (r, δ') ∧
  ∀ B' ad' H', Same B B' → Pre ad ad' → SRep K mg B' F ad' σ δ' H' → Q r H'
end
abbrev PD (X : Cx) (e : Expr) (f : EF) := PE X e (tD X.K X.mg f)
abbrev PDA (X : Cx) (es : List Expr) (f : AF) := PA X es (tDA X.K X.mg f)
abbrev PDT (X : Cx) (e : Expr) (f : BF) := PT X e (tDT X.K X.mg f)

theorem RpVs.mono {K : PySem.W.Frag} {mg : Str → Option Value} {B B' : Hp} {ad ad' : List Addr} (e : Same B B') (p : Pre ad ad') : ∀ {ds : List Vl} {vs : List V}, RpVs K mg B ad ds vs → RpVs K mg B' ad' ds vs
  | [], vs, h => h
  | d :: ds, vs, h => by
    obtain ⟨v, r, h1, h2, h3⟩ := h
    exact ⟨v, r, h1, h2.mono e p, RpVs.mono e p h3⟩

/-- what a list or a number is, read at this moment -/
def der (δ : Dl) : Vl → Option D
  | .fz d => some d
  | .rf k => match δ.st[k]? with
    | some (some ds) => some (.lst ds)
    | _ => none
def Vw (K : PySem.W.Frag) (mg : Str → Option Value) (B H : Hp) : D → V → Prop
  | .lst ds, v => ∃ a xs, v = .ref a ∧ H a = some (.lst xs) ∧ Rps K mg B ds xs
  | d, v => Rp K mg B d v
section
variable {K : PySem.W.Frag} {mg : Str → Option Value} {B B' F : Hp} {ad ad' : List Addr} {σ : L2.St} {δ δ' : Dl} {H H' : Hp} {p : Addr} {o : HO}
theorem Rp.vw {d : D} {v : V} (e : Same B H) (h : Rp K mg B d v) : Vw K mg B H d v := by
  cases d with
  | lst ds =>
    obtain ⟨a, xs, h1, h2, h3⟩ := h
    exact ⟨a, xs, h1, e _ _ h2, h3⟩
  | tup ds => exact h
  | non => exact h
  | bl _ => exact h
  | int _ => exact h
  | str _ => exact h
  | ins _ _ _ => exact h
  | scr _ => exact h
  | exc _ _ => exact h
theorem SRep.vw {r : Vl} {d : D} {v : V} (S : SRep K mg B F ad σ δ H) (h : RpV K mg B ad r v) (e : der δ r = some d) : Vw K mg B H d v := by
  cases r with
  | fz d' =>
    have e' : d' = d := Option.some.inj e
    subst e'
    exact Rp.vw S.exB h
  | rf k =>
    obtain ⟨a, h1, h2⟩ := h
    unfold der at e
    dsimp only at e
    split at e
    · rename_i ds hk
      cases e
      obtain ⟨q, xs, g1, g2, g3, _, _⟩ := S.cell k ds hk
      rw [h2] at g1
      cases g1
      exact ⟨a, xs, h1, g2, g3⟩
    · cases e

/-! ### names, constants -/
def dC (d : D) : EF := fun δ => some (.fz d, δ)
def dVar (i : Nat) : EF := fun δ => match δ.sl[i]? with
  | some (some r) => some (r, δ)
  | _ => none
end
section
variable {X : Cx} {e a b c : Expr} {f fa fb fc : EF} {pos : Pos}
theorem pd_int {i : Int} {j} : PD X (.Constant (.int i) j pos) (dC (.int i)) := PE.weak pe_int fun σ H Q h => by
  obtain ⟨B, F, ad, δ, r, δ', S, e, k⟩ := h
  cases e
  exact k B ad _ H (Same.refl _) (Pre.refl _) S rfl
theorem pd_bl {i : Bool} {j} : PD X (.Constant (.bool i) j pos) (dC (.bl i)) := PE.weak pe_bl fun σ H Q h => by
  obtain ⟨B, F, ad, δ, r, δ', S, e, k⟩ := h
  cases e
  exact k B ad _ H (Same.refl _) (Pre.refl _) S rfl
theorem pd_str {i : Str} {j} : PD X (.Constant (.str i) j pos) (dC (.str i)) := PE.weak pe_str fun σ H Q h => by
  obtain ⟨B, F, ad, δ, r, δ', S, e, k⟩ := h
  cases e
  exact k B ad _ H (Same.refl _) (Pre.refl _) S rfl
theorem pd_non {j} : PD X (.Constant .none j pos) (dC .non) := PE.weak pe_non fun σ H Q h => by
  obtain ⟨B, F, ad, δ, r, δ', S, e, k⟩ := h
  cases e
  exact k B ad _ H (Same.refl _) (Pre.refl _) S rfl
theorem pd_var (i : Nat) {x : Str} (hN : X.N[i]? = some x := by rfl) (hv : Vis X.env.scope x := by first | exact Or.inl rfl | exact Or.inr (Or.inl rfl) | exact Or.inr (Or.inr rfl)) (hd : (x == ("__debug__" : Str)) = false := by decide)
    (hcd : (x == ("__classdict__" : Str)) = false := by decide) : PD X (.Name x pos) (dVar i) := PE.weak (pe_var hN hv hd hcd) fun σ H Q h => by
  obtain ⟨B, F, ad, δ, r, δ', S, e, k⟩ := h
  unfold dVar at e
  split at e
  · rename_i r' hr
    cases e
    obtain ⟨v, h1, h2⟩ := S.slot i _ hr
    exact ⟨v, h1, k B ad v H (Same.refl _) (Pre.refl _) S h2⟩
  · cases e

/-! ### two-place operations -/
abbrev OF := Dl → D → D → Option (Vl × Dl)
def rD (K : PySem.W.Frag) (mg : Str → Option Value) (g : OF) : R2 := fun x y H Q => ∃ B F ad σ δ dx dy r δ', SRep K mg B F ad σ δ H ∧ Vw K mg B H dx x ∧ Vw K mg B H dy y ∧ g δ dx dy = some (r, δ') ∧
  ∀ B' ad' v H', Same B B' → Pre ad ad' → SRep K mg B' F ad' σ δ' H' → RpV K mg B' ad' r v → Q v H'
def dOp (g : OF) (fa fb : EF) : EF := fun δ => (fa δ).bind fun p => (fb p.2).bind fun q => (der q.2 p.1).bind fun a => (der q.2 q.1).bind fun b => g q.2 a b
theorem dOp_w {K : PySem.W.Frag} {mg : Str → Option Value} {g : OF} {σ : L2.St} {H : Hp} {Q : VK} (h : tD K mg (dOp g fa fb) σ H Q) : tOp (rD K mg g) (tD K mg fa) (tD K mg fb) σ H Q := by
  obtain ⟨B, F, ad, δ, r, δ', S, e, k⟩ := h
  unfold dOp at e
  obtain ⟨⟨x, δ1⟩, e1, e⟩ := Option.bind_eq_some_iff.mp e
  obtain ⟨⟨y, δ2⟩, e2, e⟩ := Option.bind_eq_some_iff.mp e
  obtain ⟨da, e3, e⟩ := Option.bind_eq_some_iff.mp e
  obtain ⟨db, e4, e⟩ := Option.bind_eq_some_iff.mp e
  refine ⟨B, F, ad, δ, x, δ1, S, e1, fun B1 ad1 vx H1 s1 p1 S1 r1 => ?_⟩
  refine ⟨B1, F, ad1, δ1, y, δ2, S1, e2, fun B2 ad2 vy H2 s2 p2 S2 r2 => ?_⟩
  exact ⟨B2, F, ad2, σ, δ2, da, db, r, δ', S2, S2.vw (r1.mono s2 p2) e3, S2.vw r2 e4, e, fun B' ad' v H' s3 p3 S' r' => k B' ad' v H' ((s1.trans s2).trans s3) ((p1.trans p2).trans p3) S' r'⟩
theorem pd_op {op : Operator} {g : OF} (ho : OpR X (binaryOp op) (rD X.K X.mg g)) (ha : PD X a fa) (hb : PD X b fb) : PD X (.BinOp a op b pos) (dOp g fa fb) :=
  PE.weak (pe_op ho ha hb) fun σ H Q h => dOp_w h
theorem pd_cmp {op : CmpOp} {g : OF} (ho : OpR X (compareOp op) (rD X.K X.mg g)) (ha : PD X a fa) (hb : PD X b fb) (hm : behindInMarks op b = false := by rfl) : PD X (.Compare a [op] [b] pos) (dOp g fa fb) :=
  PE.weak (pe_cmpR ho ha hb hm) fun σ H Q h => dOp_w h
end
end PK

namespace PK
open PySem L2

/-- a new list: one that may change, or one that stays -/
def mk (m : Bool) (ds : List D) (δ : Dl) : Vl × Dl := if m then (.rf δ.st.length, { δ with st := δ.st ++ [some ds] }) else (.fz (.lst ds), δ)
section
variable {K : PySem.W.Frag} {mg : Str → Option Value} {B B' F : Hp} {ad ad' : List Addr} {σ : L2.St} {δ δ' : Dl} {H H' : Hp} {p : Addr} {o : HO}
theorem mk_ok {m : Bool} {ds : List D} {xs : List V} {Q : VK} (S : SRep K mg B F ad σ δ H) (hp : H p = none) (r : Rps K mg B ds xs)
    (k : ∀ B' ad' v H', Same B B' → Pre ad ad' → SRep K mg B' F ad' σ (mk m ds δ).2 H' → RpV K mg B' ad' (mk m ds δ).1 v → Q v H') : Q (.ref p) (upd H p (.lst xs)) := by
  cases m with
  | true =>
    refine k B (ad ++ [p]) (.ref p) _ (Same.refl _) (Pre.app _ _) (S.cellNew hp r) ⟨p, rfl, ?_⟩
    rw [← S.len, List.getElem?_append_right (Nat.le_refl _)]
    simp
  | false =>
    have s1 : Same B (upd B p (.lst xs)) := same_new (S.exB.free hp)
    exact k _ ad (.ref p) _ s1 (Pre.refl _) (S.alloc hp) ⟨p, xs, rfl, upd_same, Rps.mono s1 ds xs r⟩
theorem tup_ok {ds : List D} {xs : List V} {Q : VK} (S : SRep K mg B F ad σ δ H) (hp : H p = none) (r : Rps K mg B ds xs)
    (k : ∀ B' ad' v H', Same B B' → Pre ad ad' → SRep K mg B' F ad' σ δ H' → RpV K mg B' ad' (.fz (.tup ds)) v → Q v H') : Q (.ref p) (upd H p (.tup xs)) := by
  have s1 : Same B (upd B p (.tup xs)) := same_new (S.exB.free hp)
  exact k _ ad (.ref p) _ s1 (Pre.refl _) (S.alloc hp) ⟨p, xs, rfl, upd_same, Rps.mono s1 ds xs r⟩
theorem here {d : D} {v : V} {Q : VK} (S : SRep K mg B F ad σ δ H) (r : Rp K mg B d v)
    (k : ∀ B' ad' v H', Same B B' → Pre ad ad' → SRep K mg B' F ad' σ δ H' → RpV K mg B' ad' (.fz d) v → Q v H') : Q v H := k B ad v H (Same.refl _) (Pre.refl _) S r
end

def small : Nat := 100000
theorem small_sz {n : Nat} (h : n ≤ small) : n ≤ sizeLine := Nat.le_trans h (by decide)
def okMul (i j : Int) : Bool := decide (i.natAbs.log2 + j.natAbs.log2 < 1000000)
def okDiv (j : Int) : Bool := decide (0 < j ∧ j.natAbs.log2 < 9000)
def okPow (i : Int) : Bool := decide (i.natAbs.log2 < 1000)

def addD (m : Bool) : OF := fun δ x y => match x, y with
  | .int i, .int j => some (.fz (.int (i + j)), δ)
  | .lst a, .lst b => if a.length + b.length ≤ small then some (mk m (a ++ b) δ) else none
  | .tup a, .tup b => if a.length + b.length ≤ small then some (.fz (.tup (a ++ b)), δ) else none
  | _, _ => none
def subD : OF := fun δ x y => match x, y with
  | .int i, .int j => some (.fz (.int (i - j)), δ)
  | _, _ => none
def mulD (m : Bool) : OF := fun δ x y => match x, y with
  | .int i, .int j => if okMul i j then some (.fz (.int (i * j)), δ) else none
  | .lst a, .int k => if decide (-1000 ≤ k ∧ k ≤ 1000 ∧ a.length ≤ 100) then some (mk m (List.replicate k.toNat a).flatten δ) else none
  | .tup a, .int k => if decide (2 ≤ k ∧ k ≤ 1000 ∧ a ≠ [] ∧ a.length ≤ 100) then some (.fz (.tup (List.replicate k.toNat a).flatten), δ) else none
  | _, _ => none
def divD : OF := fun δ x y => match x, y with
  | .int i, .int j => if okDiv j then some (.fz (.int (i / j)), δ) else none
  | _, _ => none
def modD : OF := fun δ x y => match x, y with
  | .int i, .int j => if 0 < j then some (.fz (.int (i % j)), δ) else none
  | _, _ => none
/-- to the power of 3 alone -/
def powD : OF := fun δ x y => match x, y with
  | .int i, .int j => if okPow i ∧ 0 ≤ j ∧ j ≤ 64 then some (.fz (.int (i ^ j.toNat)), δ) else none
  | _, _ => none

section
variable {X : Cx}
theorem flat_rep {K : PySem.W.Frag} {mg : Str → Option Value} {B : Hp} {ds : List D} {xs : List V} (r : Rps K mg B ds xs) : ∀ n : Nat, Rps K mg B (List.replicate n ds).flatten (List.replicate n xs).flatten
  | 0 => rfl
  | n + 1 => by
    rw [List.replicate_succ, List.replicate_succ, List.flatten_cons, List.flatten_cons]
    exact Rps.app r (flat_rep r n)
theorem ne_nil_of {K : PySem.W.Frag} {mg : Str → Option Value} {B : Hp} {ds : List D} {xs : List V} (r : Rps K mg B ds xs) (h : ds ≠ []) : xs ≠ [] := fun e => h (by
  have := Rps.length r
  rw [e] at this
  exact List.length_eq_zero_iff.mp this.symm)
theorem od_add (m : Bool) : OpR X (binaryOp .Add) (rD X.K X.mg (addD m)) := by
  intro pins s σ H x y v u Q I rx ry h
  obtain ⟨B, F, ad, σ', δ, dx, dy, r, δ', S, vx, vy, e, k⟩ := h
  unfold addD at e
  split at e
  · rename_i i j
    cases e
    have vx' : x = .int i := vx
    have vy' : y = .int j := vy
    exact op_add pins s σ H x y v u Q I rx ry ⟨i, j, vx', vy', here (d := .int (i + j)) S rfl k⟩
  · rename_i a b
    split at e
    · rename_i hl
      obtain ⟨p, xs, rfl, hp, r1⟩ := vx
      obtain ⟨q, ys, rfl, hq, r2⟩ := vy
      have e' := Option.some.inj e
      refine op_cat pins s σ H _ _ v u Q I rx ry ⟨p, q, xs, ys, rfl, rfl, hp, hq, small_sz (by rw [Rps.length r1, Rps.length r2]; exact hl), fun z hz => ?_⟩
      refine mk_ok (m := m) S hz (Rps.app r1 r2) fun B' ad' v' H' s1 p1 S1 r' => ?_
      rw [e'] at S1 r'
      exact k B' ad' v' H' s1 p1 S1 r'
    · cases e
  · rename_i a b
    split at e
    · rename_i hl
      obtain ⟨p, xs, rfl, hp, r1⟩ := vx
      obtain ⟨q, ys, rfl, hq, r2⟩ := vy
      cases e
      refine op_catA pins s σ H _ _ v u Q I rx ry ⟨p, q, xs, ys, rfl, rfl, SqT.of (S.exB _ _ hp), SqT.of (S.exB _ _ hq), small_sz (by rw [Rps.length r1, Rps.length r2]; exact hl), fun z => ?_, fun z1 z2 => ?_, fun _ _ z hz => ?_⟩
      · have ha : a = [] := List.length_eq_zero_iff.mp (by rw [← Rps.length r1, z]; rfl)
        subst ha
        exact here (d := .tup b) S ⟨q, ys, rfl, hq, r2⟩ k
      · have hb : b = [] := List.length_eq_zero_iff.mp (by rw [← Rps.length r2, z2]; rfl)
        subst hb
        rw [List.append_nil] at k
        exact here (d := .tup a) S ⟨p, xs, rfl, hp, r1⟩ k
      · exact tup_ok S hz (Rps.app r1 r2) k
    · cases e
  · cases e
theorem od_sub : OpR X (binaryOp .Sub) (rD X.K X.mg subD) := by
  intro pins s σ H x y v u Q I rx ry h
  obtain ⟨B, F, ad, σ', δ, dx, dy, r, δ', S, vx, vy, e, k⟩ := h
  unfold subD at e
  split at e
  · rename_i i j
    cases e
    exact op_sub pins s σ H x y v u Q I rx ry ⟨i, j, vx, vy, here (d := .int (i - j)) S rfl k⟩
  · cases e
theorem od_mul (m : Bool) : OpR X (binaryOp .Mult) (rD X.K X.mg (mulD m)) := by
  intro pins s σ H x y v u Q I rx ry h
  obtain ⟨B, F, ad, σ', δ, dx, dy, r, δ', S, vx, vy, e, k⟩ := h
  unfold mulD at e
  split at e
  · rename_i i j
    split at e
    · rename_i hm
      cases e
      exact op_mulW pins s σ H x y v u Q I rx ry ⟨i, j, vx, vy, (show CMulW i j from by unfold CMulW; unfold okMul at hm; exact of_decide_eq_true hm), here (d := .int (i * j)) S rfl k⟩
    · cases e
  · rename_i a n
    split at e
    · rename_i hl
      have hl' := of_decide_eq_true hl
      obtain ⟨p, xs, rfl, hp, r1⟩ := vx
      have e' := Option.some.inj e
      have hlen := Rps.length r1
      refine op_rep pins s σ H _ _ v u Q I rx ry ⟨p, n, xs, rfl, vy, hp, by omega, by omega, ?_, fun z hz => ?_⟩
      · have h1 : xs.length * n.toNat ≤ 100 * 1000 := Nat.mul_le_mul (by omega) (by omega)
        exact Nat.le_trans h1 (by decide)
      · refine mk_ok (m := m) S hz (flat_rep r1 _) fun B' ad' v' H' s1 p1 S1 r' => ?_
        rw [e'] at S1 r'
        exact k B' ad' v' H' s1 p1 S1 r'
    · cases e
  · rename_i a n
    split at e
    · rename_i hl
      have hl' := of_decide_eq_true hl
      obtain ⟨p, xs, rfl, hp, r1⟩ := vx
      cases e
      have hlen := Rps.length r1
      refine op_repT pins s σ H _ _ v u Q I rx ry ⟨p, n, xs, rfl, vy, SqT.of (S.exB _ _ hp), ne_nil_of r1 hl'.2.2.1, hl'.1, hl'.2.1, by omega, fun z hz => ?_⟩
      exact tup_ok S hz (flat_rep r1 _) k
    · cases e
  · cases e
theorem od_div : OpR X (binaryOp .FloorDiv) (rD X.K X.mg divD) := by
  intro pins s σ H x y v u Q I rx ry h
  obtain ⟨B, F, ad, σ', δ, dx, dy, r, δ', S, vx, vy, e, k⟩ := h
  unfold divD at e
  split at e
  · rename_i i j
    split at e
    · rename_i hm
      cases e
      have hm' := of_decide_eq_true hm
      exact op_fdivW pins s σ H x y v u Q I rx ry ⟨i, j, vx, vy, hm', here (d := .int (i / j)) S rfl k⟩
    · cases e
  · cases e
theorem od_mod : OpR X (binaryOp .Mod) (rD X.K X.mg modD) := by
  intro pins s σ H x y v u Q I rx ry h
  obtain ⟨B, F, ad, σ', δ, dx, dy, r, δ', S, vx, vy, e, k⟩ := h
  unfold modD at e
  split at e
  · rename_i i j
    split at e
    · rename_i hm
      cases e
      exact op_mod pins s σ H x y v u Q I rx ry ⟨i, j, vx, vy, hm, here (d := .int (i % j)) S rfl k⟩
    · cases e
  · cases e
theorem od_pow : OpR X (binaryOp .Pow) (rD X.K X.mg powD) := by
  intro pins s σ H x y v u Q I rx ry h
  obtain ⟨B, F, ad, σ', δ, dx, dy, r, δ', S, vx, vy, e, k⟩ := h
  unfold powD at e
  split at e
  · rename_i i j
    split at e
    · rename_i hm
      obtain ⟨h1, h2, h3⟩ := hm
      cases e
      have vx' : x = .int i := vx
      have vy' : y = .int j := vy
      subst vx' vy'
      obtain ⟨t1, rfl⟩ := rx
      obtain ⟨t2, rfl⟩ := ry
      refine PyProof.Rows.pow_int h2 ?_ ⟨.int (i ^ j.toNat), H, I.tok _, ⟨_, rfl⟩, here (d := .int (i ^ j.toNat)) S rfl k⟩
      have hb : Builtin.Int.intBits i ≤ 1000 := by
        unfold okPow at h1
        have := of_decide_eq_true h1
        unfold Builtin.Int.intBits
        split <;> omega
      have h4 : ((Builtin.Int.intBits i : Nat) : Int) * j ≤ 1000 * 64 := Int.mul_le_mul (by omega) h3 h2 (by omega)
      omega
    · cases e
  · cases e

/-! ### comparisons -/
def cmpD (c : Int → Int → Bool) : OF := fun δ x y => match x, y with
  | .int i, .int j => some (.fz (.bl (c i j)), δ)
  | _, _ => none
abbrev ltD : OF := cmpD fun i j => decide (i < j)
abbrev leD : OF := cmpD fun i j => decide (i ≤ j)
abbrev gtD : OF := cmpD fun i j => decide (j < i)
abbrev geD : OF := cmpD fun i j => decide (j ≤ i)
theorem od_cmp {op : CmpOp} {c : Int → Int → Bool} (ho : OpR X (compareOp op) (rI0 fun i j => .bl (c i j))) : OpR X (compareOp op) (rD X.K X.mg (cmpD c)) := by
  intro pins s σ H x y v u Q I rx ry h
  obtain ⟨B, F, ad, σ', δ, dx, dy, r, δ', S, vx, vy, e, k⟩ := h
  unfold cmpD at e
  split at e
  · rename_i i j
    cases e
    exact ho pins s σ H x y v u Q I rx ry ⟨i, j, vx, vy, here (d := .bl (c i j)) S rfl k⟩
  · cases e
def isNon : D → Bool
  | .non => true
  | _ => false
def isND : OF := fun δ x y => match y with
  | .non => some (.fz (.bl (isNon x)), δ)
  | _ => none
def notND : OF := fun δ x y => match y with
  | .non => some (.fz (.bl (!isNon x)), δ)
  | _ => none
theorem isNon_of {K : PySem.W.Frag} {mg : Str → Option Value} {B H : Hp} {d : D} {x : V} (h : Vw K mg B H d x) : decide (x = .non) = isNon d := by
  cases d with
  | non =>
    have h' : x = .non := h
    subst h'; rfl
  | bl b =>
    have h' : x = .bl b := h
    subst h'; rfl
  | int b =>
    have h' : x = .int b := h
    subst h'; rfl
  | str b =>
    have h' : x = .str b := h
    subst h'; rfl
  | lst b =>
    obtain ⟨a, xs, rfl, _⟩ := h
    rfl
  | tup b =>
    obtain ⟨a, xs, rfl, _⟩ := h
    rfl
  | ins c n b =>
    obtain ⟨a, C, dx, xs, rfl, _⟩ := h
    rfl
  | scr b =>
    obtain ⟨a, rfl, _⟩ := h
    rfl
  | exc c b =>
    obtain ⟨a, C, dd, w, rfl, _⟩ := h
    rfl
theorem od_isN : OpR X (compareOp .Is) (rD X.K X.mg isND) := by
  intro pins s σ H x y v u Q I rx ry h
  obtain ⟨B, F, ad, σ', δ, dx, dy, r, δ', S, vx, vy, e, k⟩ := h
  unfold isND at e
  split at e
  · cases e
    exact op_isN pins s σ H x y v u Q I rx ry ⟨vy, by rw [isNon_of vx]; exact here (d := .bl (isNon dx)) S rfl k⟩
  · cases e
theorem od_notN : OpR X (compareOp .IsNot) (rD X.K X.mg notND) := by
  intro pins s σ H x y v u Q I rx ry h
  obtain ⟨B, F, ad, σ', δ, dx, dy, r, δ', S, vx, vy, e, k⟩ := h
  unfold notND at e
  split at e
  · cases e
    exact op_notN pins s σ H x y v u Q I rx ry ⟨vy, by rw [isNon_of vx]; exact here (d := .bl (!isNon dx)) S rfl k⟩
  · cases e

/-! ### == and != of data -/
mutual
def toPy : D → Option PyData
  | .non => some .none
  | .bl b => some (.bool b)
  | .int i => some (.int i)
  | .str s => some (.str s)
  | .lst ds => (toPys ds).map .list
  | .tup ds => (toPys ds).map .tuple
  | .ins _ _ _ => none
  | .scr _ => none
  | .exc _ _ => none
def toPys : List D → Option (List PyData)
  | [] => some []
  | d :: ds => match toPy d, toPys ds with
    | some p, some ps => some (p :: ps)
    | _, _ => none
end
mutual
theorem dp_of {K : PySem.W.Frag} {mg : Str → Option Value} {B H : Hp} (e : Same B H) : ∀ (d : D) (v : V) (p : PyData), Rp K mg B d v → toPy d = some p → Dp K H v p
  | .non, v, p, h, q => by
    have h' : v = .non := h
    subst h'
    rw [toPy] at q
    cases q
    exact .non
  | .bl b, v, p, h, q => by
    have h' : v = .bl b := h
    subst h'
    rw [toPy] at q
    cases q
    exact .bl b
  | .int b, v, p, h, q => by
    have h' : v = .int b := h
    subst h'
    rw [toPy] at q
    cases q
    exact .int b
  | .str b, v, p, h, q => by
    have h' : v = .str b := h
    subst h'
    rw [toPy] at q
    cases q
    exact .str b
  | .lst ds, v, p, h, q => by
    obtain ⟨a, xs, rfl, h2, h3⟩ := h
    rw [toPy] at q
    obtain ⟨ps, q1, q2⟩ := Option.map_eq_some_iff.mp q
    subst q2
    exact .lst (SqL.of (e _ _ h2)) (dps_of e ds xs ps h3 q1)
  | .tup ds, v, p, h, q => by
    obtain ⟨a, xs, rfl, h2, h3⟩ := h
    rw [toPy] at q
    obtain ⟨ps, q1, q2⟩ := Option.map_eq_some_iff.mp q
    subst q2
    exact .tup (SqT.of (e _ _ h2)) (dps_of e ds xs ps h3 q1)
  | .ins _ _ _, v, p, h, q => by rw [toPy] at q; cases q
  | .scr _, v, p, h, q => by rw [toPy] at q; cases q
  | .exc _ _, v, p, h, q => by rw [toPy] at q; cases q
theorem dps_of {K : PySem.W.Frag} {mg : Str → Option Value} {B H : Hp} (e : Same B H) : ∀ (ds : List D) (vs : List V) (ps : List PyData), Rps K mg B ds vs → toPys ds = some ps → DpAll K H vs ps
  | [], vs, ps, h, q => by
    have h' : vs = [] := h
    subst h'
    rw [toPys] at q
    cases q
    exact .nil
  | d :: ds, vs, ps, h, q => by
    obtain ⟨v, r, rfl, h2, h3⟩ := h
    rw [toPys] at q
    split at q
    · rename_i p' ps' q1 q2
      cases q
      exact .cons (dp_of e d v p' h2 q1) (dps_of e ds r ps' h3 q2)
    · cases q
end
theorem dpw_of {K : PySem.W.Frag} {mg : Str → Option Value} {B H : Hp} (e : Same B H) {d : D} {v : V} {p : PyData} (h : Vw K mg B H d v) (q : toPy d = some p) : Dp K H v p := by
  cases d with
  | lst ds =>
    obtain ⟨a, xs, rfl, h2, h3⟩ := h
    rw [toPy] at q
    obtain ⟨ps, q1, q2⟩ := Option.map_eq_some_iff.mp q
    subst q2
    exact .lst (SqL.of h2) (dps_of e ds xs ps h3 q1)
  | _ => exact dp_of e _ v p h q
/-- neg: != -/
def eqD (neg : Bool) : OF := fun δ x y => match toPy x, toPy y with
  | some a, some b => if SeqAt.shaped a && SeqAt.shaped b then some (.fz (.bl (if neg then !PyData.eqv a b else PyData.eqv a b)), δ) else none
  | _, _ => none
theorem od_eq (hu : X.A.units + 64 < cLine) : OpR X (compareOp .Eq) (rD X.K X.mg (eqD false)) := by
  intro pins s σ H x y v u Q I rx ry h
  obtain ⟨B, F, ad, σ', δ, dx, dy, r, δ', S, vx, vy, e, k⟩ := h
  unfold eqD at e
  split at e
  · rename_i a b h1 h2
    split at e
    · rename_i hs
      rw [Bool.and_eq_true] at hs
      cases e
      exact op_eqD hu pins s σ H x y v u Q I rx ry ⟨a, b, dpw_of S.exB vx h1, dpw_of S.exB vy h2, hs.1, hs.2, here (d := .bl (PyData.eqv a b)) S rfl k⟩
    · cases e
  · cases e
theorem od_ne (hu : X.A.units + 64 < cLine) : OpR X (compareOp .NotEq) (rD X.K X.mg (eqD true)) := by
  intro pins s σ H x y v u Q I rx ry h
  obtain ⟨B, F, ad, σ', δ, dx, dy, r, δ', S, vx, vy, e, k⟩ := h
  unfold eqD at e
  split at e
  · rename_i a b h1 h2
    split at e
    · rename_i hs
      rw [Bool.and_eq_true] at hs
      cases e
      exact op_neD hu pins s σ H x y v u Q I rx ry ⟨a, b, dpw_of S.exB vx h1, dpw_of S.exB vy h2, hs.1, hs.2, here (d := .bl (!PyData.eqv a b)) S rfl k⟩
    · cases e
  · cases e

/-! ### in, not in: flat items -/
def flatD : D → Option V
  | .non => some .non
  | .bl b => some (.bl b)
  | .int i => some (.int i)
  | .str s => some (.str s)
  | _ => none
def flatDs : List D → Option (List V)
  | [] => some []
  | d :: ds => match flatD d, flatDs ds with
    | some v, some vs => some (v :: vs)
    | _, _ => none
theorem flat_of {K : PySem.W.Frag} {mg : Str → Option Value} {B H : Hp} {d : D} {v w : V} (h : Rp K mg B d v) (q : flatD d = some w) : v = w ∧ flatV v = true := by
  cases d <;> simp only [flatD] at q <;> first
    | (cases q; have h' : v = _ := h; subst h'; exact ⟨rfl, rfl⟩)
    | cases q
theorem flats_of {K : PySem.W.Frag} {mg : Str → Option Value} {B : Hp} : ∀ {ds : List D} {vs ws : List V}, Rps K mg B ds vs → flatDs ds = some ws → vs = ws ∧ vs.all flatV = true
  | [], vs, ws, h, q => by
    have h' : vs = [] := h
    subst h'
    simp only [flatDs] at q
    cases q
    exact ⟨rfl, rfl⟩
  | d :: ds, vs, ws, h, q => by
    obtain ⟨v, r, rfl, h2, h3⟩ := h
    simp only [flatDs] at q
    split at q
    · rename_i v' vs' q1 q2
      cases q
      obtain ⟨e1, f1⟩ := flat_of (H := B) h2 q1
      obtain ⟨e2, f2⟩ := flats_of h3 q2
      subst e1 e2
      exact ⟨rfl, by rw [List.all_cons, f1, f2]; rfl⟩
    · cases q
def inD (neg : Bool) : OF := fun δ x y => match flatD x, y with
  | some v, .lst ds => (flatDs ds).map fun vs => (.fz (.bl (if neg then !inV v vs else inV v vs)), δ)
  | some v, .tup ds => (flatDs ds).map fun vs => (.fz (.bl (if neg then !inV v vs else inV v vs)), δ)
  | _, _ => none
theorem flatw_of {K : PySem.W.Frag} {mg : Str → Option Value} {B H : Hp} {d : D} {v w : V} (h : Vw K mg B H d v) (q : flatD d = some w) : v = w ∧ flatV v = true := by
  cases d <;> simp only [flatD] at q <;> first
    | (cases q; have h' : v = _ := h; subst h'; exact ⟨rfl, rfl⟩)
    | cases q
theorem rIn_of {neg : Bool} {σ : L2.St} {H : Hp} {x y : V} {Q : VK} (h : rD X.K X.mg (inD neg) x y H Q) : rIn X.K neg x y H Q := by
  obtain ⟨B, F, ad, σ', δ, dx, dy, r, δ', S, vx, vy, e, k⟩ := h
  unfold inD at e
  split at e
  · rename_i v ds h1
    obtain ⟨vs, q1, q2⟩ := Option.map_eq_some_iff.mp e
    cases q2
    obtain ⟨e1, f1⟩ := flatw_of vx h1
    obtain ⟨a, xs, rfl, h2, h3⟩ := vy
    obtain ⟨e2, f2⟩ := flats_of h3 q1
    subst e1 e2
    exact ⟨a, xs, rfl, .inl (SqL.of h2), f1, f2, here (d := .bl _) S rfl k⟩
  · rename_i v ds h1
    obtain ⟨vs, q1, q2⟩ := Option.map_eq_some_iff.mp e
    cases q2
    obtain ⟨e1, f1⟩ := flatw_of vx h1
    obtain ⟨a, xs, rfl, h2, h3⟩ := vy
    obtain ⟨e2, f2⟩ := flats_of h3 q1
    subst e1 e2
    exact ⟨a, xs, rfl, .inr (SqT.of (S.exB _ _ h2)), f1, f2, here (d := .bl _) S rfl k⟩
  · cases e
theorem od_in : OpR X (compareOp .In) (rD X.K X.mg (inD false)) := fun pins s σ H x y v u Q I rx ry h => op_in_seq pins s σ H x y v u Q I rx ry (rIn_of (σ := σ) h)
theorem od_notIn : OpR X (compareOp .NotIn) (rD X.K X.mg (inD true)) := fun pins s σ H x y v u Q I rx ry h => op_notIn_seq pins s σ H x y v u Q I rx ry (rIn_of (σ := σ) h)
end
end PK

namespace PK
open PySem L2

section
variable {K : PySem.W.Frag} {mg : Str → Option Value} {B B' F : Hp} {ad ad' : List Addr} {σ : L2.St} {δ δ' : Dl} {H H' : Hp} {p : Addr} {o : HO}
def Vws (K : PySem.W.Frag) (mg : Str → Option Value) (B H : Hp) : List D → List V → Prop
  | [], vs => vs = []
  | d :: ds, vs => ∃ v r, vs = v :: r ∧ Vw K mg B H d v ∧ Vws K mg B H ds r
def ders (δ : Dl) : List Vl → Option (List D)
  | [] => some []
  | r :: rs => match der δ r, ders δ rs with
    | some d, some ds => some (d :: ds)
    | _, _ => none
theorem SRep.vws (S : SRep K mg B F ad σ δ H) : ∀ {rs : List Vl} {ds : List D} {vs : List V}, RpVs K mg B ad rs vs → ders δ rs = some ds → Vws K mg B H ds vs
  | [], ds, vs, h, e => by
    have h' : vs = [] := h
    subst h'
    simp only [ders] at e
    cases e
    rfl
  | r :: rs, ds, vs, h, e => by
    obtain ⟨v, w, rfl, h2, h3⟩ := h
    simp only [ders] at e
    split at e
    · rename_i d' ds' q1 q2
      cases e
      exact ⟨v, w, rfl, S.vw h2 q1, S.vws h3 q2⟩
    · cases e
/-- a value that escapes is frozen -/
def frz (δ : Dl) : Vl → Option (D × Dl)
  | .fz d => some (d, δ)
  | .rf k => match δ.st[k]? with
    | some (some ds) => some (.lst ds, { δ with st := δ.st.set k none })
    | _ => none
def frzs (δ : Dl) : List Vl → Option (List D × Dl)
  | [] => some ([], δ)
  | r :: rs => (frz δ r).bind fun p => (frzs p.2 rs).map fun q => (p.1 :: q.1, q.2)
theorem SRep.frz (S : SRep K mg B F ad σ δ H) {r : Vl} {d : D} {v : V} (h : RpV K mg B ad r v) (e : PK.frz δ r = some (d, δ')) : ∃ B', Same B B' ∧ SRep K mg B' F ad σ δ' H ∧ Rp K mg B' d v := by
  cases r with
  | fz d' =>
    simp only [PK.frz] at e
    cases e
    exact ⟨B, Same.refl _, S, h⟩
  | rf k =>
    obtain ⟨a, rfl, h2⟩ := h
    simp only [PK.frz] at e
    split at e
    · rename_i ds hk
      cases e
      obtain ⟨q, xs, g1, g2, g3, _, _⟩ := S.cell k ds hk
      rw [h2] at g1
      cases g1
      obtain ⟨S1, s1⟩ := S.freeze hk h2 g2
      exact ⟨_, s1, S1, a, xs, rfl, upd_same, Rps.mono s1 ds xs g3⟩
    · cases e
theorem SRep.frzs : ∀ {rs : List Vl} {ds : List D} {vs : List V} {B : Hp} {δ δ' : Dl}, SRep K mg B F ad σ δ H → RpVs K mg B ad rs vs → PK.frzs δ rs = some (ds, δ') → ∃ B', Same B B' ∧ SRep K mg B' F ad σ δ' H ∧ Rps K mg B' ds vs
  | [], ds, vs, B, δ, δ', S, h, e => by
    have h' : vs = [] := h
    subst h'
    simp only [PK.frzs] at e
    cases e
    exact ⟨B, Same.refl _, S, rfl⟩
  | r :: rs, ds, vs, B, δ, δ', S, h, e => by
    obtain ⟨v, w, rfl, h2, h3⟩ := h
    simp only [PK.frzs] at e
    obtain ⟨⟨d1, δ1⟩, e1, e2⟩ := Option.bind_eq_some_iff.mp e
    obtain ⟨⟨ds2, δ2⟩, e3, e4⟩ := Option.map_eq_some_iff.mp e2
    cases e4
    obtain ⟨B1, s1, S1, r1⟩ := S.frz h2 e1
    obtain ⟨B2, s2, S2, r2⟩ := S1.frzs (RpVs.mono s1 (Pre.refl _) h3) e3
    exact ⟨B2, s1.trans s2, S2, v, w, rfl, Rp.mono s2 _ _ r1, r2⟩
end

theorem blCase {α : Type} {x : Vl} {a b : Option α} {r : α} (e : (match x with
  | .fz (.bl true) => a
  | .fz (.bl false) => b
  | _ => none) = some r) : (x = .fz (.bl true) ∧ a = some r) ∨ (x = .fz (.bl false) ∧ b = some r) := by
  split at e
  · exact .inl ⟨rfl, e⟩
  · exact .inr ⟨rfl, e⟩
  · cases e
theorem blCase' {α : Type} {x : Vl} {a b : Option α} {r : α} (e : (match x with
  | .fz (.bl false) => a
  | .fz (.bl true) => b
  | _ => none) = some r) : (x = .fz (.bl false) ∧ a = some r) ∨ (x = .fz (.bl true) ∧ b = some r) := by
  split at e
  · exact .inl ⟨rfl, e⟩
  · exact .inr ⟨rfl, e⟩
  · cases e
/-! ### tests -/
def truD : D → Option Bool
  | .bl b => some b
  | .int i => some (i != 0)
  | .non => some false
  | .lst ds => some (!ds.isEmpty)
  | .tup ds => some (!ds.isEmpty)
  | _ => none
def dB (f : EF) : BF := fun δ => (f δ).bind fun p => (der p.2 p.1).bind fun d => (truD d).map fun b => (b, p.2)
theorem isEmpty_rps {K : PySem.W.Frag} {mg : Str → Option Value} {B : Hp} : ∀ {ds : List D} {xs : List V}, Rps K mg B ds xs → xs.isEmpty = ds.isEmpty
  | [], xs, h => by
    have h' : xs = [] := h
    subst h'; rfl
  | d :: ds, xs, h => by
    obtain ⟨v, r, rfl, _⟩ := h
    rfl
theorem tru_of {K : PySem.W.Frag} {mg : Str → Option Value} {B H : Hp} {d : D} {v : V} {b : Bool} (s : Same B H) (h : Vw K mg B H d v) (e : truD d = some b) : TruV K v H b := by
  cases d <;> simp only [truD] at e <;> cases e
  · have h' : v = .non := h
    subst h'; rfl
  · have h' : v = .bl _ := h
    subst h'; rfl
  · have h' : v = .int _ := h
    subst h'; rfl
  · obtain ⟨a, xs, rfl, h2, h3⟩ := h
    exact .inl ⟨xs, SqL.of h2, by rw [isEmpty_rps h3]⟩
  · obtain ⟨a, xs, rfl, h2, h3⟩ := h
    exact .inr (.inl ⟨xs, SqT.of (s _ _ h2), by rw [isEmpty_rps h3]⟩)
section
variable {X : Cx} {e a b c : Expr} {f fa fb fc : EF} {ft fu : BF} {pos : Pos} {es rest : List Expr}
theorem pdt_val (h : PD X e f) (he : ∀ whole, isTrue e X.env whole = (do let v ← whole; standAt e.pos; holding [v] (truthy v)) := by intro _; rfl) : PDT X e (dB f) :=
  PT.weak (pt_truth h he) fun σ H Q h => by
    obtain ⟨B, F, ad, δ, r, δ', S, e, k⟩ := h
    unfold dB at e
    obtain ⟨⟨x, δ1⟩, e1, e⟩ := Option.bind_eq_some_iff.mp e
    obtain ⟨d, e2, e⟩ := Option.bind_eq_some_iff.mp e
    obtain ⟨b, e3, e⟩ := Option.map_eq_some_iff.mp e
    cases e
    exact ⟨B, F, ad, δ, x, _, S, e1, fun B1 ad1 v H1 s1 p1 S1 r1 => ⟨_, tru_of S1.exB (S1.vw r1 e2) e3, k B1 ad1 H1 s1 p1 S1⟩⟩
theorem tTest_w {K : PySem.W.Frag} {mg : Str → Option Value} {σ : L2.St} {H : Hp} {Q : Bool → Hp → Prop} {t : TE} (w : ∀ σ H Q, tD K mg f σ H Q → t σ H Q) (h : tDT K mg (dB f) σ H Q) (hb : ∀ δ r δ', f δ = some (r, δ') → ∃ b, r = .fz (.bl b)) : tTest t σ H Q := by
  obtain ⟨B, F, ad, δ, r, δ', S, e, k⟩ := h
  unfold dB at e
  obtain ⟨⟨x, δ1⟩, e1, e⟩ := Option.bind_eq_some_iff.mp e
  obtain ⟨d, e2, e⟩ := Option.bind_eq_some_iff.mp e
  obtain ⟨b, e3, e⟩ := Option.map_eq_some_iff.mp e
  cases e
  obtain ⟨b', hb'⟩ := hb _ _ _ e1
  have hb'' : x = .fz (.bl b') := hb'
  subst hb''
  simp only [der] at e2
  cases e2
  simp only [truD] at e3
  cases e3
  exact w σ H _ ⟨B, F, ad, δ, _, _, S, e1, fun B1 ad1 v H1 s1 p1 S1 r1 => ⟨_, r1, k B1 ad1 H1 s1 p1 S1⟩⟩
/-- an operation that answers with a bool -/
def BoolOf (g : OF) : Prop := ∀ δ x y r δ', g δ x y = some (r, δ') → ∃ b, r = .fz (.bl b)
theorem boolOp {g : OF} (hg : BoolOf g) : ∀ δ r δ', dOp g fa fb δ = some (r, δ') → ∃ b, r = .fz (.bl b) := by
  intro δ r δ' e
  unfold dOp at e
  obtain ⟨⟨x, δ1⟩, e1, e⟩ := Option.bind_eq_some_iff.mp e
  obtain ⟨⟨y, δ2⟩, e2, e⟩ := Option.bind_eq_some_iff.mp e
  obtain ⟨da, e3, e⟩ := Option.bind_eq_some_iff.mp e
  obtain ⟨db, e4, e⟩ := Option.bind_eq_some_iff.mp e
  exact hg _ _ _ _ _ e
theorem bo_cmp {c : Int → Int → Bool} : BoolOf (cmpD c) := by
  intro δ x y r δ' e
  unfold cmpD at e
  split at e
  · cases e; exact ⟨_, rfl⟩
  · cases e
theorem bo_isN : BoolOf isND := by
  intro δ x y r δ' e
  unfold isND at e
  split at e
  · cases e; exact ⟨_, rfl⟩
  · cases e
theorem bo_notN : BoolOf notND := by
  intro δ x y r δ' e
  unfold notND at e
  split at e
  · cases e; exact ⟨_, rfl⟩
  · cases e
theorem bo_eq {n : Bool} : BoolOf (eqD n) := by
  intro δ x y r δ' e
  unfold eqD at e
  split at e
  · split at e
    · cases e; exact ⟨_, rfl⟩
    · cases e
  · cases e
theorem bo_in {n : Bool} : BoolOf (inD n) := by
  intro δ x y r δ' e
  unfold inD at e
  split at e
  · obtain ⟨vs, q1, q2⟩ := Option.map_eq_some_iff.mp e
    cases q2; exact ⟨_, rfl⟩
  · obtain ⟨vs, q1, q2⟩ := Option.map_eq_some_iff.mp e
    cases q2; exact ⟨_, rfl⟩
  · cases e
theorem pdt_cmp {op : CmpOp} {g : OF} (hg : BoolOf g) (ho : OpR X (compareOp op) (rD X.K X.mg g)) (ha : PD X a fa) (hb : PD X b fb) (hm : behindInMarks op b = false := by rfl) : PDT X (.Compare a [op] [b] pos) (dB (dOp g fa fb)) :=
  PT.weak (pt_cmpR ho ha hb hm) fun σ H Q h => tTest_w (fun σ H Q h => dOp_w h) h (boolOp hg)
/-- a chain of two -/
def dChain (g g' : OF) (fa fb fc : EF) : EF := fun δ => (fa δ).bind fun p => (fb p.2).bind fun q => (der q.2 p.1).bind fun a => (der q.2 q.1).bind fun b => (g q.2 a b).bind fun z => match z.1 with
  | .fz (.bl true) => (fc z.2).bind fun w => (der w.2 q.1).bind fun b' => (der w.2 w.1).bind fun c => g' w.2 b' c
  | .fz (.bl false) => some (.fz (.bl false), z.2)
  | _ => none
theorem dChain_w {K : PySem.W.Frag} {mg : Str → Option Value} {g g' : OF} {σ : L2.St} {H : Hp} {Q : VK} (h : tD K mg (dChain g g' fa fb fc) σ H Q) : tChain (rD K mg g) (rD K mg g') (tD K mg fa) (tD K mg fb) (tD K mg fc) σ H Q := by
  obtain ⟨B, F, ad, δ, r, δ', S, e, k⟩ := h
  unfold dChain at e
  obtain ⟨⟨x, δ1⟩, e1, e⟩ := Option.bind_eq_some_iff.mp e
  obtain ⟨⟨y, δ2⟩, e2, e⟩ := Option.bind_eq_some_iff.mp e
  obtain ⟨da, e3, e⟩ := Option.bind_eq_some_iff.mp e
  obtain ⟨db, e4, e⟩ := Option.bind_eq_some_iff.mp e
  obtain ⟨⟨z, δ3⟩, e5, e⟩ := Option.bind_eq_some_iff.mp e
  refine ⟨B, F, ad, δ, x, δ1, S, e1, fun B1 ad1 vx H1 s1 p1 S1 r1 => ?_⟩
  refine ⟨B1, F, ad1, δ1, y, δ2, S1, e2, fun B2 ad2 vy H2 s2 p2 S2 r2 => ?_⟩
  refine ⟨B2, F, ad2, σ, δ2, da, db, z, δ3, S2, S2.vw (r1.mono s2 p2) e3, S2.vw r2 e4, e5, fun B3 ad3 v H3 s3 p3 S3 r3 => ?_⟩
  rcases blCase e with ⟨hz, e⟩ | ⟨hz, e⟩
  · have hz' : z = _ := hz
    subst hz'
    refine ⟨true, r3, ?_⟩
    rw [if_pos rfl]
    obtain ⟨⟨w, δ4⟩, e6, e⟩ := Option.bind_eq_some_iff.mp e
    obtain ⟨db', e7, e⟩ := Option.bind_eq_some_iff.mp e
    obtain ⟨dc, e8, e⟩ := Option.bind_eq_some_iff.mp e
    refine ⟨B3, F, ad3, δ3, w, δ4, S3, e6, fun B4 ad4 vw H4 s4 p4 S4 r4 => ?_⟩
    exact ⟨B4, F, ad4, σ, δ4, db', dc, r, δ', S4, S4.vw (r2.mono (s3.trans s4) (p3.trans p4)) e7, S4.vw r4 e8, e, fun B' ad' v H' s5 p5 S' r' =>
      k B' ad' v H' ((((s1.trans s2).trans s3).trans s4).trans s5) ((((p1.trans p2).trans p3).trans p4).trans p5) S' r'⟩
  · have hz' : z = _ := hz
    subst hz'
    cases e
    refine ⟨false, r3, ?_⟩
    rw [if_neg Bool.false_ne_true]
    exact k B3 ad3 _ H3 ((s1.trans s2).trans s3) ((p1.trans p2).trans p3) S3 rfl
theorem pd_chain {op op' : CmpOp} {g g' : OF} (ho : OpR X (compareOp op) (rD X.K X.mg g)) (ho' : OpR X (compareOp op') (rD X.K X.mg g')) (ha : PD X a fa) (hb : PD X b fb) (hc : PD X c fc)
    (hm : lastMarks [op, op'] [b, c] = false := by with_unfolding_all rfl) : PD X (.Compare a [op, op'] [b, c] pos) (dChain g g' fa fb fc) := PE.weak (pe_chain ho ho' ha hb hc hm) fun σ H Q h => dChain_w h
theorem boolChain {g g' : OF} (hg' : BoolOf g') : ∀ δ r δ', dChain g g' fa fb fc δ = some (r, δ') → ∃ b, r = .fz (.bl b) := by
  intro δ r δ' e
  unfold dChain at e
  obtain ⟨⟨x, δ1⟩, e1, e⟩ := Option.bind_eq_some_iff.mp e
  obtain ⟨⟨y, δ2⟩, e2, e⟩ := Option.bind_eq_some_iff.mp e
  obtain ⟨da, e3, e⟩ := Option.bind_eq_some_iff.mp e
  obtain ⟨db, e4, e⟩ := Option.bind_eq_some_iff.mp e
  obtain ⟨⟨z, δ3⟩, e5, e⟩ := Option.bind_eq_some_iff.mp e
  rcases blCase e with ⟨hz, e⟩ | ⟨hz, e⟩
  · obtain ⟨⟨w, δ4⟩, e6, e⟩ := Option.bind_eq_some_iff.mp e
    obtain ⟨db', e7, e⟩ := Option.bind_eq_some_iff.mp e
    obtain ⟨dc, e8, e⟩ := Option.bind_eq_some_iff.mp e
    exact hg' _ _ _ _ _ e
  · cases e; exact ⟨_, rfl⟩
theorem pdt_chain {op op' : CmpOp} {g g' : OF} (hg' : BoolOf g') (ho : OpR X (compareOp op) (rD X.K X.mg g)) (ho' : OpR X (compareOp op') (rD X.K X.mg g')) (ha : PD X a fa) (hb : PD X b fb) (hc : PD X c fc)
    (hm : lastMarks [op, op'] [b, c] = false := by with_unfolding_all rfl) : PDT X (.Compare a [op, op'] [b, c] pos) (dB (dChain g g' fa fb fc)) :=
  PT.weak (pt_chain ho ho' ha hb hc hm) fun σ H Q h => tTest_w (fun σ H Q h => dChain_w h) h (boolChain hg')
/-! and, or, not -/
def bAnd (f g : BF) : BF := fun δ => (f δ).bind fun p => if p.1 then g p.2 else some (false, p.2)
def bOr (f g : BF) : BF := fun δ => (f δ).bind fun p => if p.1 then some (true, p.2) else g p.2
def bNot (f : BF) : BF := fun δ => (f δ).map fun p => (!p.1, p.2)
abbrev PDW (X : Cx) (e : Expr) (f : BF) := PW X e (tDT X.K X.mg f)
theorem PW.weak {t t' : TT} (h : PW X e t) (w : ∀ σ H Q, t' σ H Q → t σ H Q) : PW X e t' := ⟨fun wh pins s σ H Q I q => h.run wh pins s σ H Q I (w σ H Q q)⟩
theorem pdw_and1 (h : PDT X a ft) : PDW X (.BoolOp .And [a] pos) ft := pw_and1 h
theorem pdw_or1 (h : PDT X a ft) : PDW X (.BoolOp .Or [a] pos) ft := pw_or1 h
theorem pdw_and (h : PDT X a ft) (g : PDW X (.BoolOp .And (b :: rest) pos) fu) : PDW X (.BoolOp .And (a :: b :: rest) pos) (bAnd ft fu) := PW.weak (pw_and h g) fun σ H Q h => by
  obtain ⟨B, F, ad, δ, r, δ', S, e, k⟩ := h
  unfold bAnd at e
  obtain ⟨⟨x, δ1⟩, e1, e⟩ := Option.bind_eq_some_iff.mp e
  refine ⟨B, F, ad, δ, x, δ1, S, e1, fun B1 ad1 H1 s1 p1 S1 => ?_⟩
  cases x with
  | true =>
    rw [if_pos rfl]
    exact ⟨B1, F, ad1, δ1, r, δ', S1, e, fun B' ad' H' s2 p2 S' => k B' ad' H' (s1.trans s2) (p1.trans p2) S'⟩
  | false =>
    rw [if_neg Bool.false_ne_true]
    simp only [Bool.false_eq_true, if_false] at e
    cases e
    exact k B1 ad1 H1 s1 p1 S1
theorem pdw_or (h : PDT X a ft) (g : PDW X (.BoolOp .Or (b :: rest) pos) fu) : PDW X (.BoolOp .Or (a :: b :: rest) pos) (bOr ft fu) := PW.weak (pw_or h g) fun σ H Q h => by
  obtain ⟨B, F, ad, δ, r, δ', S, e, k⟩ := h
  unfold bOr at e
  obtain ⟨⟨x, δ1⟩, e1, e⟩ := Option.bind_eq_some_iff.mp e
  refine ⟨B, F, ad, δ, x, δ1, S, e1, fun B1 ad1 H1 s1 p1 S1 => ?_⟩
  cases x with
  | false =>
    rw [if_neg Bool.false_ne_true]
    exact ⟨B1, F, ad1, δ1, r, δ', S1, e, fun B' ad' H' s2 p2 S' => k B' ad' H' (s1.trans s2) (p1.trans p2) S'⟩
  | true =>
    rw [if_pos rfl]
    simp only [if_true] at e
    cases e
    exact k B1 ad1 H1 s1 p1 S1
theorem pdt_w (h : PDW X e ft) : PDT X e ft := h.pt
theorem pdt_not (h : PDT X a ft) : PDT X (.UnaryOp .Not a pos) (bNot ft) := PT.weak (pt_not h) fun σ H Q h => by
  obtain ⟨B, F, ad, δ, r, δ', S, e, k⟩ := h
  unfold bNot at e
  obtain ⟨⟨x, δ1⟩, e1, e⟩ := Option.map_eq_some_iff.mp e
  cases e
  exact ⟨B, F, ad, δ, x, _, S, e1, fun B1 ad1 H1 s1 p1 S1 => k B1 ad1 H1 s1 p1 S1⟩
/-! as values: bools -/
def dAndV (fa fb : EF) : EF := fun δ => (fa δ).bind fun p => match p.1 with
  | .fz (.bl true) => fb p.2
  | .fz (.bl false) => some (.fz (.bl false), p.2)
  | _ => none
def dOrV (fa fb : EF) : EF := fun δ => (fa δ).bind fun p => match p.1 with
  | .fz (.bl false) => fb p.2
  | .fz (.bl true) => some (.fz (.bl true), p.2)
  | _ => none
def dNotV (fa : EF) : EF := fun δ => (fa δ).bind fun p => match p.1 with
  | .fz (.bl b) => some (.fz (.bl (!b)), p.2)
  | _ => none
theorem pd_one {op} (h : PD X a fa) : PD X (.BoolOp op [a] pos) fa := pe_one h
theorem pd_and (ha : PD X a fa) (hb : PD X (.BoolOp .And (b :: rest) pos) fb) : PD X (.BoolOp .And (a :: b :: rest) pos) (dAndV fa fb) := PE.weak (pe_and ha hb) fun σ H Q h => by
  obtain ⟨B, F, ad, δ, r, δ', S, e, k⟩ := h
  unfold dAndV at e
  obtain ⟨⟨x, δ1⟩, e1, e⟩ := Option.bind_eq_some_iff.mp e
  refine ⟨B, F, ad, δ, x, δ1, S, e1, fun B1 ad1 v H1 s1 p1 S1 r1 => ?_⟩
  rcases blCase e with ⟨hz, e⟩ | ⟨hz, e⟩
  · have hz' : x = _ := hz
    subst hz'
    refine ⟨true, r1, ?_⟩
    rw [if_pos rfl]
    exact ⟨B1, F, ad1, δ1, r, δ', S1, e, fun B' ad' v H' s2 p2 S' r' => k B' ad' v H' (s1.trans s2) (p1.trans p2) S' r'⟩
  · have hz' : x = _ := hz
    subst hz'
    cases e
    refine ⟨false, r1, ?_⟩
    rw [if_neg Bool.false_ne_true]
    exact k B1 ad1 _ H1 s1 p1 S1 rfl
theorem pd_or (ha : PD X a fa) (hb : PD X (.BoolOp .Or (b :: rest) pos) fb) : PD X (.BoolOp .Or (a :: b :: rest) pos) (dOrV fa fb) := PE.weak (pe_or ha hb) fun σ H Q h => by
  obtain ⟨B, F, ad, δ, r, δ', S, e, k⟩ := h
  unfold dOrV at e
  obtain ⟨⟨x, δ1⟩, e1, e⟩ := Option.bind_eq_some_iff.mp e
  refine ⟨B, F, ad, δ, x, δ1, S, e1, fun B1 ad1 v H1 s1 p1 S1 r1 => ?_⟩
  rcases blCase' e with ⟨hz, e⟩ | ⟨hz, e⟩
  · have hz' : x = _ := hz
    subst hz'
    refine ⟨false, r1, ?_⟩
    rw [if_neg Bool.false_ne_true]
    exact ⟨B1, F, ad1, δ1, r, δ', S1, e, fun B' ad' v H' s2 p2 S' r' => k B' ad' v H' (s1.trans s2) (p1.trans p2) S' r'⟩
  · have hz' : x = _ := hz
    subst hz'
    cases e
    refine ⟨true, r1, ?_⟩
    rw [if_pos rfl]
    exact k B1 ad1 _ H1 s1 p1 S1 rfl
theorem pd_not (ha : PD X a fa) : PD X (.UnaryOp .Not a pos) (dNotV fa) := PE.weak (pe_not ha) fun σ H Q h => by
  obtain ⟨B, F, ad, δ, r, δ', S, e, k⟩ := h
  unfold dNotV at e
  obtain ⟨⟨x, δ1⟩, e1, e⟩ := Option.bind_eq_some_iff.mp e
  refine ⟨B, F, ad, δ, x, δ1, S, e1, fun B1 ad1 v H1 s1 p1 S1 r1 => ?_⟩
  cases x with
  | rf k => cases e
  | fz d =>
    cases d with
    | bl b =>
      cases e
      exact ⟨b, r1, k B1 ad1 _ H1 s1 p1 S1 rfl⟩
    | _ => cases e
def dIfE (t : BF) (fa fb : EF) : EF := fun δ => (t δ).bind fun p => if p.1 then fa p.2 else fb p.2
theorem pd_if (ht : PDT X c ft) (ha : PD X a fa) (hb : PD X b fb) : PD X (.IfExp c a b pos) (dIfE ft fa fb) := PE.weak (pe_ifExp ht ha hb) fun σ H Q h => by
  obtain ⟨B, F, ad, δ, r, δ', S, e, k⟩ := h
  unfold dIfE at e
  obtain ⟨⟨x, δ1⟩, e1, e⟩ := Option.bind_eq_some_iff.mp e
  refine ⟨B, F, ad, δ, x, δ1, S, e1, fun B1 ad1 H1 s1 p1 S1 => ?_⟩
  cases x with
  | true =>
    rw [if_pos rfl]
    exact ⟨B1, F, ad1, δ1, r, δ', S1, e, fun B' ad' v H' s2 p2 S' r' => k B' ad' v H' (s1.trans s2) (p1.trans p2) S' r'⟩
  | false =>
    rw [if_neg Bool.false_ne_true]
    exact ⟨B1, F, ad1, δ1, r, δ', S1, e, fun B' ad' v H' s2 p2 S' r' => k B' ad' v H' (s1.trans s2) (p1.trans p2) S' r'⟩
def dUn (g : D → Option D) (fa : EF) : EF := fun δ => (fa δ).bind fun p => match p.1 with
  | .fz d => (g d).map fun r => (.fz r, p.2)
  | _ => none
def negD : D → Option D
  | .int i => some (.int (-i))
  | _ => none
theorem pd_neg (ha : PD X a fa) : PD X (.UnaryOp .USub a pos) (dUn negD fa) := PE.weak (pe_un un_neg ha) fun σ H Q h => by
  obtain ⟨B, F, ad, δ, r, δ', S, e, k⟩ := h
  unfold dUn at e
  obtain ⟨⟨x, δ1⟩, e1, e⟩ := Option.bind_eq_some_iff.mp e
  refine ⟨B, F, ad, δ, x, δ1, S, e1, fun B1 ad1 v H1 s1 p1 S1 r1 => ?_⟩
  cases x with
  | rf k => cases e
  | fz d =>
    cases d with
    | int b =>
      cases e
      exact ⟨b, r1, k B1 ad1 _ H1 s1 p1 S1 rfl⟩
    | _ => cases e

/-! ### arguments, displays -/
def aNil : AF := fun δ => some ([], δ)
def aCons (f : EF) (g : AF) : AF := fun δ => (f δ).bind fun p => (g p.2).map fun q => (p.1 :: q.1, q.2)
theorem pda_nil : PDA X [] aNil := PA.weak pa_nil fun σ H Q h => by
  obtain ⟨B, F, ad, δ, r, δ', S, e, k⟩ := h
  cases e
  exact k B ad [] H (Same.refl _) (Pre.refl _) S rfl
theorem pda_cons {g : AF} (h : PD X e f) (hr : PDA X es g) (hs : starEach (e :: es) X.env = (false, eval e X.env) :: starEach es X.env := by rfl) : PDA X (e :: es) (aCons f g) := PA.weak (pa_cons h hr hs) fun σ H Q h => by
  obtain ⟨B, F, ad, δ, r, δ', S, e, k⟩ := h
  unfold aCons at e
  obtain ⟨⟨x, δ1⟩, e1, e⟩ := Option.bind_eq_some_iff.mp e
  obtain ⟨⟨rs, δ2⟩, e2, e⟩ := Option.map_eq_some_iff.mp e
  cases e
  refine ⟨B, F, ad, δ, x, δ1, S, e1, fun B1 ad1 v H1 s1 p1 S1 r1 => ?_⟩
  refine ⟨B1, F, ad1, δ1, rs, _, S1, e2, fun B2 ad2 vs H2 s2 p2 S2 r2 => ?_⟩
  exact k B2 ad2 (v :: vs) H2 (s1.trans s2) (p1.trans p2) S2 ⟨v, vs, rfl, r1.mono s2 p2, r2⟩
def itemsD : D → Option (List D)
  | .lst ds => some ds
  | .tup ds => some ds
  | _ => none
def aStar (f : EF) (g : AF) : AF := fun δ => (f δ).bind fun p => (der p.2 p.1).bind fun d => (itemsD d).bind fun ds => (g p.2).map fun q => (ds.map Vl.fz ++ q.1, q.2)
theorem RpVs.app {K : PySem.W.Frag} {mg : Str → Option Value} {B : Hp} {ad : List Addr} : ∀ {ds : List D} {xs : List V} {rs : List Vl} {vs : List V}, Rps K mg B ds xs → RpVs K mg B ad rs vs → RpVs K mg B ad (ds.map Vl.fz ++ rs) (xs ++ vs)
  | [], xs, rs, vs, h, g => by
    have h' : xs = [] := h
    subst h'
    exact g
  | d :: ds, xs, rs, vs, h, g => by
    obtain ⟨v, w, rfl, h2, h3⟩ := h
    exact ⟨v, w ++ vs, rfl, h2, RpVs.app h3 g⟩
theorem pda_star {g : AF} {p : Pos} (h : PD X e f) (hr : PDA X es g) (hs : starEach (.Starred e p :: es) X.env = (true, eval e X.env) :: starEach es X.env := by rfl) : PDA X (.Starred e p :: es) (aStar f g) := PA.weak (StX.pa_star h hr hs) fun σ H Q h => by
  obtain ⟨B, F, ad, δ, r, δ', S, e, k⟩ := h
  unfold aStar at e
  obtain ⟨⟨x, δ1⟩, e1, e⟩ := Option.bind_eq_some_iff.mp e
  obtain ⟨d, e2, e⟩ := Option.bind_eq_some_iff.mp e
  obtain ⟨ds, e3, e⟩ := Option.bind_eq_some_iff.mp e
  obtain ⟨⟨rs, δ2⟩, e4, e⟩ := Option.map_eq_some_iff.mp e
  cases e
  refine ⟨B, F, ad, δ, x, δ1, S, e1, fun B1 ad1 v H1 s1 p1 S1 r1 => ?_⟩
  have vw := S1.vw r1 e2
  have fin : ∀ xs, Rps X.K X.mg B1 ds xs → tDA X.K X.mg g σ H1 fun ys H2 => Q (xs ++ ys) H2 := fun xs hx =>
    ⟨B1, F, ad1, δ1, rs, _, S1, e4, fun B2 ad2 vs H2 s2 p2 S2 r2 => k B2 ad2 (xs ++ vs) H2 (s1.trans s2) (p1.trans p2) S2 (RpVs.app (Rps.mono s2 ds xs hx) r2)⟩
  cases d <;> simp only [itemsD] at e3 <;> cases e3
  · obtain ⟨a, xs, rfl, h2, h3⟩ := vw
    exact ⟨a, xs, rfl, .inr (SqL.of h2), fin xs h3⟩
  · obtain ⟨a, xs, rfl, h2, h3⟩ := vw
    exact ⟨a, xs, rfl, .inl (SqT.of (S1.exB _ _ h2)), fin xs h3⟩
def dTup (f : AF) : EF := fun δ => (f δ).bind fun p => (frzs p.2 p.1).bind fun q => if q.1.length ≤ small then some (.fz (.tup q.1), q.2) else none
def dLst (m : Bool) (f : AF) : EF := fun δ => (f δ).bind fun p => (frzs p.2 p.1).bind fun q => if q.1.length ≤ small then some (mk m q.1 q.2) else none
theorem pd_tup {fs : AF} {k : Nat} (h : PDA X es fs) : PD X (.Tuple es k pos) (dTup fs) := PE.weak (pe_tup h) fun σ H Q h => by
  obtain ⟨B, F, ad, δ, r, δ', S, e, k⟩ := h
  unfold dTup at e
  obtain ⟨⟨x, δ1⟩, e1, e⟩ := Option.bind_eq_some_iff.mp e
  obtain ⟨⟨ds, δ2⟩, e2, e⟩ := Option.bind_eq_some_iff.mp e
  split at e
  · rename_i hl
    cases e
    refine ⟨B, F, ad, δ, x, δ1, S, e1, fun B1 ad1 vs H1 s1 p1 S1 r1 => ?_⟩
    obtain ⟨B2, s2, S2, r2⟩ := S1.frzs r1 e2
    exact ⟨small_sz (by rw [Rps.length r2]; exact hl), fun p hp => tup_ok S2 hp r2 fun B' ad' v H' s3 p3 S' r' => k B' ad' v H' ((s1.trans s2).trans s3) (p1.trans p3) S' r'⟩
  · cases e
theorem pd_lst {fs : AF} (m : Bool) (h : PDA X es fs) : PD X (.List es pos) (dLst m fs) := PE.weak (pe_lst h) fun σ H Q h => by
  obtain ⟨B, F, ad, δ, r, δ', S, e, k⟩ := h
  unfold dLst at e
  obtain ⟨⟨x, δ1⟩, e1, e⟩ := Option.bind_eq_some_iff.mp e
  obtain ⟨⟨ds, δ2⟩, e2, e⟩ := Option.bind_eq_some_iff.mp e
  split at e
  · rename_i hl
    have e' := Option.some.inj e
    refine ⟨B, F, ad, δ, x, δ1, S, e1, fun B1 ad1 vs H1 s1 p1 S1 r1 => ?_⟩
    obtain ⟨B2, s2, S2, r2⟩ := S1.frzs r1 e2
    refine ⟨small_sz (by rw [Rps.length r2]; exact hl), fun p hp => mk_ok (m := m) S2 hp r2 fun B' ad' v H' s3 p3 S' r' => ?_⟩
    dsimp only at e'
    rw [e'] at S' r'
    exact k B' ad' v H' ((s1.trans s2).trans s3) (p1.trans p3) S' r'
  · cases e

/-! ### subscripts -/
def ixD : OF := fun δ x y => match x, y with
  | .lst ds, .int i => (atI ds i).map fun d => (.fz d, δ)
  | .tup ds, .int i => (atI ds i).map fun d => (.fz d, δ)
  | .scr ns, .int i => (atI ns i).map fun n => (.fz (.int n), δ)
  | _, _ => none
theorem atI_rps {K : PySem.W.Frag} {mg : Str → Option Value} {B : Hp} {ds : List D} {xs : List V} {i : Int} {d : D} (h : Rps K mg B ds xs) (e : atI ds i = some d) : ∃ v, atI xs i = some v ∧ Rp K mg B d v := by
  unfold atI at e ⊢
  rw [Rps.length h]
  obtain ⟨j, e1, e2⟩ := Option.bind_eq_some_iff.mp e
  obtain ⟨v, h1, h2⟩ := Rps.get h e2
  exact ⟨v, by rw [e1]; exact h1, h2⟩
theorem atI_map {ns : List Int} {i n : Int} (e : atI ns i = some n) : atI (ns.map V.int) i = some (.int n) := by
  unfold atI at e ⊢
  rw [List.length_map]
  obtain ⟨j, e1, e2⟩ := Option.bind_eq_some_iff.mp e
  rw [e1]
  show (ns.map V.int)[j]? = _
  rw [List.getElem?_map, e2]
  rfl
theorem pd_ix (ha : PD X a fa) (hb : PD X b fb) (hs : PlainIx b := by exact fun _ _ => rfl) : PD X (.Subscript a b pos) (dOp ixD fa fb) := PE.weak (pe_ix (ix_list.or ix_tup) ha hb hs) fun σ H Q h => by
  have h' := dOp_w h
  obtain ⟨B, F, ad, δ, r, δ', S, e, k1⟩ := h'
  refine ⟨B, F, ad, δ, r, δ', S, e, fun B1 ad1 v1 H1 s1 p1 S1 r1 => ?_⟩
  obtain ⟨B, F, ad, δ, r, δ', S, e, k2⟩ := k1 B1 ad1 v1 H1 s1 p1 S1 r1
  refine ⟨B, F, ad, δ, r, δ', S, e, fun B2 ad2 v2 H2 s2 p2 S2 r2 => ?_⟩
  obtain ⟨B, F, ad, σ', δ, dx, dy, r, δ', S, vx, vy, e, k3⟩ := k2 B2 ad2 v2 H2 s2 p2 S2 r2
  clear k1 k2
  unfold ixD at e
  split at e
  · obtain ⟨d, e1, e2⟩ := Option.map_eq_some_iff.mp e
    cases e2
    obtain ⟨p, xs, h1, h2, h3⟩ := vx
    obtain ⟨v, g1, g2⟩ := atI_rps h3 e1
    exact .inl ⟨p, xs, _, v, h1, vy, SqL.of h2, g1, here S g2 k3⟩
  · obtain ⟨d, e1, e2⟩ := Option.map_eq_some_iff.mp e
    cases e2
    obtain ⟨p, xs, h1, h2, h3⟩ := vx
    obtain ⟨v, g1, g2⟩ := atI_rps h3 e1
    exact .inr ⟨p, xs, _, v, h1, vy, SqT.of (S.exB _ _ h2), g1, here S g2 k3⟩
  · obtain ⟨d, e1, e2⟩ := Option.map_eq_some_iff.mp e
    cases e2
    obtain ⟨p, h1, h2⟩ := vx
    exact .inl ⟨p, _, _, _, h1, vy, sqL_mono S.exB h2, atI_map e1, here (d := .int d) S rfl k3⟩
  · cases e
end
end PK

namespace PK
open PySem L2

/-! ### slices -/
abbrev OF1 := Dl → Option (Option Int × Dl)
def tDO (K : PySem.W.Frag) (mg : Str → Option Value) (f : OF1) : TO := fun σ H Q => ∃ B F ad δ r δ', SRep K mg B F ad σ δ H ∧ f δ = some (r, δ') ∧
  ∀ B' ad' H', Same B B' → Pre ad ad' → SRep K mg B' F ad' σ δ' H' → Q r H'
abbrev PDO (X : Cx) (e : Option Expr) (f : OF1) := PO X e (tDO X.K X.mg f)
def oNone : OF1 := fun δ => some (none, δ)
def oSome (f : EF) : OF1 := fun δ => (f δ).bind fun p => match p.1 with
  | .fz (.int i) => some (some i, p.2)
  | _ => none
theorem PO.weak {X : Cx} {e : Option Expr} {t t' : TO} (h : PO X e t) (w : ∀ σ H Q, t' σ H Q → t σ H Q) : PO X e t' := ⟨fun pins s σ H Q I q => h.run pins s σ H Q I (w σ H Q q)⟩
def cutD (xs : List D) (lo hi : Option Int) : List D := (xs.drop (HT.sIx xs.length 0 lo)).take (HT.sIx xs.length xs.length hi - HT.sIx xs.length 0 lo)
def slD (m : Bool) (δ : Dl) (d : D) (lo hi : Option Int) : Option (Vl × Dl) := match d with
  | .lst ds => some (mk m (cutD ds lo hi) δ)
  | .tup ds => some (.fz (.tup (cutD ds lo hi)), δ)
  | _ => none
def dSl (m : Bool) (fe : EF) (fl fh : OF1) : EF := fun δ => (fe δ).bind fun p => (fl p.2).bind fun l => (fh l.2).bind fun h => (der h.2 p.1).bind fun d => slD m h.2 d l.1 h.1
theorem cut_rps {K : PySem.W.Frag} {mg : Str → Option Value} {B : Hp} {ds : List D} {xs : List V} (r : Rps K mg B ds xs) (lo hi : Option Int) : Rps K mg B (cutD ds lo hi) (cutV xs lo hi) := by
  unfold cutD cutV
  rw [Rps.length r]
  exact Rps.take _ (Rps.drop _ r)
section
variable {X : Cx} {e a b c : Expr} {f fa fb fc : EF} {pos p2 p : Pos} {es rest : List Expr} {lo hi : Option Expr} {fl fh : OF1}
theorem pdo_none : PDO X none oNone := PO.weak po_none fun σ H Q h => by
  obtain ⟨B, F, ad, δ, r, δ', S, e, k⟩ := h
  cases e
  exact k B ad H (Same.refl _) (Pre.refl _) S
theorem pdo_some (h : PD X e f) : PDO X (some e) (oSome f) := PO.weak (po_some h) fun σ H Q h => by
  obtain ⟨B, F, ad, δ, r, δ', S, e, k⟩ := h
  unfold oSome at e
  obtain ⟨⟨x, δ1⟩, e1, e⟩ := Option.bind_eq_some_iff.mp e
  refine ⟨B, F, ad, δ, x, δ1, S, e1, fun B1 ad1 v H1 s1 p1 S1 r1 => ?_⟩
  cases x with
  | rf k => cases e
  | fz d =>
    cases d with
    | int i =>
      cases e
      exact ⟨i, r1, k B1 ad1 H1 s1 p1 S1⟩
    | _ => cases e
theorem cutD_all {ds : List D} {lo hi : Option Int} (h : HT.sIx ds.length 0 lo = 0 ∧ HT.sIx ds.length ds.length hi = ds.length) : cutD ds lo hi = ds := by
  unfold cutD
  rw [h.1, h.2]
  simp
theorem pd_sl (m : Bool) (h : PD X e f) (hl : PDO X lo fl) (hh : PDO X hi fh) : PD X (.Subscript e (.Slice lo hi none p2) pos) (dSl m f fl fh) := PE.weak (pe_slice (sl_list.or sl_tupA) h hl hh) fun σ H Q h => by
  obtain ⟨B, F, ad, δ, r, δ', S, e, k⟩ := h
  unfold dSl at e
  obtain ⟨⟨x, δ1⟩, e1, e⟩ := Option.bind_eq_some_iff.mp e
  obtain ⟨⟨l, δ2⟩, e2, e⟩ := Option.bind_eq_some_iff.mp e
  obtain ⟨⟨u, δ3⟩, e3, e⟩ := Option.bind_eq_some_iff.mp e
  obtain ⟨d, e4, e⟩ := Option.bind_eq_some_iff.mp e
  refine ⟨B, F, ad, δ, x, δ1, S, e1, fun B1 ad1 v H1 s1 p1 S1 r1 => ?_⟩
  refine ⟨B1, F, ad1, δ1, l, δ2, S1, e2, fun B2 ad2 H2 s2 p2 S2 => ?_⟩
  refine ⟨B2, F, ad2, δ2, u, δ3, S2, e3, fun B3 ad3 H3 s3 p3 S3 => ?_⟩
  have vw := S3.vw (r1.mono (s2.trans s3) (p2.trans p3)) e4
  cases d with
  | lst ds =>
    have e' := Option.some.inj e
    obtain ⟨q, xs, h1, h2, h3⟩ := vw
    refine .inl ⟨q, xs, h1, SqL.of h2, fun z hz => mk_ok (m := m) S3 hz (cut_rps h3 l u) fun B' ad' v' H' s4 p4 S' r' => ?_⟩
    dsimp only at e'
    rw [e'] at S' r'
    exact k B' ad' v' H' (((s1.trans s2).trans s3).trans s4) (((p1.trans p2).trans p3).trans p4) S' r'
  | tup ds =>
    cases e
    obtain ⟨q, xs, h1, h2, h3⟩ := vw
    have hlen := Rps.length h3
    have k' : ∀ B' ad' v' H', Same B3 B' → Pre ad3 ad' → SRep X.K X.mg B' F ad' σ δ3 H' → RpV X.K X.mg B' ad' (.fz (.tup (cutD ds l u))) v' → Q v' H' := fun B' ad' v' H' s4 p4 S' r' =>
      k B' ad' v' H' (((s1.trans s2).trans s3).trans s4) (((p1.trans p2).trans p3).trans p4) S' r'
    refine .inr ⟨q, xs, h1, SqT.of (S3.exB _ _ h2), fun hw => ?_, fun hw z hz => tup_ok S3 hz (cut_rps h3 l u) k'⟩
    rw [hlen] at hw
    rw [cutD_all hw] at k'
    exact here (d := .tup ds) S3 ⟨q, xs, rfl, h2, h3⟩ k'
  | _ => cases e
def dRev (m : Bool) (fe : EF) : EF := fun δ => (fe δ).bind fun p => match der p.2 p.1 with
  | some (.lst ds) => some (mk m ds.reverse p.2)
  | _ => none
theorem pd_rev (m : Bool) {k : Nat} {q1 q2 q3 : Pos} (h : PD X e f) : PD X (.Subscript e (.Slice none none (some (.UnaryOp .USub (.Constant (.int 1) k q1) q2)) q3) pos) (dRev m f) := PE.weak (pe_revL h) fun σ H Q h => by
  obtain ⟨B, F, ad, δ, r, δ', S, e, k⟩ := h
  unfold dRev at e
  obtain ⟨⟨x, δ1⟩, e1, e⟩ := Option.bind_eq_some_iff.mp e
  refine ⟨B, F, ad, δ, x, δ1, S, e1, fun B1 ad1 v H1 s1 p1 S1 r1 => ?_⟩
  split at e
  · rename_i ds e2
    have e' := Option.some.inj e
    obtain ⟨q, xs, h1, h2, h3⟩ := S1.vw r1 e2
    refine ⟨q, xs, h1, SqL.of h2, fun z hz => mk_ok (m := m) S1 hz (Rps.rev h3) fun B' ad' v' H' s4 p4 S' r' => ?_⟩
    dsimp only at e'
    rw [e'] at S' r'
    exact k B' ad' v' H' (s1.trans s4) (p1.trans p4) S' r'
  · cases e

/-! ### builtins -/
abbrev CF := Dl → List D → Option (Vl × Dl)
def rDC (K : PySem.W.Frag) (mg : Str → Option Value) (g : CF) : List V → Hp → VK → Prop := fun vs H Q => ∃ B F ad σ δ ds r δ', SRep K mg B F ad σ δ H ∧ Vws K mg B H ds vs ∧ g δ ds = some (r, δ') ∧
  ∀ B' ad' v H', Same B B' → Pre ad ad' → SRep K mg B' F ad' σ δ' H' → RpV K mg B' ad' r v → Q v H'
def dCB (g : CF) (fa : AF) : EF := fun δ => (fa δ).bind fun p => (ders p.2 p.1).bind fun ds => g p.2 ds
theorem dCB_w {K : PySem.W.Frag} {mg : Str → Option Value} {g : CF} {fs : AF} {σ : L2.St} {H : Hp} {Q : VK} (h : tD K mg (dCB g fs) σ H Q) : tCB (rDC K mg g) (tDA K mg fs) σ H Q := by
  obtain ⟨B, F, ad, δ, r, δ', S, e, k⟩ := h
  unfold dCB at e
  obtain ⟨⟨x, δ1⟩, e1, e⟩ := Option.bind_eq_some_iff.mp e
  obtain ⟨ds, e2, e⟩ := Option.bind_eq_some_iff.mp e
  refine ⟨B, F, ad, δ, x, δ1, S, e1, fun B1 ad1 vs H1 s1 p1 S1 r1 => ?_⟩
  exact ⟨B1, F, ad1, σ, δ1, ds, r, δ', S1, S1.vws r1 e2, e, fun B' ad' v H' s2 p2 S' r' => k B' ad' v H' (s1.trans s2) (p1.trans p2) S' r'⟩
theorem pd_cb {g : CF} {fs : AF} {id : String} {x : Str} (hc : CallR X (.builtin id) (rDC X.K X.mg g)) (hg : Gl X x) (hm : X.mg x = none) (hv : bootBuiltins x = some (.builtin id)) (ha : PDA X (e :: es) fs) (hn : x ≠ "__name__" := by decide) (hdb : (x == ("__debug__" : Str)) = false := by decide)
    (he : starEach (e :: es) X.env = (false, eval e X.env) :: starEach es X.env := by rfl) (hpl : (backTo pos (starEach es X.env)).any (·.1) = false := by rfl) : PD X (.Call (.Name x p) (e :: es) [] pos) (dCB g fs) :=
  PE.weak (pe_callB hc hg hm hv ha hn hdb he hpl) fun σ H Q h => dCB_w h
theorem pd_ct {g : CF} {fs : AF} {T : String} {x : Str} (hc : CallR X (.type T) (rDC X.K X.mg g)) (hg : Gl X x) (hm : X.mg x = none) (hv : bootBuiltins x = some (.type T)) (ha : PDA X (e :: es) fs) (hn : x ≠ "__name__" := by decide) (hdb : (x == ("__debug__" : Str)) = false := by decide)
    (he : starEach (e :: es) X.env = (false, eval e X.env) :: starEach es X.env := by rfl) (hpl : (backTo pos (starEach es X.env)).any (·.1) = false := by rfl) : PD X (.Call (.Name x p) (e :: es) [] pos) (dCB g fs) :=
  PE.weak (pe_callTy hc hg hm hv ha hn hdb he hpl) fun σ H Q h => dCB_w h
/-- g on one, on two data -/
def g1 (g : Dl → D → Option (Vl × Dl)) : CF := fun δ ds => match ds with
  | [d] => g δ d
  | _ => none
def g2 (g : Dl → D → D → Option (Vl × Dl)) : CF := fun δ ds => match ds with
  | [d, e] => g δ d e
  | _ => none
theorem rDC1 {K : PySem.W.Frag} {mg : Str → Option Value} {g : Dl → D → Option (Vl × Dl)} {vs : List V} {H : Hp} {Q : VK} (h : rDC K mg (g1 g) vs H Q) : ∃ v, vs = [v] ∧ ∃ B F ad σ δ d r δ', SRep K mg B F ad σ δ H ∧ Vw K mg B H d v ∧ g δ d = some (r, δ') ∧
    ∀ B' ad' v H', Same B B' → Pre ad ad' → SRep K mg B' F ad' σ δ' H' → RpV K mg B' ad' r v → Q v H' := by
  obtain ⟨B, F, ad, σ, δ, ds, r, δ', S, vw, e, k⟩ := h
  unfold g1 at e
  split at e
  · obtain ⟨v, w, h1, h2, h3⟩ := vw
    have h3' : w = [] := h3
    subst h3'
    exact ⟨v, h1, B, F, ad, σ, δ, _, r, δ', S, h2, e, k⟩
  · cases e
theorem rDC2 {K : PySem.W.Frag} {mg : Str → Option Value} {g : Dl → D → D → Option (Vl × Dl)} {vs : List V} {H : Hp} {Q : VK} (h : rDC K mg (g2 g) vs H Q) : ∃ v w, vs = [v, w] ∧ ∃ B F ad σ δ d d2 r δ', SRep K mg B F ad σ δ H ∧ Vw K mg B H d v ∧ Vw K mg B H d2 w ∧ g δ d d2 = some (r, δ') ∧
    ∀ B' ad' v H', Same B B' → Pre ad ad' → SRep K mg B' F ad' σ δ' H' → RpV K mg B' ad' r v → Q v H' := by
  obtain ⟨B, F, ad, σ, δ, ds, r, δ', S, vw, e, k⟩ := h
  unfold g2 at e
  split at e
  · obtain ⟨v, w, h1, h2, h3⟩ := vw
    obtain ⟨v2, w2, h4, h5, h6⟩ := h3
    have h6' : w2 = [] := h6
    subst h6'
    subst h4
    exact ⟨v, v2, h1, B, F, ad, σ, δ, _, _, r, δ', S, h2, h5, e, k⟩
  · cases e
def lenD : CF := g1 fun δ d => match d with
  | .lst ds => some (.fz (.int ds.length), δ)
  | .tup ds => some (.fz (.int ds.length), δ)
  | .scr ns => some (.fz (.int ns.length), δ)
  | _ => none
theorem oc_len : CallR X (.builtin "len") (rDC X.K X.mg lenD) := by
  intro pins s σ H xs us Q I r h
  obtain ⟨v, rfl, B, F, ad, σ', δ, d, r', δ', S, vw, e, k⟩ := rDC1 h
  refine call_len_seq pins s σ H _ us Q I r ?_
  cases d with
  | lst ds =>
    cases e
    obtain ⟨q, xs, h1, h2, h3⟩ := vw
    refine ⟨q, xs, by rw [h1], .inl (SqL.of h2), ?_⟩
    rw [Rps.length h3]
    exact here (d := .int ds.length) S rfl k
  | tup ds =>
    cases e
    obtain ⟨q, xs, h1, h2, h3⟩ := vw
    refine ⟨q, xs, by rw [h1], .inr (SqT.of (S.exB _ _ h2)), ?_⟩
    rw [Rps.length h3]
    exact here (d := .int ds.length) S rfl k
  | scr ns =>
    cases e
    obtain ⟨q, h1, h2⟩ := vw
    refine ⟨q, _, by rw [h1], .inl (sqL_mono S.exB h2), ?_⟩
    rw [List.length_map]
    exact here (d := .int ns.length) S rfl k
  | _ => cases e
def absD : CF := g1 fun δ d => match d with
  | .int i => some (.fz (.int (if i < 0 then -i else i)), δ)
  | _ => none
theorem oc_abs : CallR X (.builtin "abs") (rDC X.K X.mg absD) := by
  intro pins s σ H xs us Q I r h
  obtain ⟨v, rfl, B, F, ad, σ', δ, d, r', δ', S, vw, e, k⟩ := rDC1 h
  refine call_abs pins s σ H _ us Q I r ?_
  cases d with
  | int i =>
    cases e
    exact ⟨i, by rw [show v = .int i from vw], here (d := .int _) S rfl k⟩
  | _ => cases e
def maxD : CF := g2 fun δ d e => match d, e with
  | .int i, .int j => some (.fz (.int (if j > i then j else i)), δ)
  | _, _ => none
def minD : CF := g2 fun δ d e => match d, e with
  | .int i, .int j => some (.fz (.int (if j < i then j else i)), δ)
  | _, _ => none
theorem oc_max (hc : X.calm = true) : CallR X (.builtin "max") (rDC X.K X.mg maxD) := by
  intro pins s σ H xs us Q I r h
  obtain ⟨v, w, rfl, B, F, ad, σ', δ, d, d2, r', δ', S, vw, vw2, e, k⟩ := rDC2 h
  refine call_max2 hc pins s σ H _ us Q I r ?_
  split at e
  · cases e
    exact ⟨_, _, by rw [show v = _ from vw, show w = _ from vw2], here (d := .int _) S rfl k⟩
  · cases e
theorem oc_min (hc : X.calm = true) : CallR X (.builtin "min") (rDC X.K X.mg minD) := by
  intro pins s σ H xs us Q I r h
  obtain ⟨v, w, rfl, B, F, ad, σ', δ, d, d2, r', δ', S, vw, vw2, e, k⟩ := rDC2 h
  refine call_min2 hc pins s σ H _ us Q I r ?_
  split at e
  · cases e
    exact ⟨_, _, by rw [show v = _ from vw, show w = _ from vw2], here (d := .int _) S rfl k⟩
  · cases e
def intD : CF := g1 fun δ d => match d with
  | .int i => some (.fz (.int i), δ)
  | .bl b => some (.fz (.int (if b then 1 else 0)), δ)
  | _ => none
theorem oc_int : CallR X (.type "int") (rDC X.K X.mg intD) := by
  intro pins s σ H xs us Q I r h
  obtain ⟨v, rfl, B, F, ad, σ', δ, d, r', δ', S, vw, e, k⟩ := rDC1 h
  refine call_int1 pins s σ H _ us Q I r ?_
  cases d with
  | int i =>
    cases e
    exact .inl ⟨i, by rw [show v = .int i from vw], here (d := .int _) S rfl k⟩
  | bl i =>
    cases e
    exact .inr ⟨i, by rw [show v = .bl i from vw], here (d := .int _) S rfl k⟩
  | _ => cases e
def listD (m : Bool) : CF := g1 fun δ d => match d with
  | .lst ds => some (mk m ds δ)
  | .tup ds => some (mk m ds δ)
  | _ => none
theorem oc_list (m : Bool) : CallR X (.type "list") (rDC X.K X.mg (listD m)) := by
  intro pins s σ H xs us Q I r h
  obtain ⟨v, rfl, B, F, ad, σ', δ, d, r', δ', S, vw, e, k⟩ := rDC1 h
  refine call_list_of pins s σ H _ us Q I r ?_
  cases d with
  | lst ds =>
    have e' := Option.some.inj e
    obtain ⟨q, xs, h1, h2, h3⟩ := vw
    refine ⟨q, xs, by rw [h1], .inl (SqL.of h2), fun z hz => mk_ok (m := m) S hz h3 fun B' ad' v' H' s4 p4 S' r' => ?_⟩
    rw [e'] at S' r'
    exact k B' ad' v' H' s4 p4 S' r'
  | tup ds =>
    have e' := Option.some.inj e
    obtain ⟨q, xs, h1, h2, h3⟩ := vw
    refine ⟨q, xs, by rw [h1], .inr (SqT.of (S.exB _ _ h2)), fun z hz => mk_ok (m := m) S hz h3 fun B' ad' v' H' s4 p4 S' r' => ?_⟩
    rw [e'] at S' r'
    exact k B' ad' v' H' s4 p4 S' r'
  | _ => cases e
def tupD : CF := g1 fun δ d => match d with
  | .lst ds => some (.fz (.tup ds), δ)
  | .tup ds => some (.fz (.tup ds), δ)
  | _ => none
theorem oc_tup : CallR X (.type "tuple") (rDC X.K X.mg tupD) := by
  intro pins s σ H xs us Q I r h
  obtain ⟨v, rfl, B, F, ad, σ', δ, d, r', δ', S, vw, e, k⟩ := rDC1 h
  refine call_tuple_of pins s σ H _ us Q I r ?_
  cases d with
  | lst ds =>
    cases e
    obtain ⟨q, xs, h1, h2, h3⟩ := vw
    exact ⟨q, xs, by rw [h1], .inl ⟨SqL.of h2, fun z hz => tup_ok S hz h3 k⟩⟩
  | tup ds =>
    cases e
    obtain ⟨q, xs, h1, h2, h3⟩ := vw
    exact ⟨q, xs, by rw [h1], .inr ⟨SqT.of (S.exB _ _ h2), here (d := .tup ds) S ⟨q, xs, rfl, h2, h3⟩ k⟩⟩
  | _ => cases e
def intsD : List D → Option (List Int)
  | [] => some []
  | .int i :: ds => (intsD ds).map fun r => i :: r
  | _ :: _ => none
def bls : List D → Option (List Bool)
  | [] => some []
  | .bl i :: ds => (bls ds).map fun r => i :: r
  | _ :: _ => none
theorem ints_rps {K : PySem.W.Frag} {mg : Str → Option Value} {B : Hp} : ∀ {ds : List D} {xs : List V} {ns : List Int}, Rps K mg B ds xs → intsD ds = some ns → xs = ns.map V.int
  | [], xs, ns, h, e => by
    have h' : xs = [] := h
    subst h'
    cases e
    rfl
  | d :: ds, xs, ns, h, e => by
    obtain ⟨v, r, rfl, h2, h3⟩ := h
    cases d with
    | int i =>
      simp only [intsD] at e
      obtain ⟨ms, e1, e2⟩ := Option.map_eq_some_iff.mp e
      subst e2
      rw [ints_rps h3 e1, show v = .int i from h2]
      rfl
    | _ => simp only [intsD] at e; cases e
theorem bls_rps {K : PySem.W.Frag} {mg : Str → Option Value} {B : Hp} : ∀ {ds : List D} {xs : List V} {ns : List Bool}, Rps K mg B ds xs → bls ds = some ns → xs = ns.map V.bl
  | [], xs, ns, h, e => by
    have h' : xs = [] := h
    subst h'
    cases e
    rfl
  | d :: ds, xs, ns, h, e => by
    obtain ⟨v, r, rfl, h2, h3⟩ := h
    cases d with
    | bl i =>
      simp only [bls] at e
      obtain ⟨ms, e1, e2⟩ := Option.map_eq_some_iff.mp e
      subst e2
      rw [bls_rps h3 e1, show v = .bl i from h2]
      rfl
    | _ => simp only [bls] at e; cases e
def sumD : CF := g1 fun δ d => match d with
  | .lst ds => (intsD ds).map fun ns => (.fz (.int ns.sum), δ)
  | _ => none
theorem oc_sum (hc : X.calm = true) : CallR X (.builtin "sum") (rDC X.K X.mg sumD) := by
  intro pins s σ H xs us Q I r h
  obtain ⟨v, rfl, B, F, ad, σ', δ, d, r', δ', S, vw, e, k⟩ := rDC1 h
  refine cr_sum hc pins s σ H _ us Q I r ?_
  cases d with
  | lst ds =>
    obtain ⟨ns, e1, e2⟩ := Option.map_eq_some_iff.mp e
    cases e2
    obtain ⟨q, xs, h1, h2, h3⟩ := vw
    have := ints_rps h3 e1
    subst this
    exact ⟨q, ns, by rw [h1], SqL.of h2, here (d := .int _) S rfl k⟩
  | _ => cases e
def allD : CF := g1 fun δ d => match d with
  | .lst ds => (bls ds).map fun ns => (.fz (.bl (ns.all id)), δ)
  | _ => none
def anyD : CF := g1 fun δ d => match d with
  | .lst ds => (bls ds).map fun ns => (.fz (.bl (ns.any id)), δ)
  | _ => none
theorem oc_all (hc : X.calm = true) : CallR X (.builtin "all") (rDC X.K X.mg allD) := by
  intro pins s σ H xs us Q I r h
  obtain ⟨v, rfl, B, F, ad, σ', δ, d, r', δ', S, vw, e, k⟩ := rDC1 h
  refine cr_all hc pins s σ H _ us Q I r ?_
  cases d with
  | lst ds =>
    obtain ⟨ns, e1, e2⟩ := Option.map_eq_some_iff.mp e
    cases e2
    obtain ⟨q, xs, h1, h2, h3⟩ := vw
    have := bls_rps h3 e1
    subst this
    exact ⟨q, ns, by rw [h1], SqL.of h2, here (d := .bl _) S rfl k⟩
  | _ => cases e
theorem oc_any (hc : X.calm = true) : CallR X (.builtin "any") (rDC X.K X.mg anyD) := by
  intro pins s σ H xs us Q I r h
  obtain ⟨v, rfl, B, F, ad, σ', δ, d, r', δ', S, vw, e, k⟩ := rDC1 h
  refine cr_any hc pins s σ H _ us Q I r ?_
  cases d with
  | lst ds =>
    obtain ⟨ns, e1, e2⟩ := Option.map_eq_some_iff.mp e
    cases e2
    obtain ⟨q, xs, h1, h2, h3⟩ := vw
    have := bls_rps h3 e1
    subst this
    exact ⟨q, ns, by rw [h1], SqL.of h2, here (d := .bl _) S rfl k⟩
  | _ => cases e
/-! isinstance(e, T), T a built-in type -/
def tyD : D → Option String
  | .non => some "NoneType"
  | .bl _ => some "bool"
  | .int _ => some "int"
  | .str _ => some "str"
  | .lst _ => some "list"
  | .tup _ => some "tuple"
  | _ => none
def dIsi (T : String) (f : EF) : EF := fun δ => (f δ).bind fun p => (der p.2 p.1).bind fun d => (tyD d).bind fun t => (kitB t T).map fun b => (.fz (.bl b), p.2)
theorem ty_of {K : PySem.W.Frag} {mg : Str → Option Value} {B H : Hp} {d : D} {v : V} {t : String} (s : Same B H) (h : Vw K mg B H d v) (e : tyD d = some t) : TyX K H v (.type t) := by
  cases d <;> simp only [tyD] at e <;> cases e
  · rw [show v = .non from h]; exact .base .non
  · rw [show v = .bl _ from h]; exact .base (.bl _)
  · rw [show v = .int _ from h]; exact .base (.int _)
  · rw [show v = .str _ from h]; exact .base (.str _)
  · obtain ⟨a, xs, rfl, h2, h3⟩ := h
    exact .base (.lst h2)
  · obtain ⟨a, xs, rfl, h2, h3⟩ := h
    exact .base (.tup (s _ _ h2))
theorem pd_isi {T : String} {x : Str} {p1 p2 : Pos} (hg : Gl X "isinstance") (hm : X.mg "isinstance" = none) (hgT : Gl X x) (hmT : X.mg x = none) (hvT : bootBuiltins x = some (.type T)) (ha : PD X e f)
    (hn : x ≠ "__name__" := by decide) (hdb : (x == ("__debug__" : Str)) = false := by decide)
    (hs : starEach [e, .Name x p1] X.env = (false, eval e X.env) :: starEach [.Name x p1] X.env := by rfl) (hs2 : starEach [.Name x p1] X.env = (false, eval (.Name x p1) X.env) :: starEach [] X.env := by rfl)
    (hpl : (backTo pos (starEach [.Name x p1] X.env)).any (·.1) = false := by rfl) : PD X (.Call (.Name "isinstance" p2) [e, .Name x p1] [] pos) (dIsi T f) :=
  PE.weak (pe_callB call_isi hg hm (by decide +kernel) (pa_cons ha (pa_cons (pe_bltn (v := .ty T) hgT hmT hvT rfl hn hdb) pa_nil hs2) hs) (by decide) (by decide) hs hpl) fun σ H Q h => by
    obtain ⟨B, F, ad, δ, r, δ', S, e, k⟩ := h
    unfold dIsi at e
    obtain ⟨⟨x, δ1⟩, e1, e⟩ := Option.bind_eq_some_iff.mp e
    obtain ⟨d, e2, e⟩ := Option.bind_eq_some_iff.mp e
    obtain ⟨t, e3, e⟩ := Option.bind_eq_some_iff.mp e
    obtain ⟨b, e4, e⟩ := Option.map_eq_some_iff.mp e
    cases e
    refine ⟨B, F, ad, δ, x, _, S, e1, fun B1 ad1 v H1 s1 p1 S1 r1 => ?_⟩
    exact ⟨v, .ty T, .type t, .type T, b, rfl, .ty T, ty_of S1.exB (S1.vw r1 e2) e3, kit_ty e4, k B1 ad1 _ H1 s1 p1 S1 rfl⟩
end
end PK

namespace PK
open PySem L2

/-! ### defs: what they promise -/
inductive Res where
  | val (d : D) | fresh (ds : List D)
inductive Fl where
  | nx | bk | ct | rt (r : Vl)
abbrev GF := List Vl → List (List D) → Option (Res × List (List D))
abbrev SF := Dl → Option (Fl × Dl)
def ResOk (K : PySem.W.Frag) (mg : Str → Option Value) (B F : Hp) (ad : List Addr) (cs : List (List D)) (H : Hp) (v : V) : Res → Prop
  | .val d => SRep K mg B F ad [] ⟨[], cs.map some⟩ H ∧ Rp K mg B d v
  | .fresh es => ∃ p, v = .ref p ∧ SRep K mg B F (ad ++ [p]) [] ⟨[], (cs ++ [es]).map some⟩ H
def spD (K : PySem.W.Frag) (mg : Str → Option Value) (n : Nat) (G : GF) : Sp := fun vs H Q _ => vs.length = n ∧ ∃ B F ad rs cs r cs', SRep K mg B F ad [] ⟨[], cs.map some⟩ H ∧ RpVs K mg B ad rs vs ∧ G rs cs = some (r, cs') ∧ cs'.length = cs.length ∧
  ∀ B' v H', Same B B' → ResOk K mg B' F ad cs' H' v r → Q v H'

/-! ### a call -/
def refs : List Vl → List Nat
  | [] => []
  | .rf k :: rs => k :: refs rs
  | .fz _ :: rs => refs rs
def renum (n : Nat) : List Vl → List Vl
  | [] => []
  | .rf _ :: rs => .rf n :: renum (n + 1) rs
  | .fz d :: rs => .fz d :: renum n rs
def lives (δ : Dl) : List Nat → Option (List (List D))
  | [] => some []
  | k :: ks => match δ.st[k]?, lives δ ks with
    | some (some ds), some r => some (ds :: r)
    | _, _ => none
def putAll (st : List (Option (List D))) : List Nat → List (List D) → List (Option (List D))
  | k :: ks, c :: cs => putAll (st.set k (some c)) ks cs
  | _, _ => st
def callG (m : Bool) (G : GF) (rs : List Vl) (δ : Dl) : Option (Vl × Dl) := if (refs rs).Nodup then (lives δ (refs rs)).bind fun cs => (G (renum 0 rs) cs).bind fun q => if q.2.length = cs.length then
    (match q.1 with
    | .val d => some (.fz d, { δ with st := putAll δ.st (refs rs) q.2 })
    | .fresh es => some (mk m es { δ with st := putAll δ.st (refs rs) q.2 }))
    else none
  else none
def dCall (m : Bool) (G : GF) (fa : AF) : EF := fun δ => (fa δ).bind fun p => callG m G p.1 p.2

theorem putAll_length : ∀ (ks : List Nat) (cs : List (List D)) (st : List (Option (List D))), (putAll st ks cs).length = st.length
  | [], _, _ => rfl
  | _ :: _, [], _ => rfl
  | k :: ks, c :: cs, st => by
    show (putAll (st.set k (some c)) ks cs).length = _
    rw [putAll_length]
    simp
theorem putAll_out : ∀ (ks : List Nat) (cs : List (List D)) (st : List (Option (List D))) (j : Nat), j ∉ ks → (putAll st ks cs)[j]? = st[j]?
  | [], _, _, _, _ => rfl
  | _ :: _, [], _, _, _ => rfl
  | k :: ks, c :: cs, st, j, h => by
    show (putAll (st.set k (some c)) ks cs)[j]? = _
    rw [putAll_out ks cs _ j (fun z => h (List.mem_cons_of_mem _ z)), List.getElem?_set_ne (fun z => h (by rw [z]; exact List.mem_cons_self))]
theorem putAll_in : ∀ (ks : List Nat) (cs : List (List D)) (st : List (Option (List D))) (i k : Nat), ks.Nodup → ks[i]? = some k → cs.length = ks.length → k < st.length → (putAll st ks cs)[k]? = (cs[i]?).map some
  | [], _, _, i, k, _, h, _, _ => by simp at h
  | k0 :: ks, [], st, i, k, _, h, hl, _ => by simp at hl
  | k0 :: ks, c :: cs, st, 0, k, hn, h, hl, hk => by
    simp at h
    subst h
    show (putAll (st.set k0 (some c)) ks cs)[k0]? = _
    rw [putAll_out ks cs _ k0 (List.nodup_cons.mp hn).1, List.getElem?_set_self hk]
    rfl
  | k0 :: ks, c :: cs, st, i + 1, k, hn, h, hl, hk => by
    show (putAll (st.set k0 (some c)) ks cs)[k]? = _
    have h' : ks[i]? = some k := by simpa using h
    rw [putAll_in ks cs _ i k (List.nodup_cons.mp hn).2 h' (by simpa using hl) (by simpa using hk)]
    simp
theorem lives_get {δ : Dl} : ∀ {ks : List Nat} {cs : List (List D)}, lives δ ks = some cs → cs.length = ks.length ∧ ∀ (i k : Nat), ks[i]? = some k → ∃ c, cs[i]? = some c ∧ δ.st[k]? = some (some c)
  | [], cs, h => by
    simp only [lives] at h
    cases h
    exact ⟨rfl, fun i k e => by simp at e⟩
  | k0 :: ks, cs, h => by
    simp only [lives] at h
    split at h
    · rename_i ds r h1 h2
      cases h
      obtain ⟨l, g⟩ := lives_get h2
      refine ⟨by simp [l], fun i k e => ?_⟩
      cases i with
      | zero =>
        simp at e
        subst e
        exact ⟨ds, rfl, h1⟩
      | succ i =>
        obtain ⟨c, g1, g2⟩ := g i k (by simpa using e)
        exact ⟨c, by simpa using g1, g2⟩
    · cases h

section
variable {K : PySem.W.Frag} {mg : Str → Option Value} {B B' F : Hp} {ad ad' : List Addr} {σ : L2.St} {δ δ' : Dl} {H H' : Hp} {p : Addr}
/-- the addresses of some of the lists -/
def addrs (ad : List Addr) (ks : List Nat) : List Addr := ks.filterMap fun k => ad[k]?
open Classical in
/-- the frame of a callee: ours, and our other lists -/
noncomputable def frameOf (F : Hp) (ad : List Addr) (δ : Dl) (ks : List Nat) (H : Hp) : Hp := fun a => if (∃ (k : Nat) (ds : List D), k ∉ ks ∧ ad[k]? = some a ∧ δ.st[k]? = some (some ds)) then H a else F a
theorem addrs_get {ks : List Nat} (hk : ∀ k ∈ ks, k < ad.length) : (addrs ad ks).length = ks.length ∧ ∀ (i k : Nat), ks[i]? = some k → (addrs ad ks)[i]? = ad[k]? := by
  unfold addrs
  induction ks with
  | nil => exact ⟨rfl, fun i k e => by simp at e⟩
  | cons k0 ks ih =>
    have h0 : k0 < ad.length := hk k0 List.mem_cons_self
    obtain ⟨l, g⟩ := ih fun k hk' => hk k (List.mem_cons_of_mem _ hk')
    have e0 : ad[k0]? = some ad[k0] := List.getElem?_eq_getElem h0
    rw [List.filterMap_cons, e0]
    refine ⟨by simp [l], fun i k e => ?_⟩
    cases i with
    | zero =>
      simp at e
      subst e
      rw [e0]; rfl
    | succ i => exact g i k (by simpa using e)
theorem addrs_nodup (hn : ad.Nodup) : ∀ {ks : List Nat}, ks.Nodup → (addrs ad ks).Nodup := by
  intro ks
  unfold addrs
  induction ks with
  | nil => intro _; exact List.nodup_nil
  | cons k0 ks ih =>
    intro h
    obtain ⟨h1, h2⟩ := List.nodup_cons.mp h
    rw [List.filterMap_cons]
    cases e : ad[k0]? with
    | none => exact ih h2
    | some a =>
      refine List.nodup_cons.mpr ⟨fun z => ?_, ih h2⟩
      obtain ⟨k, hk, ek⟩ := List.mem_filterMap.mp z
      obtain ⟨l1, e1⟩ := List.getElem?_eq_some_iff.mp e
      obtain ⟨l2, e2⟩ := List.getElem?_eq_some_iff.mp ek
      have : k0 = k := (List.getElem_inj hn).mp (e1.trans e2.symm)
      exact h1 (by rw [this]; exact hk)
theorem SRep.live_lt (S : SRep K mg B F ad σ δ H) {ks : List Nat} {cs : List (List D)} (h : lives δ ks = some cs) : ∀ k ∈ ks, k < ad.length := fun k hk => by
  obtain ⟨i, hi⟩ := List.getElem?_of_mem hk
  obtain ⟨c, _, e⟩ := (lives_get h).2 i k hi
  rw [S.len]
  exact (List.getElem?_eq_some_iff.mp e).1
theorem SRep.addr_inj (S : SRep K mg B F ad σ δ H) {i j : Nat} {a : Addr} (h1 : ad[i]? = some a) (h2 : ad[j]? = some a) : i = j := by
  obtain ⟨l1, e1⟩ := List.getElem?_eq_some_iff.mp h1
  obtain ⟨l2, e2⟩ := List.getElem?_eq_some_iff.mp h2
  exact (List.getElem_inj S.nd).mp (e1.trans e2.symm)
/-- what a callee gets -/
theorem SRep.down (S : SRep K mg B F ad σ δ H) {ks : List Nat} {cs : List (List D)} (h : lives δ ks = some cs) (hn : ks.Nodup) : SRep K mg B (frameOf F ad δ ks H) (addrs ad ks) [] ⟨[], cs.map some⟩ H where
  exB := S.exB
  exF := fun a o e => by
    unfold frameOf at e
    split at e
    · exact e
    · exact S.exF a o e
  dis := fun a o e => by
    unfold frameOf at e
    split at e
    · rename_i hx
      obtain ⟨k, ds, _, h1, h2⟩ := hx
      obtain ⟨q, xs, g1, g2, _, g4, _⟩ := S.cell k ds h2
      rw [h1] at g1
      cases g1
      exact g4
    · exact S.dis a o e
  nd := addrs_nodup S.nd hn
  len := by
    rw [(addrs_get (S.live_lt h)).1, List.length_map, (lives_get h).1]
  slen := rfl
  cell := fun i ds e => by
    have e' : (cs.map some)[i]? = some (some ds) := e
    rw [List.getElem?_map] at e'
    obtain ⟨c, e1, e2⟩ := Option.map_eq_some_iff.mp e'
    cases e2
    have hi : i < ks.length := by
      rw [← (lives_get h).1]
      exact (List.getElem?_eq_some_iff.mp e1).1
    obtain ⟨c', g1, g2⟩ := (lives_get h).2 i ks[i] (List.getElem?_eq_getElem hi)
    rw [e1] at g1
    cases g1
    obtain ⟨q, xs, h1, h2, h3, h4, h5⟩ := S.cell _ _ g2
    refine ⟨q, xs, by rw [(addrs_get (S.live_lt h)).2 i _ (List.getElem?_eq_getElem hi)]; exact h1, h2, h3, h4, ?_⟩
    unfold frameOf
    rw [if_neg]
    · exact h5
    · rintro ⟨k, ds, hk, k1, k2⟩
      have := S.addr_inj k1 h1
      subst this
      exact hk (List.getElem_mem hi)
  dead := fun i q h1 h2 => by
    have h2' : (cs.map some)[i]? = some none := h2
    rw [List.getElem?_map] at h2'
    obtain ⟨c, _, e2⟩ := Option.map_eq_some_iff.mp h2'
    cases e2
  slot := fun i d e => by simp at e
/-- what comes back -/
theorem SRep.up (S : SRep K mg B F ad σ δ H) {ks : List Nat} {cs cs' : List (List D)} (h : lives δ ks = some cs) (hn : ks.Nodup) (hl : cs'.length = cs.length) (sB : Same B B') {m : List Addr} {ms : List (List D)}
    (S' : SRep K mg B' (frameOf F ad δ ks H) (addrs ad ks ++ m) [] ⟨[], (cs' ++ ms).map some⟩ H') : SRep K mg B' F (ad ++ m) σ { δ with st := putAll δ.st ks cs' ++ ms.map some } H' := by
  have hg := lives_get h
  have ha := addrs_get (S.live_lt h)
  have hal : (addrs ad ks).length = cs'.length := by rw [ha.1, hl, hg.1]
  have hml : m.length = ms.length := by
    have := S'.len
    simp only [List.length_append, List.length_map] at this
    omega
  have fF : ∀ a o, F a = some o → frameOf F ad δ ks H a = some o := fun a o e => by
    unfold frameOf
    split
    · rename_i hx
      obtain ⟨k, ds, _, h1, h2⟩ := hx
      obtain ⟨q, xs, g1, g2, _, g4, g5⟩ := S.cell k ds h2
      rw [h1] at g1
      cases g1
      rw [g5] at e
      cases e
    · exact e
  have fC : ∀ (k : Nat) (ds : List D) (q : Addr), k ∉ ks → ad[k]? = some q → δ.st[k]? = some (some ds) → frameOf F ad δ ks H q = H q := fun k ds q h1 h2 h3 => by
    unfold frameOf
    rw [if_pos ⟨k, ds, h1, h2, h3⟩]
  -- our lists are not the new ones
  have hnew : ∀ a ∈ ad, ∀ b ∈ m, a ≠ b := fun a haa b hb z => by
    subst z
    obtain ⟨k, hk⟩ := List.getElem?_of_mem haa
    have hkl : k < δ.st.length := by rw [← S.len]; exact (List.getElem?_eq_some_iff.mp hk).1
    obtain ⟨j, hj⟩ := List.getElem?_of_mem hb
    have hjl : j < ms.length := by rw [← hml]; exact (List.getElem?_eq_some_iff.mp hj).1
    have e1 : (addrs ad ks ++ m)[(addrs ad ks).length + j]? = some a := by
      rw [List.getElem?_append_right (by omega)]
      simpa using hj
    have e2 : ((cs' ++ ms).map some)[(addrs ad ks).length + j]? = some (some ms[j]) := by
      rw [List.getElem?_map, List.getElem?_append_right (by omega), hal]
      simp [hjl]
    obtain ⟨q, xs, g1, g2, _, g4, g5⟩ := S'.cell _ _ e2
    rw [e1] at g1
    cases g1
    by_cases hks : k ∈ ks
    · obtain ⟨i, hi⟩ := List.getElem?_of_mem hks
      have hil : i < (addrs ad ks).length := by rw [ha.1]; exact (List.getElem?_eq_some_iff.mp hi).1
      have e3 : (addrs ad ks ++ m)[i]? = some a := by
        rw [List.getElem?_append_left hil, ha.2 i k hi]
        exact hk
      have := S'.addr_inj e1 e3
      omega
    · cases e : δ.st[k]? with
      | none => exact absurd (List.getElem?_eq_none_iff.mp e) (by omega)
      | some u =>
        cases u with
        | none =>
          have := S.dead k a hk e
          cases q : B a with
          | none => exact this q
          | some o =>
            rw [sB a o q] at g4
            cases g4
        | some ds =>
          obtain ⟨b, ys, k1, k2, _⟩ := S.cell k ds e
          rw [hk] at k1
          cases k1
          rw [fC k ds a hks hk e, k2] at g5
          cases g5
  refine ⟨S'.exB, fun a o e => S'.exF a o (fF a o e), fun a o e => S'.dis a o (fF a o e), ?_, ?_, S.slen, fun k ds e => ?_, fun k q h1 h2 => ?_, fun i d e => ?_⟩
  · rw [List.nodup_append]
    refine ⟨S.nd, ?_, hnew⟩
    have := S'.nd
    rw [List.nodup_append] at this
    exact this.2.1
  · simp only [List.length_append, List.length_map, putAll_length]
    rw [S.len, hml]
  · have e' : (putAll δ.st ks cs' ++ ms.map some)[k]? = some (some ds) := e
    by_cases hk : k < δ.st.length
    · rw [List.getElem?_append_left (by rw [putAll_length]; exact hk)] at e'
      by_cases hks : k ∈ ks
      · obtain ⟨i, hi⟩ := List.getElem?_of_mem hks
        rw [putAll_in ks cs' δ.st i k hn hi (by rw [hl, hg.1]) hk] at e'
        obtain ⟨c, e1, e2⟩ := Option.map_eq_some_iff.mp e'
        cases e2
        have hi' : i < (addrs ad ks).length := by rw [ha.1]; exact (List.getElem?_eq_some_iff.mp hi).1
        have e3 : ((cs' ++ ms).map some)[i]? = some (some ds) := by
          rw [List.getElem?_map, List.getElem?_append_left (by omega), e1]
          rfl
        obtain ⟨q, xs, g1, g2, g3, g4, g5⟩ := S'.cell i ds e3
        rw [List.getElem?_append_left hi', ha.2 i k hi] at g1
        refine ⟨q, xs, (Pre.app ad m).get g1, g2, g3, g4, ?_⟩
        cases z : F q with
        | none => rfl
        | some o =>
          rw [fF q o z] at g5
          cases g5
      · rw [putAll_out ks cs' δ.st k hks] at e'
        obtain ⟨q, xs, g1, g2, g3, g4, g5⟩ := S.cell k ds e'
        have f1 := fC k ds q hks g1 e'
        refine ⟨q, xs, (Pre.app ad m).get g1, ?_, Rps.mono sB ds xs g3, ?_, g5⟩
        · exact S'.exF q _ (by rw [f1]; exact g2)
        · exact S'.dis q (.lst xs) (by rw [f1]; exact g2)
    · rw [List.getElem?_append_right (by rw [putAll_length]; omega), putAll_length] at e'
      rw [List.getElem?_map] at e'
      obtain ⟨c, e1, e2⟩ := Option.map_eq_some_iff.mp e'
      cases e2
      have e3 : ((cs' ++ ms).map some)[cs'.length + (k - δ.st.length)]? = some (some ds) := by
        rw [List.getElem?_map, List.getElem?_append_right (by omega)]
        simp only [Nat.add_sub_cancel_left]
        rw [e1]
        rfl
      obtain ⟨q, xs, g1, g2, g3, g4, g5⟩ := S'.cell _ _ e3
      rw [List.getElem?_append_right (by omega)] at g1
      refine ⟨q, xs, ?_, g2, g3, g4, ?_⟩
      · rw [List.getElem?_append_right (by rw [S.len]; omega), S.len]
        rw [hal] at g1
        simpa using g1
      · cases z : F q with
        | none => rfl
        | some o =>
          rw [fF q o z] at g5
          cases g5
  · have h2' : (putAll δ.st ks cs' ++ ms.map some)[k]? = some none := h2
    by_cases hk : k < δ.st.length
    · rw [List.getElem?_append_left (by rw [putAll_length]; exact hk)] at h2'
      rw [List.getElem?_append_left (by rw [S.len]; exact hk)] at h1
      by_cases hks : k ∈ ks
      · obtain ⟨i, hi⟩ := List.getElem?_of_mem hks
        rw [putAll_in ks cs' δ.st i k hn hi (by rw [hl, hg.1]) hk] at h2'
        obtain ⟨c, e1, e2⟩ := Option.map_eq_some_iff.mp h2'
        cases e2
      · rw [putAll_out ks cs' δ.st k hks] at h2'
        have := S.dead k q h1 h2'
        intro z
        cases w : B q with
        | none => exact this w
        | some o =>
          rw [sB q o w] at z
          cases z
    · rw [List.getElem?_append_right (by rw [putAll_length]; omega), putAll_length, List.getElem?_map] at h2'
      obtain ⟨c, e1, e2⟩ := Option.map_eq_some_iff.mp h2'
      cases e2
  · obtain ⟨v, g1, g2⟩ := S.slot i d e
    exact ⟨v, g1, g2.mono sB (Pre.app _ _)⟩
/-- the last of our lists frozen and let go -/
theorem SRep.lastFrozen {es : List D} {st : List (Option (List D))} (S : SRep K mg B F (ad ++ [p]) σ { δ with st := st ++ [some es] } H) (hl : ad.length = st.length) (hs : ∀ (i k : Nat), δ.sl[i]? = some (some (Vl.rf k)) → k < ad.length) :
    ∃ B', Same B B' ∧ SRep K mg B' F ad σ { δ with st := st } H ∧ Rp K mg B' (.lst es) (.ref p) := by
  have e1 : ({ δ with st := st ++ [some es] } : Dl).st[st.length]? = some (some es) := by simp
  have e2 : (ad ++ [p])[st.length]? = some p := by rw [← hl]; simp
  obtain ⟨q, xs, g1, g2, g3, g4, g5⟩ := S.cell _ _ e1
  rw [e2] at g1
  cases g1
  obtain ⟨S1, s1⟩ := S.freeze e1 e2 g2
  have hst : ({ δ with st := st ++ [some es] } : Dl).st.set st.length none = st ++ [none] := by
    show (st ++ [some es]).set st.length none = _
    rw [List.set_append_right _ _ (Nat.le_refl _)]
    simp
  refine ⟨_, s1, ⟨S1.exB, S1.exF, S1.dis, ?_, hl, S1.slen, fun k ds e => ?_, fun k q h1 h2 => ?_, fun i d e => ?_⟩, p, xs, rfl, upd_same, Rps.mono s1 es xs g3⟩
  · have := S1.nd
    rw [List.nodup_append] at this
    exact this.1
  · have e' : st[k]? = some (some ds) := e
    have hk : k < st.length := (List.getElem?_eq_some_iff.mp e').1
    obtain ⟨q, xs', k1, k2⟩ := S1.cell k ds (by
      show (({ δ with st := st ++ [some es] } : Dl).st.set st.length none)[k]? = _
      rw [hst, List.getElem?_append_left hk]
      exact e')
    rw [List.getElem?_append_left (by omega)] at k1
    exact ⟨q, xs', k1, k2⟩
  · have h2' : st[k]? = some none := h2
    have hk : k < st.length := (List.getElem?_eq_some_iff.mp h2').1
    refine S1.dead k q ?_ ?_
    · rw [List.getElem?_append_left (by omega)]; exact h1
    · show (({ δ with st := st ++ [some es] } : Dl).st.set st.length none)[k]? = _
      rw [hst, List.getElem?_append_left hk]
      exact h2'
  · obtain ⟨v, k1, k2⟩ := S1.slot i d e
    refine ⟨v, k1, ?_⟩
    cases d with
    | fz d => exact k2
    | rf k =>
      obtain ⟨a, z1, z2⟩ := k2
      rw [List.getElem?_append_left (hs i k e)] at z2
      exact ⟨a, z1, z2⟩
theorem SRep.slot_lt (S : SRep K mg B F ad σ δ H) : ∀ (i k : Nat), δ.sl[i]? = some (some (Vl.rf k)) → k < ad.length := fun i k e => by
  obtain ⟨v, _, a, _, h⟩ := S.slot i _ e
  exact (List.getElem?_eq_some_iff.mp h).1
theorem renum_ok : ∀ {rs : List Vl} {vs : List V} {ks : List Nat}, (∀ k ∈ ks ++ refs rs, k < ad.length) → RpVs K mg B ad rs vs → RpVs K mg B (addrs ad (ks ++ refs rs)) (renum ks.length rs) vs
  | [], vs, ks, hk, h => h
  | .fz d :: rs, vs, ks, hk, h => by
    obtain ⟨v, r, rfl, h2, h3⟩ := h
    exact ⟨v, r, rfl, h2, renum_ok (rs := rs) hk h3⟩
  | .rf k :: rs, vs, ks, hk, h => by
    obtain ⟨v, r, rfl, ⟨a, rfl, h2⟩, h3⟩ := h
    refine ⟨.ref a, r, rfl, ⟨a, rfl, ?_⟩, ?_⟩
    · show (addrs ad (ks ++ k :: refs rs))[ks.length]? = some a
      have hk' : ∀ j ∈ ks ++ k :: refs rs, j < ad.length := hk
      rw [(addrs_get hk').2 ks.length k (by simp)]
      exact h2
    · have e : ks ++ refs (.rf k :: rs) = (ks ++ [k]) ++ refs rs := by simp [refs]
      have := renum_ok (rs := rs) (ks := ks ++ [k]) (by rw [← e]; exact hk) h3
      rw [List.length_append, List.length_singleton] at this
      rw [e]
      exact this
/-- THE CALL -/
theorem call_w {m : Bool} {G : GF} {rs : List Vl} {vs : List V} {r : Vl} {n : Nat} {Q : VK} {E : XK} (S : SRep K mg B F ad σ δ H) (hv : RpVs K mg B ad rs vs) (hn : vs.length = n) (e : callG m G rs δ = some (r, δ'))
    (k : ∀ B' ad' v H', Same B B' → Pre ad ad' → SRep K mg B' F ad' σ δ' H' → RpV K mg B' ad' r v → Q v H') : spD K mg n G vs H Q E := by
  unfold callG at e
  split at e
  · rename_i hnd
    obtain ⟨cs, e1, e⟩ := Option.bind_eq_some_iff.mp e
    obtain ⟨⟨q, cs'⟩, e2, e⟩ := Option.bind_eq_some_iff.mp e
    split at e
    · rename_i hl
      have hl' : cs'.length = cs.length := hl
      have hlt := S.live_lt e1
      refine ⟨hn, B, frameOf F ad δ (refs rs) H, addrs ad (refs rs), renum 0 rs, cs, q, cs', S.down e1 hnd, ?_, e2, hl', fun B' v H' sB hr => ?_⟩
      · exact renum_ok (ks := []) (by simpa using hlt) hv
      · cases q with
        | val d =>
          cases e
          obtain ⟨S', r'⟩ := hr
          have S2 := S.up (m := []) (ms := []) e1 hnd hl' sB (by simpa using S')
          simp only [List.append_nil, List.map_nil] at S2
          exact k B' ad v H' sB (Pre.refl _) S2 r'
        | fresh es =>
          obtain ⟨p, rfl, S'⟩ := hr
          have S2 := S.up (m := [p]) (ms := [es]) e1 hnd hl' sB S'
          have hpl : ad.length = (putAll δ.st (refs rs) cs').length := by rw [putAll_length, S.len]
          cases m with
          | true =>
            cases e
            refine k B' (ad ++ [p]) _ H' sB (Pre.app _ _) S2 ⟨p, rfl, ?_⟩
            rw [← hpl]
            simp
          | false =>
            cases e
            obtain ⟨B2, s2, S3, r3⟩ := SRep.lastFrozen (δ := δ) S2 hpl S.slot_lt
            exact k B2 ad _ H' (sB.trans s2) (Pre.refl _) S3 r3
    · cases e
  · cases e
end
section
variable {X : Cx} {e o : Expr} {f fo : EF} {pos p apos : Pos} {es : List Expr} {fs : AF}
theorem RpVs.length {K : PySem.W.Frag} {mg : Str → Option Value} {B : Hp} {ad : List Addr} : ∀ {rs : List Vl} {vs : List V}, RpVs K mg B ad rs vs → vs.length = rs.length
  | [], vs, h => by
    have h' : vs = [] := h
    subst h'; rfl
  | r :: rs, vs, h => by
    obtain ⟨v, w, rfl, _, h3⟩ := h
    rw [List.length_cons, List.length_cons, h3.length]
def dCallN (m : Bool) (n : Nat) (G : GF) (fa : AF) : EF := fun δ => (fa δ).bind fun p => if p.1.length = n then callG m G p.1 p.2 else none
theorem pd_call {k n : Nat} {f : Addr} {fd : FuncData} {ps : List Str} {G : GF} {x : Str} (m : Bool) (Fk : FnOk X.prog X.w X.K X.mg X.base CX0 k f fd ps (spD X.K X.mg n G)) (hr : Room k X.A) (hg : Gl X x) (hm : X.mg x = some (.ref f)) (hk : PySem.W.keepIn X.K (.ref f) = true)
    (hb : Binds X.K fd ps []) (ha : PDA X (e :: es) fs) (hdb : (x == ("__debug__" : Str)) = false := by decide) (he : starEach (e :: es) X.env = (false, eval e X.env) :: starEach es X.env := by rfl)
    (hpl : (backTo pos (starEach es X.env)).any (·.1) = false := by rfl) : PD X (.Call (.Name x p) (e :: es) [] pos) (dCallN m n G fs) :=
  PE.weak (pe_call Fk hr hg hm hk hb .nil pass0 ha hdb he hpl) fun σ H Q h => by
    obtain ⟨B, F, ad, δ, r, δ', S, e, k⟩ := h
    unfold dCallN at e
    obtain ⟨⟨rs, δ1⟩, e1, e⟩ := Option.bind_eq_some_iff.mp e
    split at e
    · rename_i hl
      refine ⟨B, F, ad, δ, rs, δ1, S, e1, fun B1 ad1 vs H1 s1 p1 S1 r1 => ?_⟩
      show spD X.K X.mg n G (vs ++ []) H1 Q E0
      rw [List.append_nil]
      exact call_w S1 r1 (by rw [r1.length]; exact hl) e fun B' ad' v H' s2 p2 S' r' => k B' ad' v H' (s1.trans s2) (p1.trans p2) S' r'
    · cases e
end
end PK

namespace PK
open PySem L2

/-! ### statements -/
def FlOk (K : PySem.W.Frag) (mg : Str → Option Value) (B : Hp) (ad : List Addr) (D : Ends) (σ : L2.St) (H : Hp) : Fl → Prop
  | .nx => D.nx σ H
  | .bk => D.bk σ H
  | .ct => D.ct σ H
  | .rt r => ∀ v, RpV K mg B ad r v → D.rt v H
def sD (K : PySem.W.Frag) (mg : Str → Option Value) (f : SF) : TS := fun D σ H => ∃ B F ad δ fl δ', SRep K mg B F ad σ δ H ∧ f δ = some (fl, δ') ∧
  ∀ B' ad' σ' H', Same B B' → Pre ad ad' → SRep K mg B' F ad' σ' δ' H' → FlOk K mg B' ad' D σ' H' fl
abbrev PDS (X : Cx) (st : Stmt) (f : SF) := PS X st (sD X.K X.mg f)
abbrev PDSs (X : Cx) (st : List Stmt) (f : SF) := PSs X st (sD X.K X.mg f)
def sNext : SF := fun δ => some (.nx, δ)
def sSeq (f g : SF) : SF := fun δ => (f δ).bind fun p => match p.1 with
  | .nx => g p.2
  | fl => some (fl, p.2)
def sSet (i : Nat) (f : EF) : SF := fun δ => (f δ).map fun p => (.nx, { p.2 with sl := p.2.sl.set i (some p.1) })
def sDrop (f : EF) : SF := fun δ => (f δ).map fun p => (.nx, p.2)
def sRet (f : EF) : SF := fun δ => (f δ).map fun p => (.rt p.1, p.2)
def sRetN : SF := fun δ => some (.rt (.fz .non), δ)
def sIf (t : BF) (f g : SF) : SF := fun δ => (t δ).bind fun p => if p.1 then f p.2 else g p.2
def sBrk : SF := fun δ => some (.bk, δ)
def sCnt : SF := fun δ => some (.ct, δ)
def sNever : SF := fun _ => none
section
variable {X : Cx} {e a b c : Expr} {f fa fb fc : EF} {ft : BF} {st : Stmt} {rest s1 s2 : List Stmt} {g h u : SF} {pos : Pos}
theorem pds_nil : PDSs X [] sNext := PSs.weak pss_nil fun D σ H h => by
  obtain ⟨B, F, ad, δ, r, δ', S, e, k⟩ := h
  cases e
  exact k B ad σ H (Same.refl _) (Pre.refl _) S
theorem pds_cons (h1 : PDS X st g) (h2 : PDSs X rest h) : PDSs X (st :: rest) (sSeq g h) := PSs.weak (pss_cons h1 h2) fun D σ H h => by
  obtain ⟨B, F, ad, δ, r, δ', S, e, k⟩ := h
  unfold sSeq at e
  obtain ⟨⟨fl, δ1⟩, e1, e⟩ := Option.bind_eq_some_iff.mp e
  refine ⟨B, F, ad, δ, fl, δ1, S, e1, fun B1 ad1 σ1 H1 q1 p1 S1 => ?_⟩
  cases fl with
  | nx => exact ⟨B1, F, ad1, δ1, r, δ', S1, e, fun B2 ad2 σ2 H2 q2 p2 S2 => k B2 ad2 σ2 H2 (q1.trans q2) (p1.trans p2) S2⟩
  | bk =>
    cases e
    exact k B1 ad1 σ1 H1 q1 p1 S1
  | ct =>
    cases e
    exact k B1 ad1 σ1 H1 q1 p1 S1
  | rt v =>
    cases e
    exact k B1 ad1 σ1 H1 q1 p1 S1
theorem pds_one (h1 : PDS X st g) : PDSs X [st] g := pss_one h1
theorem tSet_w {K : PySem.W.Frag} {mg : Str → Option Value} {i : Nat} {D : Ends} {σ : L2.St} {H : Hp} (h : sD K mg (sSet i f) D σ H) : tAsg (tD K mg f) (gName i) D σ H := by
  obtain ⟨B, F, ad, δ, r, δ', S, e, k⟩ := h
  unfold sSet at e
  obtain ⟨⟨x, δ1⟩, e1, e⟩ := Option.map_eq_some_iff.mp e
  cases e
  exact ⟨B, F, ad, δ, x, δ1, S, e1, fun B1 ad1 v H1 q1 p1 S1 r1 => k B1 ad1 _ H1 q1 p1 (S1.setS r1)⟩
theorem pds_set (i : Nat) {x : Str} {pos' : Pos} (he : PD X e f) (hN : X.N.Nodup) (hi : X.N[i]? = some x := by rfl) (hx : Loc X.env.scope x := by first | exact Or.inl rfl | exact Or.inr rfl) (hs : swapsWith e (some (.Name x pos')) pos.line X.env = pure false := by rfl)
    (hf : X.fn x = true ∨ X.env.scope.names.lookup x = some .local := by first | exact .inl rfl | exact .inr rfl) : PDS X (.Assign [.Name x pos'] e pos) (sSet i f) :=
  PS.weak (ps_set hN hi hx he hs hf) fun D σ H h => tSet_w h
theorem pds_drop (he : PD X e f) (hs : swapsWith e none pos.line X.env = pure false := by rfl) : PDS X (.Expr e pos) (sDrop f) := PS.weak (ps_expr he hs) fun D σ H h => by
  obtain ⟨B, F, ad, δ, r, δ', S, e, k⟩ := h
  unfold sDrop at e
  obtain ⟨⟨x, δ1⟩, e1, e⟩ := Option.map_eq_some_iff.mp e
  cases e
  exact ⟨B, F, ad, δ, x, δ1, S, e1, fun B1 ad1 v H1 q1 p1 S1 r1 => k B1 ad1 _ H1 q1 p1 S1⟩
theorem pds_doc {x j pos'} : PDS X (.Expr (.Constant (.str x) j pos) pos') sNext := PS.weak ps_doc fun D σ H h => by
  obtain ⟨B, F, ad, δ, r, δ', S, e, k⟩ := h
  cases e
  exact k B ad σ H (Same.refl _) (Pre.refl _) S
theorem pds_ret (he : PD X e f) : PDS X (.Return (some e) pos) (sRet f) := PS.weak (ps_ret he) fun D σ H h => by
  obtain ⟨B, F, ad, δ, r, δ', S, e, k⟩ := h
  unfold sRet at e
  obtain ⟨⟨x, δ1⟩, e1, e⟩ := Option.map_eq_some_iff.mp e
  cases e
  exact ⟨B, F, ad, δ, x, δ1, S, e1, fun B1 ad1 v H1 q1 p1 S1 r1 => k B1 ad1 _ H1 q1 p1 S1 v r1⟩
theorem pds_retN : PDS X (.Return none pos) sRetN := PS.weak ps_retN fun D σ H h => by
  obtain ⟨B, F, ad, δ, r, δ', S, e, k⟩ := h
  cases e
  exact k B ad σ H (Same.refl _) (Pre.refl _) S .non rfl
theorem pds_if (ht : PDT X c ft) (h1 : PDSs X s1 g) (h2 : PDSs X s2 h) : PDS X (.If c s1 s2 pos) (sIf ft g h) := PS.weak (ps_if ht h1 h2) fun D σ H h => by
  obtain ⟨B, F, ad, δ, r, δ', S, e, k⟩ := h
  unfold sIf at e
  obtain ⟨⟨x, δ1⟩, e1, e⟩ := Option.bind_eq_some_iff.mp e
  refine ⟨B, F, ad, δ, x, δ1, S, e1, fun B1 ad1 H1 q1 p1 S1 => ?_⟩
  cases x with
  | true =>
    rw [if_pos rfl]
    exact ⟨B1, F, ad1, δ1, r, δ', S1, e, fun B2 ad2 σ2 H2 q2 p2 S2 => k B2 ad2 σ2 H2 (q1.trans q2) (p1.trans p2) S2⟩
  | false =>
    rw [if_neg Bool.false_ne_true]
    exact ⟨B1, F, ad1, δ1, r, δ', S1, e, fun B2 ad2 σ2 H2 q2 p2 S2 => k B2 ad2 σ2 H2 (q1.trans q2) (p1.trans p2) S2⟩
theorem pds_pass : PDS X (.Pass pos) sNext := PS.weak ps_pass fun D σ H h => by
  obtain ⟨B, F, ad, δ, r, δ', S, e, k⟩ := h
  cases e
  exact k B ad σ H (Same.refl _) (Pre.refl _) S
theorem pds_brk : PDS X (.Break pos) sBrk := PS.weak ps_break fun D σ H h => by
  obtain ⟨B, F, ad, δ, r, δ', S, e, k⟩ := h
  cases e
  exact k B ad σ H (Same.refl _) (Pre.refl _) S
theorem pds_cnt : PDS X (.Continue pos) sCnt := PS.weak ps_continue fun D σ H h => by
  obtain ⟨B, F, ad, δ, r, δ', S, e, k⟩ := h
  cases e
  exact k B ad σ H (Same.refl _) (Pre.refl _) S
theorem pds_never : PDS X st sNever := PS.weak ps_never fun D σ H h => by
  obtain ⟨B, F, ad, δ, r, δ', S, e, k⟩ := h
  cases e
theorem pdss_never : PDSs X rest sNever := PSs.weak pss_never fun D σ H h => by
  obtain ⟨B, F, ad, δ, r, δ', S, e, k⟩ := h
  cases e
end

/-! ### targets -/
inductive TgP where
  | n (i : Nat) | t (is : List Nat)
inductive Tg where
  | nm (i : Nat) | tp (is : List Nat) | tn (ps : List TgP)
def setAll (δ : Dl) : List Nat → List D → Option Dl
  | [], [] => some δ
  | i :: is, d :: ds => setAll { δ with sl := δ.sl.set i (some (.fz d)) } is ds
  | _, _ => none
def setParts (δ : Dl) : List TgP → List D → Option Dl
  | [], [] => some δ
  | .n i :: ps, d :: ds => setParts { δ with sl := δ.sl.set i (some (.fz d)) } ps ds
  | .t is :: ps, .tup es :: ds => (setAll δ is es).bind fun δ' => setParts δ' ps ds
  | _, _ => none
def asgT (δ : Dl) : Tg → D → Option Dl
  | .nm i, d => some { δ with sl := δ.sl.set i (some (.fz d)) }
  | .tp is, .tup ds => setAll δ is ds
  | .tn ps, .tup ds => setParts δ ps ds
  | .tp _, _ => none
  | .tn _, _ => none
def gNames : List Nat → TGs
  | [] => gNil
  | i :: is => gCons (gName i) (gNames is)
def gParts (K : PySem.W.Frag) : List TgP → TGs
  | [] => gNil
  | .n i :: ps => gCons (gName i) (gParts K ps)
  | .t is :: ps => gCons (gTup K is.length (gNames is)) (gParts K ps)
def gTg (K : PySem.W.Frag) : Tg → TG
  | .nm i => gName i
  | .tp is => gTup K is.length (gNames is)
  | .tn ps => gTup K ps.length (gParts K ps)
def setV (σ : L2.St) : List Nat → List V → L2.St
  | i :: is, v :: vs => setV (σ.set i (some v)) is vs
  | _, _ => σ
section
variable {K : PySem.W.Frag} {mg : Str → Option Value} {B B' F : Hp} {ad ad' : List Addr} {σ : L2.St} {δ δ' : Dl} {H H' : Hp} {p : Addr}
theorem names_w : ∀ {is : List Nat} {ds : List D} {vs : List V} {σ : L2.St} {δ δ' : Dl} {Q : L2.St → Hp → Prop}, SRep K mg B F ad σ δ H → Rps K mg B ds vs → setAll δ is ds = some δ' → (SRep K mg B F ad (setV σ is vs) δ' H → Q (setV σ is vs) H) → gNames is vs σ H Q
  | [], ds, vs, σ, δ, δ', Q, S, r, e, k => by
    cases ds with
    | nil =>
      have h' : vs = [] := r
      subst h'
      simp only [setAll] at e
      cases e
      exact ⟨rfl, k S⟩
    | cons d ds => simp only [setAll] at e; cases e
  | i :: is, ds, vs, σ, δ, δ', Q, S, r, e, k => by
    cases ds with
    | nil => simp only [setAll] at e; cases e
    | cons d ds =>
      obtain ⟨v, w, rfl, h2, h3⟩ := r
      simp only [setAll] at e
      exact ⟨v, w, rfl, names_w (S.setS (d := .fz d) h2) h3 e k⟩
theorem tup_len {is : List Nat} : ∀ {δ δ' : Dl} {ds : List D}, setAll δ is ds = some δ' → ds.length = is.length := by
  induction is with
  | nil =>
    intro δ δ' ds e
    cases ds with
    | nil => rfl
    | cons d ds => simp only [setAll] at e; cases e
  | cons i is ih =>
    intro δ δ' ds e
    cases ds with
    | nil => simp only [setAll] at e; cases e
    | cons d ds =>
      simp only [setAll] at e
      rw [List.length_cons, List.length_cons, ih e]
def tgPs : List TgP → List Nat
  | [] => []
  | .n i :: ps => i :: tgPs ps
  | .t is :: ps => is ++ tgPs ps
theorem setV_app : ∀ {is js : List Nat} {xs ys : List V} {σ : L2.St}, xs.length = is.length → setV σ (is ++ js) (xs ++ ys) = setV (setV σ is xs) js ys
  | [], js, xs, ys, σ, h => by
    have : xs = [] := List.length_eq_zero_iff.mp h
    subst this
    cases js <;> rfl
  | i :: is, js, [], ys, σ, h => by cases h
  | i :: is, js, x :: xs, ys, σ, h => setV_app (is := is) (σ := σ.set i (some x)) (by simpa using h)
theorem parts_len : ∀ {ps : List TgP} {δ δ' : Dl} {ds : List D}, setParts δ ps ds = some δ' → ds.length = ps.length
  | [], δ, δ', ds, e => by
    cases ds with
    | nil => rfl
    | cons d ds => simp only [setParts] at e; cases e
  | .n i :: ps, δ, δ', ds, e => by
    cases ds with
    | nil => simp only [setParts] at e; cases e
    | cons d ds =>
      simp only [setParts] at e
      rw [List.length_cons, List.length_cons, parts_len e]
  | .t is :: ps, δ, δ', ds, e => by
    cases ds with
    | nil => simp only [setParts] at e; cases e
    | cons d ds =>
      cases d with
      | tup es =>
        simp only [setParts] at e
        obtain ⟨δ1, _, e2⟩ := Option.bind_eq_some_iff.mp e
        rw [List.length_cons, List.length_cons, parts_len e2]
      | _ => simp only [setParts] at e; cases e
theorem parts_w : ∀ {ps : List TgP} {ds : List D} {vs : List V} {σ : L2.St} {δ δ' : Dl} {Q : L2.St → Hp → Prop}, SRep K mg B F ad σ δ H → Rps K mg B ds vs → setParts δ ps ds = some δ' → (∀ ws, SRep K mg B F ad (setV σ (tgPs ps) ws) δ' H → Q (setV σ (tgPs ps) ws) H) → gParts K ps vs σ H Q
  | [], ds, vs, σ, δ, δ', Q, S, r, e, k => by
    cases ds with
    | nil =>
      have h' : vs = [] := r
      subst h'
      simp only [setParts] at e
      cases e
      exact ⟨rfl, k [] S⟩
    | cons d ds => simp only [setParts] at e; cases e
  | .n i :: ps, ds, vs, σ, δ, δ', Q, S, r, e, k => by
    cases ds with
    | nil => simp only [setParts] at e; cases e
    | cons d ds =>
      obtain ⟨v, w, rfl, h2, h3⟩ := r
      simp only [setParts] at e
      exact ⟨v, w, rfl, parts_w (S.setS (d := .fz d) h2) h3 e fun ws => k (v :: ws)⟩
  | .t is :: ps, ds, vs, σ, δ, δ', Q, S, r, e, k => by
    cases ds with
    | nil => simp only [setParts] at e; cases e
    | cons d ds =>
      cases d with
      | tup es =>
        simp only [setParts] at e
        obtain ⟨δ1, e1, e2⟩ := Option.bind_eq_some_iff.mp e
        obtain ⟨v, w, rfl, h2, h3⟩ := r
        obtain ⟨a, xs, rfl, g2, g3⟩ := h2
        have hl : xs.length = is.length := by rw [Rps.length g3, tup_len e1]
        refine ⟨_, w, rfl, a, xs, rfl, SqT.of (S.exB _ _ g2), hl, names_w S g3 e1 fun S1 => ?_⟩
        refine parts_w S1 h3 e2 fun ws => ?_
        have := k (xs ++ ws)
        rw [show tgPs (.t is :: ps) = is ++ tgPs ps from rfl, setV_app hl] at this
        exact this
      | _ => simp only [setParts] at e; cases e
/-- where a target stores -/
def tgs : Tg → List Nat
  | .nm i => [i]
  | .tp is => is
  | .tn ps => tgPs ps
theorem tg_w {tg : Tg} {d : D} {v : V} {Q : L2.St → Hp → Prop} (S : SRep K mg B F ad σ δ H) (r : Rp K mg B d v) (e : asgT δ tg d = some δ') (k : ∀ vs, SRep K mg B F ad (setV σ (tgs tg) vs) δ' H → Q (setV σ (tgs tg) vs) H) : gTg K tg v σ H Q := by
  cases tg with
  | nm i =>
    simp only [asgT] at e
    cases e
    exact k [v] (S.setS (d := .fz d) r)
  | tp is =>
    cases d with
    | tup ds =>
      simp only [asgT] at e
      obtain ⟨a, xs, rfl, h2, h3⟩ := r
      exact ⟨a, xs, rfl, SqT.of (S.exB _ _ h2), by rw [Rps.length h3, tup_len e], names_w S h3 e (k xs)⟩
    | _ => simp only [asgT] at e; cases e
  | tn ps =>
    cases d with
    | tup ds =>
      simp only [asgT] at e
      obtain ⟨a, xs, rfl, h2, h3⟩ := r
      exact ⟨a, xs, rfl, SqT.of (S.exB _ _ h2), by rw [Rps.length h3, parts_len e], parts_w S h3 e k⟩
    | _ => simp only [asgT] at e; cases e
theorem setV_nil (σ : L2.St) : ∀ is : List Nat, setV σ is [] = σ
  | [] => rfl
  | _ :: _ => rfl
theorem wipe_set {σ : L2.St} {vs : List Nat} {i : Nat} {x : V} (h : i ∈ vs) : wipe (σ.set i (some x)) vs = wipe σ vs := by
  induction vs with
  | nil => cases h
  | cons v vs ih =>
    unfold wipe
    by_cases hv : i ∈ vs
    · rw [ih hv]
    · have hi : i = v := by
        rcases List.mem_cons.mp h with z | z
        · exact z
        · exact absurd z hv
      subst hi
      clear ih h
      have key : ∀ (vs : List Nat) (σ : L2.St), i ∉ vs → wipe (σ.set i (some x)) vs = (wipe σ vs).set i (some x) := by
        intro vs
        induction vs with
        | nil => intro σ _; rfl
        | cons w vs ih =>
          intro σ hw
          unfold wipe
          rw [ih σ fun z => hw (List.mem_cons_of_mem _ z), List.set_comm _ _ (fun z => hw (by rw [z]; exact List.mem_cons_self))]
      rw [key vs σ hv, List.set_set]
theorem wipe_setV {vs : List Nat} : ∀ {is : List Nat} {xs : List V} {σ : L2.St}, (∀ i ∈ is, i ∈ vs) → wipe (setV σ is xs) vs = wipe σ vs
  | [], _, _, _ => rfl
  | i :: is, [], _, _ => rfl
  | i :: is, x :: xs, σ, h => by
    show wipe (setV (σ.set i (some x)) is xs) vs = _
    rw [wipe_setV (σ := σ.set i (some x)) fun j hj => h j (List.mem_cons_of_mem _ hj), wipe_set (h i List.mem_cons_self)]
theorem wipe_wipe {σ : L2.St} (vs : List Nat) : wipe (wipe σ vs) vs = wipe σ vs := by
  have key : ∀ (ws : List Nat) (τ : L2.St), (∀ i ∈ ws, ∀ x, τ[i]? = some x → x = none) → wipe τ ws = τ := by
    intro ws
    induction ws with
    | nil => intro τ _; rfl
    | cons w ws ih =>
      intro τ h
      unfold wipe
      rw [ih τ fun i hi => h i (List.mem_cons_of_mem _ hi)]
      cases e : τ[w]? with
      | none => exact List.set_eq_of_length_le (List.getElem?_eq_none_iff.mp e)
      | some x =>
        have hx := h w List.mem_cons_self x e
        subst hx
        obtain ⟨hl, hw⟩ := List.getElem?_eq_some_iff.mp e
        rw [← hw, List.set_getElem_self]
  apply key
  intro i hi x hx
  have : ∀ (ws : List Nat), i ∈ ws → ∀ x, (wipe σ ws)[i]? = some x → x = none := by
    intro ws
    induction ws with
    | nil => intro h; cases h
    | cons w ws ih =>
      intro h x hx
      unfold wipe at hx
      by_cases hw : w = i
      · subst hw
        obtain ⟨hl, _⟩ := List.getElem?_eq_some_iff.mp hx
        rw [List.getElem?_set_self (by simpa using hl)] at hx
        exact (Option.some.inj hx).symm
      · rw [List.getElem?_set_ne hw] at hx
        rcases List.mem_cons.mp h with z | z
        · exact absurd z.symm hw
        · exact ih z x hx
  exact this vs hi x hx
def wipeD (sl : List (Option Vl)) : List Nat → List (Option Vl)
  | [] => sl
  | v :: vs => (wipeD sl vs).set v none
theorem SRep.wiped (S : SRep K mg B F ad σ δ H) : ∀ vs : List Nat, SRep K mg B F ad (wipe σ vs) { δ with sl := wipeD δ.sl vs } H
  | [] => S
  | v :: vs => (S.wiped vs).dropS (i := v) (x := none)
/-- the slots of before over the objects of now -/
theorem SRep.reslot {B0 F0 : Hp} {ad0 : List Addr} {δ0 : Dl} {H0 : Hp} {σ' : L2.St} (S0 : SRep K mg B0 F0 ad0 σ δ0 H0) (s : Same B0 B) (p : Pre ad0 ad) (S : SRep K mg B F ad σ' δ H) : SRep K mg B F ad σ { δ with sl := δ0.sl } H :=
  ⟨S.exB, S.exF, S.dis, S.nd, S.len, S0.slen, S.cell, S.dead, fun i d e => by
    obtain ⟨v, h1, h2⟩ := S0.slot i d e
    exact ⟨v, h1, h2.mono s p⟩⟩
end

/-! ### what a loop walks -/
def CkOk (ck : List (Nat × List D)) (δ : Dl) : Prop := ∀ p ∈ ck, δ.st[p.1]? = some (some p.2)
abbrev IF := Dl → Option (List D × List (Nat × List D) × Dl)
def iD (K : PySem.W.Frag) (mg : Str → Option Value) (f : IF) : TI := fun σ H R => ∃ B F ad δ it ck δ', SRep K mg B F ad σ δ H ∧ f δ = some (it, ck, δ') ∧ CkOk ck δ' ∧
  ∀ B' ad' H' J G Y, Same B B' → Pre ad ad' → SRep K mg B' F ad' σ δ' H' → Walk J it.length G Y →
    (∀ B2 F2 ad2 σ2 δ2 H2, Same B' B2 → Pre ad' ad2 → SRep K mg B2 F2 ad2 σ2 δ2 H2 → CkOk ck δ2 → G H2) →
    (∀ i x B1 F1 ad1 σ1 δ1 H1 H2, Same B' B1 → Pre ad' ad1 → SRep K mg B1 F1 ad1 σ1 δ1 H1 → CkOk ck δ1 → i < it.length → Y i H1 x H2 → ∃ B2, Same B1 B2 ∧ SRep K mg B2 F1 ad1 σ1 δ1 H2 ∧ ∃ d, it[i]? = some d ∧ Rp K mg B2 d x) → R J H'
abbrev PDI (X : Cx) (tg iter : Expr) (f : IF) := PI X tg iter (iD X.K X.mg f)
theorem PI.weak {X : Cx} {tg iter : Expr} {t t' : TI} (h : PI X tg iter t) (w : ∀ σ H R, t' σ H R → t σ H R) : PI X tg iter t' := ⟨fun pins s σ H R I q => h.run pins s σ H R I (w σ H R q)⟩

open Classical in
noncomputable def forD (ck : List (Nat × List D)) (tg : Tg) (body : SF) : List D → Dl → Option (Fl × Dl)
  | [], δ => if CkOk ck δ then some (.nx, δ) else none
  | d :: ds, δ => if CkOk ck δ then (asgT δ tg d).bind fun δ1 => (body δ1).bind fun p => match p.1 with
      | .nx => forD ck tg body ds p.2
      | .ct => forD ck tg body ds p.2
      | .bk => some (.nx, p.2)
      | .rt r => some (.rt r, p.2)
    else none
noncomputable def sFor (fi : IF) (tg : Tg) (body : SF) : SF := fun δ => (fi δ).bind fun p => forD p.2.1 tg body p.1 p.2.2
section
variable {X : Cx} {tgE iter : Expr} {body : List Stmt} {fi : IF} {g : SF} {pos : Pos}
theorem forD_ck {ck : List (Nat × List D)} {tg : Tg} {body : SF} {ds : List D} {δ : Dl} {r : Fl × Dl} (h : forD ck tg body ds δ = some r) : CkOk ck δ := by
  cases ds with
  | nil =>
    rw [forD] at h
    split at h
    · assumption
    · cases h
  | cons d ds =>
    rw [forD] at h
    split at h
    · assumption
    · cases h
theorem pds_for (tg : Tg) (hi : PDI X tgE iter fi) (hg : PG X tgE (gTg X.K tg)) (hb : PDSs X body g) (hp : PassesOwn (model X.prog X.w) X.A X.env X.xe) (hc : X.calm = true)
    (hs : ∀ x, foldedSetIterable iter X.env x = pure x := by intro _; rfl) : PDS X (.For tgE iter body [] pos) (sFor fi tg g) := PS.weak (ps_for hp hc hi hg hb hs) fun D σ H h => by
  obtain ⟨B, F, ad, δ, r, δ', S, e, k⟩ := h
  unfold sFor at e
  obtain ⟨⟨it, ck, δ1⟩, e1, e⟩ := Option.bind_eq_some_iff.mp e
  refine ⟨B, F, ad, δ, it, ck, δ1, S, e1, forD_ck e, fun B1 ad1 H1 J G Y s1 p1 S1 W hG hY => ?_⟩
  refine for_it W (fun i σ' H' => ∃ B2 ad2 δ2, Same B1 B2 ∧ Pre ad1 ad2 ∧ SRep X.K X.mg B2 F ad2 σ' δ2 H' ∧ forD ck tg g (it.drop i) δ2 = some (r, δ')) ⟨B1, ad1, δ1, Same.refl _, Pre.refl _, S1, e⟩ ?_ ?_ ?_
  · rintro i σ' H' hi ⟨B2, ad2, δ2, s2, p2, S2, e2⟩
    exact hG B2 F ad2 σ' δ2 H' s2 p2 S2 (forD_ck e2)
  · rintro i x σ' H2 H3 hi ⟨B2, ad2, δ2, s2, p2, S2, e2⟩ hy
    obtain ⟨B3, s3, S3, d, hd, rd⟩ := hY i x B2 F ad2 σ' δ2 H2 H3 s2 p2 S2 (forD_ck e2) hi hy
    have hdr : it.drop i = d :: it.drop (i + 1) := by
      obtain ⟨hl, he⟩ := List.getElem?_eq_some_iff.mp hd
      rw [List.drop_eq_getElem_cons hl, he]
    have hck := forD_ck e2
    rw [hdr, forD, if_pos hck] at e2
    obtain ⟨δ3, e3, e2⟩ := Option.bind_eq_some_iff.mp e2
    obtain ⟨⟨fl, δ4⟩, e4, e2⟩ := Option.bind_eq_some_iff.mp e2
    refine tg_w S3 rd e3 fun vs S4 => ?_
    refine ⟨B3, F, ad2, δ3, fl, δ4, S4, e4, fun B5 ad5 σ5 H5 s5 p5 S5 => ?_⟩
    cases fl with
    | nx => exact ⟨B5, ad5, δ4, (s2.trans s3).trans s5, p2.trans p5, S5, e2⟩
    | ct => exact ⟨B5, ad5, δ4, (s2.trans s3).trans s5, p2.trans p5, S5, e2⟩
    | bk =>
      cases e2
      exact k B5 ad5 σ5 H5 (((s1.trans s2).trans s3).trans s5) ((p1.trans p2).trans p5) S5
    | rt v =>
      cases e2
      exact k B5 ad5 σ5 H5 (((s1.trans s2).trans s3).trans s5) ((p1.trans p2).trans p5) S5
  · rintro σ' H' ⟨B2, ad2, δ2, s2, p2, S2, e2⟩
    have hck := forD_ck e2
    rw [List.drop_length, forD, if_pos hck] at e2
    cases e2
    exact k B2 ad2 σ' H' (s1.trans s2) (p1.trans p2) S2

/-! the things that are walked -/
def srcOf (δ : Dl) : Vl → Option (List D × List (Nat × List D))
  | .fz (.lst ds) => some (ds, [])
  | .rf k => match δ.st[k]? with
    | some (some ds) => some (ds, [(k, ds)])
    | _ => none
  | _ => none
def iLst (f : EF) : IF := fun δ => (f δ).bind fun p => (srcOf p.2 p.1).map fun q => (q.1, q.2, p.2)
def iTupD (f : EF) : IF := fun δ => (f δ).bind fun p => match p.1 with
  | .fz (.tup ds) => some (ds, [], p.2)
  | _ => none
theorem src_ck {δ : Dl} {r : Vl} {it : List D} {ck : List (Nat × List D)} (h : srcOf δ r = some (it, ck)) : CkOk ck δ := by
  cases r with
  | fz d =>
    cases d <;> simp only [srcOf] at h <;> cases h
    intro p hp
    cases hp
  | rf k =>
    simp only [srcOf] at h
    split at h
    · rename_i ds hk
      cases h
      intro p hp
      have : p = (k, it) := by simpa using hp
      subst this
      exact hk
    · cases h
/-- a list that is walked stays as long as the check holds -/
theorem src_at {K : PySem.W.Frag} {mg : Str → Option Value} {B F : Hp} {ad : List Addr} {σ : L2.St} {δ : Dl} {H : Hp} {r : Vl} {v : V} {it : List D} {ck : List (Nat × List D)} (S : SRep K mg B F ad σ δ H) (hv : RpV K mg B ad r v) (h : srcOf δ r = some (it, ck)) :
    ∃ a xs, v = .ref a ∧ H a = some (.lst xs) ∧ Rps K mg B it xs ∧ xs.length = it.length ∧
      ∀ B2 F2 ad2 σ2 δ2 H2, Same B B2 → Pre ad ad2 → SRep K mg B2 F2 ad2 σ2 δ2 H2 → CkOk ck δ2 → ∃ ys, H2 a = some (.lst ys) ∧ Rps K mg B2 it ys := by
  cases r with
  | fz d =>
    cases d <;> simp only [srcOf] at h <;> cases h
    obtain ⟨a, xs, h1, h2, h3⟩ := hv
    exact ⟨a, xs, h1, S.exB _ _ h2, h3, Rps.length h3, fun B2 F2 ad2 σ2 δ2 H2 s2 p2 S2 _ => ⟨xs, S2.exB _ _ (s2 _ _ h2), Rps.mono s2 _ _ h3⟩⟩
  | rf k =>
    simp only [srcOf] at h
    split at h
    · rename_i ds hk
      cases h
      obtain ⟨a, h1, h2⟩ := hv
      obtain ⟨q, xs, g1, g2, g3, _, _⟩ := S.cell k _ hk
      rw [h2] at g1
      cases g1
      refine ⟨a, xs, h1, g2, g3, Rps.length g3, fun B2 F2 ad2 σ2 δ2 H2 s2 p2 S2 c => ?_⟩
      obtain ⟨q, ys, k1, k2, k3, _, _⟩ := S2.cell k _ (c (k, it) (by simp))
      rw [p2.get h2] at k1
      cases k1
      exact ⟨ys, k2, k3⟩
    · cases h
theorem at_rps {K : PySem.W.Frag} {mg : Str → Option Value} {B : Hp} {ds : List D} {xs : List V} {i : Nat} {x : V} (h : Rps K mg B ds xs) (e : xs[i]? = some x) : ∃ d, ds[i]? = some d ∧ Rp K mg B d x := Rps.back h e
/-- a walk whose list may have other values of the same data -/
theorem Walk.any {J : It} {n : Nat} {A : Hp → List V → Prop} {P : List V → Nat → Hp → V → Hp → Prop} (h : ∀ xs, xs.length = n → Walk J n (fun H => A H xs) (P xs)) : Walk J n (fun H => ∃ xs, xs.length = n ∧ A H xs) (fun i H x H' => ∃ xs, xs.length = n ∧ A H xs ∧ P xs i H x H') :=
  ⟨fun i H hi ⟨xs, hl, q⟩ => (h xs hl).goes i H hi q, fun H ⟨xs, hl, q⟩ => (h xs hl).stops H q, fun i H x H' hi ⟨xs, hl, q⟩ y => ⟨xs, hl, q, (h xs hl).yields i H x H' hi q y⟩⟩
theorem pdi_lst {f : EF} (h : PD X iter f) : PDI X tgE iter (iLst f) := PI.weak (pi_list h) fun σ H R h => by
  obtain ⟨B, F, ad, δ, it, ck, δ', S, e, hck, k⟩ := h
  unfold iLst at e
  obtain ⟨⟨r, δ1⟩, e1, e⟩ := Option.bind_eq_some_iff.mp e
  obtain ⟨⟨it', ck'⟩, e2, e⟩ := Option.map_eq_some_iff.mp e
  cases e
  refine ⟨B, F, ad, δ, r, _, S, e1, fun B1 ad1 v H1 s1 p1 S1 r1 => ?_⟩
  obtain ⟨a, xs, h1, h2, h3, hl, h4⟩ := src_at S1 r1 e2
  refine ⟨a, h1, ⟨xs, SqL.of h2⟩, ?_⟩
  refine k B1 ad1 H1 (Itl X.K a) (fun H => ∃ ys, ys.length = it'.length ∧ H a = some (.lst ys)) (fun i H x H' => ∃ ys, ys.length = it'.length ∧ H a = some (.lst ys) ∧ YAt ys i H x H') s1 p1 S1 (Walk.any fun ys hy => ?_) ?_ ?_
  · rw [← hy]
    exact (walk_list (K := X.K)).mono (fun H q => SqL.of q) fun _ _ _ _ _ _ y => y
  · intro B2 F2 ad2 σ2 δ2 H2 s2 p2 S2 c
    obtain ⟨ys, q1, q2⟩ := h4 B2 F2 ad2 σ2 δ2 H2 s2 p2 S2 c
    exact ⟨ys, Rps.length q2, q1⟩
  · rintro i x B2 F2 ad2 σ2 δ2 H2 H3 s2 p2 S2 c hi ⟨ys, hy1, hy2, rfl, hx⟩
    obtain ⟨zs, q1, q2⟩ := h4 B2 F2 ad2 σ2 δ2 H3 s2 p2 S2 c
    rw [q1] at hy2
    cases hy2
    obtain ⟨d, d1, d2⟩ := Rps.back q2 hx
    exact ⟨B2, Same.refl _, S2, d, d1, d2⟩
theorem pdi_tup {f : EF} (h : PD X iter f) : PDI X tgE iter (iTupD f) := PI.weak (pi_tup h) fun σ H R h => by
  obtain ⟨B, F, ad, δ, it, ck, δ', S, e, hck, k⟩ := h
  unfold iTupD at e
  obtain ⟨⟨r, δ1⟩, e1, e⟩ := Option.bind_eq_some_iff.mp e
  refine ⟨B, F, ad, δ, r, δ1, S, e1, fun B1 ad1 v H1 s1 p1 S1 r1 => ?_⟩
  cases r with
  | rf k => cases e
  | fz d =>
    cases d with
    | tup ds =>
      cases e
      obtain ⟨a, xs, h1, h2, h3⟩ := r1
      have hl := Rps.length h3
      refine ⟨a, h1, ⟨xs, SqT.of (S1.exB _ _ h2)⟩, ?_⟩
      refine k B1 ad1 H1 (Itt X.K a) (fun H => SqT X.K H a xs) (YAt xs) s1 p1 S1 (by rw [← hl]; exact walk_tup) ?_ ?_
      · intro B2 F2 ad2 σ2 δ2 H2 s2 p2 S2 c
        exact SqT.of (S2.exB _ _ (s2 _ _ h2))
      · rintro i x B2 F2 ad2 σ2 δ2 H2 H3 s2 p2 S2 c hi ⟨rfl, hx⟩
        obtain ⟨d, d1, d2⟩ := Rps.back h3 hx
        exact ⟨B2, Same.refl _, S2, d, d1, Rp.mono s2 d x d2⟩
    | _ => cases e
def rangeD (lo : Int) (n : Nat) : List D := (List.range n).map fun (i : Nat) => D.int (lo + (i : Int))
def okR (i : Int) : Prop := -(2 ^ 62) ≤ i ∧ i < 2 ^ 62
instance (i : Int) : Decidable (okR i) := by unfold okR; infer_instance
def iRg1 (f : EF) : IF := fun δ => (f δ).bind fun p => match p.1 with
  | .fz (.int n) => if okR n then some (rangeD 0 n.toNat, [], p.2) else none
  | _ => none
def iRg2 (f g : EF) : IF := fun δ => (f δ).bind fun p => (g p.2).bind fun q => match p.1, q.1 with
  | .fz (.int i), .fz (.int j) => if okR i ∧ okR j then some (rangeD i (j - i).toNat, [], q.2) else none
  | _, _ => none
theorem rangeD_len (lo : Int) (n : Nat) : (rangeD lo n).length = n := by simp [rangeD]
theorem rangeD_get {lo : Int} {n i : Nat} (h : i < n) : (rangeD lo n)[i]? = some (.int (lo + (i : Int))) := by
  unfold rangeD
  rw [List.getElem?_map, List.getElem?_range h]
  rfl
theorem range_k {K : PySem.W.Frag} {mg : Str → Option Value} {B F : Hp} {ad : List Addr} {σ : L2.St} {δ : Dl} {H : Hp} {lo : Int} {n : Nat} {R : It → Hp → Prop} (S : SRep K mg B F ad σ δ H)
    (k : ∀ B' ad' H' J G Y, Same B B' → Pre ad ad' → SRep K mg B' F ad' σ δ H' → Walk J (rangeD lo n).length G Y →
    (∀ B2 F2 ad2 σ2 δ2 H2, Same B' B2 → Pre ad' ad2 → SRep K mg B2 F2 ad2 σ2 δ2 H2 → CkOk [] δ2 → G H2) →
    (∀ i x B1 F1 ad1 σ1 δ1 H1 H2, Same B' B1 → Pre ad' ad1 → SRep K mg B1 F1 ad1 σ1 δ1 H1 → CkOk [] δ1 → i < (rangeD lo n).length → Y i H1 x H2 → ∃ B2, Same B1 B2 ∧ SRep K mg B2 F1 ad1 σ1 δ1 H2 ∧ ∃ d, (rangeD lo n)[i]? = some d ∧ Rp K mg B2 d x) → R J H') : R (Itr lo n) H := by
  refine k B ad H (Itr lo n) (fun _ => True) (YFn fun i => .int (lo + i)) (Same.refl _) (Pre.refl _) S (by rw [rangeD_len]; exact walk_range) (fun _ _ _ _ _ _ _ _ _ _ => trivial) ?_
  rintro i x B2 F2 ad2 σ2 δ2 H2 H3 s2 p2 S2 c hi ⟨rfl, rfl⟩
  rw [rangeD_len] at hi
  exact ⟨B2, Same.refl _, S2, _, rangeD_get hi, rfl⟩
theorem pdi_rg1 {a : Expr} {f : EF} {p : Pos} (hg : Gl X "range") (hm : X.mg "range" = none) (ha : PD X a f) (hs : starEach [a] X.env = [(false, eval a X.env)] := by rfl) : PDI X tgE (.Call (.Name "range" p) [a] [] pos) (iRg1 f) :=
  PI.weak (pi_range1 hg hm (pa_cons ha pa_nil hs) hs) fun σ H R h => by
  obtain ⟨B, F, ad, δ, it, ck, δ', S, e, hck, k⟩ := h
  unfold iRg1 at e
  obtain ⟨⟨r, δ1⟩, e1, e⟩ := Option.bind_eq_some_iff.mp e
  refine ⟨B, F, ad, δ, r, δ1, S, e1, fun B1 ad1 v H1 s1 p1 S1 r1 => ?_⟩
  cases r with
  | rf k => cases e
  | fz d =>
    cases d with
    | int n =>
      simp only at e
      split at e
      · rename_i ok
        cases e
        have r1' : v = .int n := r1
        subst r1'
        exact ⟨n, rfl, ok.1, ok.2, range_k S1 fun B' ad' H' J G Y s2 p2 => k B' ad' H' J G Y (s1.trans s2) (p1.trans p2)⟩
      · cases e
    | _ => cases e
theorem pdi_rg2 {a b : Expr} {f g : EF} {p : Pos} (hg : Gl X "range") (hm : X.mg "range" = none) (ha : PD X a f) (hb : PD X b g) (hs : starEach [a, b] X.env = [(false, eval a X.env), (false, eval b X.env)] := by rfl) (hs2 : starEach [b] X.env = [(false, eval b X.env)] := by rfl)
    (hs3 : starEach [a, b] X.env = (false, eval a X.env) :: starEach [b] X.env := by rfl) : PDI X tgE (.Call (.Name "range" p) [a, b] [] pos) (iRg2 f g) :=
  PI.weak (pi_range2 hg hm (pa_cons ha (pa_cons hb pa_nil hs2) hs3) hs hs2) fun σ H R h => by
  obtain ⟨B, F, ad, δ, it, ck, δ', S, e, hck, k⟩ := h
  unfold iRg2 at e
  obtain ⟨⟨r, δ1⟩, e1, e⟩ := Option.bind_eq_some_iff.mp e
  obtain ⟨⟨q, δ2⟩, e2, e⟩ := Option.bind_eq_some_iff.mp e
  refine ⟨B, F, ad, δ, r, δ1, S, e1, fun B1 ad1 v H1 s1 p1 S1 r1 => ?_⟩
  refine ⟨B1, F, ad1, δ1, q, δ2, S1, e2, fun B2 ad2 w H2 s2 p2 S2 r2 => ?_⟩
  simp only at e
  split at e
  · rename_i i j _e
    split at e
    · rename_i ok
      cases e
      have r1' : v = .int i := r1
      have r2' : w = .int j := r2
      subst r1' r2'
      exact ⟨i, j, rfl, ⟨ok.1.1, ok.1.2, ok.2.1, ok.2.2⟩, range_k S2 fun B' ad' H' J G Y s3 p3 => k B' ad' H' J G Y ((s1.trans s2).trans s3) ((p1.trans p2).trans p3)⟩
    · cases e
  · cases e
end
end PK

namespace PK
open PySem L2

/-! ### zip, enumerate, reversed -/
def zipD : List D → List D → List D
  | x :: xs, y :: ys => .tup [x, y] :: zipD xs ys
  | _, _ => []
theorem zipD_len : ∀ (xs ys : List D), (zipD xs ys).length = min xs.length ys.length
  | [], ys => by simp [zipD]
  | _ :: _, [] => by simp [zipD]
  | x :: xs, y :: ys => by
    simp only [zipD, List.length_cons, zipD_len xs ys]
    omega
theorem zipD_get : ∀ {xs ys : List D} {i : Nat} {x y : D}, xs[i]? = some x → ys[i]? = some y → (zipD xs ys)[i]? = some (.tup [x, y])
  | [], ys, i, x, y, h, g => by simp at h
  | _ :: _, [], i, x, y, h, g => by simp at g
  | a :: xs, b :: ys, 0, x, y, h, g => by
    simp at h g
    subst h g
    rfl
  | a :: xs, b :: ys, i + 1, x, y, h, g => by
    have := zipD_get (xs := xs) (ys := ys) (i := i) (x := x) (y := y) (by simpa using h) (by simpa using g)
    simpa [zipD] using this
def iZipD (f g : EF) : IF := fun δ => (f δ).bind fun p => (g p.2).bind fun q => match p.1, q.1 with
  | .fz (.tup xs), .fz (.tup ys) => some (zipD xs ys, [], q.2)
  | a, b => match srcOf q.2 a, srcOf q.2 b with
    | some (xs, c), some (ys, d) => some (zipD xs ys, c ++ d, q.2)
    | _, _ => none
theorem ck_app {c d : List (Nat × List D)} {δ : Dl} (h : CkOk (c ++ d) δ) : CkOk c δ ∧ CkOk d δ := ⟨fun p hp => h p (List.mem_append_left _ hp), fun p hp => h p (List.mem_append_right _ hp)⟩
/-- a new pair of two data -/
theorem pair_new {K : PySem.W.Frag} {mg : Str → Option Value} {B F : Hp} {ad : List Addr} {σ : L2.St} {δ : Dl} {H : Hp} {T : Addr} {x y : V} {a b : D} (S : SRep K mg B F ad σ δ H) (hT : H T = none) (h1 : Rp K mg B a x) (h2 : Rp K mg B b y) :
    ∃ B2, Same B B2 ∧ SRep K mg B2 F ad σ δ (upd H T (.tup [x, y])) ∧ Rp K mg B2 (.tup [a, b]) (.ref T) := by
  have s1 : Same B (upd B T (.tup [x, y])) := same_new (S.exB.free hT)
  exact ⟨_, s1, S.alloc hT, T, [x, y], rfl, upd_same, x, [y], rfl, Rp.mono s1 _ _ h1, y, [], rfl, Rp.mono s1 _ _ h2, rfl⟩
section
variable {X : Cx} {tgE iter : Expr} {fi : IF} {pos : Pos}
theorem walk_zipT {K : PySem.W.Frag} {a b : Addr} {xs ys : List V} {n : Nat} (hn : n = min xs.length ys.length) : Walk (RZ.ItzT K a b) n (fun H => SqT K H a xs ∧ SqT K H b ys) (YPair (fun i => xs[i]?) (fun i => ys[i]?)) := by
  subst hn
  refine ⟨fun i _ hi q => ?_, fun _ q => ⟨xs, ys, q.1, q.2, by omega⟩, fun i H v H' _ q y => ?_⟩
  · have h1 : i < xs.length := by omega
    have h2 : i < ys.length := by omega
    exact ⟨xs, ys, xs[i], ys[i], q.1, q.2, by simp [h1], by simp [h2]⟩
  · obtain ⟨T, x, z, h1, h2, h3, h4, h5⟩ := y
    exact ⟨T, x, z, h1, h2, h3, h4 xs q.1, h5 ys q.2⟩
theorem pdi_zip {e e2 : Expr} {f g : EF} {p tpos : Pos} {elts : List Expr} {kk : Nat} (hg : Gl X "zip") (hm : X.mg "zip" = none) (ha : PD X e f) (hb : PD X e2 g)
    (hs : starEach [e, e2] X.env = (false, eval e X.env) :: starEach [e2] X.env := by rfl) (hs2 : starEach [e2] X.env = (false, eval e2 X.env) :: starEach [] X.env := by rfl) (hpl : (backTo pos (starEach [e2] X.env)).any (·.1) = false := by rfl) :
    PDI X (.Tuple elts kk tpos) (.Call (.Name "zip" p) [e, e2] [] pos) (iZipD f g) := PI.weak (RZ.pi_zipA hg hm (pa_cons ha (pa_cons hb pa_nil hs2) hs) hs hpl) fun σ H R h => by
  obtain ⟨B, F, ad, δ, it, ck, δ', S, e, hck, k⟩ := h
  unfold iZipD at e
  obtain ⟨⟨r, δ1⟩, e1, e⟩ := Option.bind_eq_some_iff.mp e
  obtain ⟨⟨q, δ2⟩, e2, e⟩ := Option.bind_eq_some_iff.mp e
  refine ⟨B, F, ad, δ, r, δ1, S, e1, fun B1 ad1 v H1 s1 p1 S1 r1 => ?_⟩
  refine ⟨B1, F, ad1, δ1, q, δ2, S1, e2, fun B2 ad2 w H2 s2 p2 S2 r2 => ?_⟩
  have r1' := r1.mono s2 p2
  simp only at e
  split at e
  · rename_i xs ys
    cases e
    obtain ⟨a, as, h1, h2, h3⟩ := r1'
    obtain ⟨b, bs, g1, g2, g3⟩ := r2
    subst h1 g1
    refine ⟨a, b, as, bs, rfl, .inr ⟨SqT.of (S2.exB _ _ h2), SqT.of (S2.exB _ _ g2), ?_⟩⟩
    refine k B2 ad2 H2 (RZ.ItzT X.K a b) (fun H => SqT X.K H a as ∧ SqT X.K H b bs) _ (s1.trans s2) (p1.trans p2) S2 (walk_zipT (by rw [zipD_len, Rps.length h3, Rps.length g3])) ?_ ?_
    · intro B3 F3 ad3 σ3 δ3 H3 s3 p3 S3 c
      exact ⟨SqT.of (S3.exB _ _ (s3 _ _ h2)), SqT.of (S3.exB _ _ (s3 _ _ g2))⟩
    · rintro i x B3 F3 ad3 σ3 δ3 H3 H4 s3 p3 S3 c hi ⟨T, y, z, rfl, hT, rfl, hy, hz⟩
      obtain ⟨d, d1, d2⟩ := Rps.back h3 hy
      obtain ⟨d', d3, d4⟩ := Rps.back g3 hz
      obtain ⟨B4, s4, S4, r4⟩ := pair_new S3 hT (Rp.mono s3 _ _ d2) (Rp.mono s3 _ _ d4)
      exact ⟨B4, s4, S4, _, zipD_get d1 d3, r4⟩
  · split at e
    · rename_i xs c ys d e3 e4
      cases e
      obtain ⟨a, as, h1, h2, h3, h4, h5⟩ := src_at S2 r1' e3
      obtain ⟨b, bs, g1, g2, g3, g4, g5⟩ := src_at S2 r2 e4
      subst h1 g1
      refine ⟨a, b, as, bs, rfl, .inl ⟨SqL.of h2, SqL.of g2, ?_⟩⟩
      refine k B2 ad2 H2 (Itz X.K a b) (fun H => ∃ as bs, (as.length = xs.length ∧ bs.length = ys.length) ∧ H a = some (.lst as) ∧ H b = some (.lst bs)) (fun i H v H' => ∃ as bs, (as.length = xs.length ∧ bs.length = ys.length) ∧ (H a = some (.lst as) ∧ H b = some (.lst bs)) ∧ YPair (fun i => as[i]?) (fun i => bs[i]?) i H v H') (s1.trans s2) (p1.trans p2) S2 ?_ ?_ ?_
      · have hw : ∀ as bs : List V, as.length = xs.length ∧ bs.length = ys.length → Walk (Itz X.K a b) (zipD xs ys).length (fun H => H a = some (.lst as) ∧ H b = some (.lst bs)) (YPair (fun i => as[i]?) (fun i => bs[i]?)) := fun as bs hl =>
          (walk_zip (K := X.K) (a := a) (b := b) (xs := as) (ys := bs) (by rw [zipD_len, hl.1, hl.2])).mono (fun H q => ⟨SqL.of q.1, SqL.of q.2⟩) fun _ _ _ _ _ _ y => y
        exact ⟨fun i H hi ⟨as, bs, hl, q⟩ => (hw as bs hl).goes i H hi q, fun H ⟨as, bs, hl, q⟩ => (hw as bs hl).stops H q, fun i H x H' hi ⟨as, bs, hl, q⟩ y => ⟨as, bs, hl, q, (hw as bs hl).yields i H x H' hi q y⟩⟩
      · intro B3 F3 ad3 σ3 δ3 H3 s3 p3 S3 cc
        obtain ⟨as', q1, q2⟩ := h5 B3 F3 ad3 σ3 δ3 H3 s3 p3 S3 (ck_app cc).1
        obtain ⟨bs', q3, q4⟩ := g5 B3 F3 ad3 σ3 δ3 H3 s3 p3 S3 (ck_app cc).2
        exact ⟨as', bs', ⟨Rps.length q2, Rps.length q4⟩, q1, q3⟩
      · rintro i x B3 F3 ad3 σ3 δ3 H3 H4 s3 p3 S3 cc hi ⟨as1, bs1, hl, ⟨w1, w2⟩, T, y, z, rfl, hT, rfl, hy, hz⟩
        obtain ⟨as', q1, q2⟩ := h5 B3 F3 ad3 σ3 δ3 H3 s3 p3 S3 (ck_app cc).1
        obtain ⟨bs', q3, q4⟩ := g5 B3 F3 ad3 σ3 δ3 H3 s3 p3 S3 (ck_app cc).2
        rw [q1] at w1
        rw [q3] at w2
        cases w1; cases w2
        obtain ⟨d, d1, d2⟩ := Rps.back q2 hy
        obtain ⟨d', d3, d4⟩ := Rps.back q4 hz
        obtain ⟨B4, s4, S4, r4⟩ := pair_new S3 hT d2 d4
        exact ⟨B4, s4, S4, _, zipD_get d1 d3, r4⟩
    · cases e
def enumD : Nat → List D → List D
  | _, [] => []
  | n, x :: xs => .tup [.int (n : Int), x] :: enumD (n + 1) xs
theorem enumD_len : ∀ (n : Nat) (xs : List D), (enumD n xs).length = xs.length
  | _, [] => rfl
  | n, x :: xs => by simp [enumD, enumD_len (n + 1) xs]
theorem enumD_get : ∀ {n : Nat} {xs : List D} {i : Nat} {x : D}, xs[i]? = some x → (enumD n xs)[i]? = some (.tup [.int ((n + i : Nat) : Int), x])
  | n, [], i, x, h => by simp at h
  | n, a :: xs, 0, x, h => by
    simp at h
    subst h
    rfl
  | n, a :: xs, i + 1, x, h => by
    have := enumD_get (n := n + 1) (xs := xs) (i := i) (x := x) (by simpa using h)
    rw [show n + 1 + i = n + (i + 1) by omega] at this
    simpa [enumD] using this
def iEnumD (f : EF) : IF := fun δ => (f δ).bind fun p => (srcOf p.2 p.1).map fun q => (enumD 0 q.1, q.2, p.2)
theorem pdi_enum {e : Expr} {f : EF} {p tpos : Pos} {elts : List Expr} {kk : Nat} (hg : Gl X "enumerate") (hm : X.mg "enumerate" = none) (ha : PD X e f) (hs : starEach [e] X.env = [(false, eval e X.env)] := by rfl) :
    PDI X (.Tuple elts kk tpos) (.Call (.Name "enumerate" p) [e] [] pos) (iEnumD f) := PI.weak (pi_enum hg hm (pa_cons ha pa_nil hs) hs) fun σ H R h => by
  obtain ⟨B, F, ad, δ, it, ck, δ', S, e, hck, k⟩ := h
  unfold iEnumD at e
  obtain ⟨⟨r, δ1⟩, e1, e⟩ := Option.bind_eq_some_iff.mp e
  obtain ⟨⟨xs, ck'⟩, e2, e⟩ := Option.map_eq_some_iff.mp e
  cases e
  refine ⟨B, F, ad, δ, r, _, S, e1, fun B1 ad1 v H1 s1 p1 S1 r1 => ?_⟩
  obtain ⟨a, as, h1, h2, h3, hl, h4⟩ := src_at S1 r1 e2
  subst h1
  refine ⟨a, as, rfl, SqL.of h2, ?_⟩
  refine k B1 ad1 H1 (Ite X.K a) (fun H => ∃ ys, ys.length = (enumD 0 xs).length ∧ H a = some (.lst ys)) (fun i H x H' => ∃ ys, ys.length = (enumD 0 xs).length ∧ H a = some (.lst ys) ∧ YPair (fun i => some (.int (i : Nat))) (fun i => ys[i]?) i H x H') s1 p1 S1 (Walk.any fun ys hy => ?_) ?_ ?_
  · rw [← hy]
    exact (walk_enum (K := X.K)).mono (fun H q => SqL.of q) fun _ _ _ _ _ _ y => y
  · intro B2 F2 ad2 σ2 δ2 H2 s2 p2 S2 c
    obtain ⟨ys, q1, q2⟩ := h4 B2 F2 ad2 σ2 δ2 H2 s2 p2 S2 c
    exact ⟨ys, by rw [enumD_len]; exact Rps.length q2, q1⟩
  · rintro i x B2 F2 ad2 σ2 δ2 H2 H3 s2 p2 S2 c hi ⟨ys, hy1, hy2, T, y, z, rfl, hT, rfl, hy, hz⟩
    obtain ⟨zs, q1, q2⟩ := h4 B2 F2 ad2 σ2 δ2 H2 s2 p2 S2 c
    rw [q1] at hy2
    cases hy2
    cases hy
    obtain ⟨d, d1, d2⟩ := Rps.back q2 hz
    obtain ⟨B4, s4, S4, r4⟩ := pair_new S2 hT (a := .int (i : Nat)) (b := d) (x := .int (i : Nat)) rfl d2
    exact ⟨B4, s4, S4, _, by simpa using enumD_get (n := 0) d1, r4⟩
def iRevD (f : EF) : IF := fun δ => (f δ).bind fun p => (srcOf p.2 p.1).map fun q => (q.1.reverse, q.2, p.2)
theorem pdi_rev {e : Expr} {f : EF} {p : Pos} (hg : Gl X "reversed") (hm : X.mg "reversed" = none) (ha : PD X e f) (hs : starEach [e] X.env = [(false, eval e X.env)] := by rfl) :
    PDI X tgE (.Call (.Name "reversed" p) [e] [] pos) (iRevD f) := PI.weak (pi_reversed hg hm (pa_cons ha pa_nil hs) hs) fun σ H R h => by
  obtain ⟨B, F, ad, δ, it, ck, δ', S, e, hck, k⟩ := h
  unfold iRevD at e
  obtain ⟨⟨r, δ1⟩, e1, e⟩ := Option.bind_eq_some_iff.mp e
  obtain ⟨⟨xs, ck'⟩, e2, e⟩ := Option.map_eq_some_iff.mp e
  cases e
  refine ⟨B, F, ad, δ, r, _, S, e1, fun B1 ad1 v H1 s1 p1 S1 r1 => ?_⟩
  obtain ⟨a, as, h1, h2, h3, hl, h4⟩ := src_at S1 r1 e2
  subst h1
  refine ⟨a, as, rfl, SqL.of h2, ?_⟩
  rw [hl]
  refine k B1 ad1 H1 (Itv X.K a xs.length) (fun H => ∃ ys, ys.length = xs.reverse.length ∧ H a = some (.lst ys)) (fun i H x H' => ∃ ys, ys.length = xs.reverse.length ∧ H a = some (.lst ys) ∧ H' = H ∧ ys[ys.length - 1 - i]? = some x) s1 p1 S1 (Walk.any fun ys hy => ?_) ?_ ?_
  · rw [← hy, show xs.length = ys.length by rw [hy]; simp]
    exact (walk_rev (K := X.K)).mono (fun H q => SqL.of q) fun _ _ _ _ _ _ y => y
  · intro B2 F2 ad2 σ2 δ2 H2 s2 p2 S2 c
    obtain ⟨ys, q1, q2⟩ := h4 B2 F2 ad2 σ2 δ2 H2 s2 p2 S2 c
    exact ⟨ys, by rw [List.length_reverse]; exact Rps.length q2, q1⟩
  · rintro i x B2 F2 ad2 σ2 δ2 H2 H3 s2 p2 S2 c hi ⟨ys, hy1, hy2, rfl, hz⟩
    obtain ⟨zs, q1, q2⟩ := h4 B2 F2 ad2 σ2 δ2 H3 s2 p2 S2 c
    rw [q1] at hy2
    cases hy2
    obtain ⟨d, d1, d2⟩ := Rps.back q2 hz
    have hl2 := Rps.length q2
    refine ⟨B2, Same.refl _, S2, d, ?_, d2⟩
    have hi' : i < xs.length := by simpa using hi
    rw [List.getElem?_reverse hi', ← hl2]
    exact d1
end

/-! ### comprehensions -/
section
variable {K : PySem.W.Frag} {mg : Str → Option Value} {B B' F : Hp} {ad ad' : List Addr} {σ : L2.St} {δ δ' : Dl} {H H' : Hp} {p : Addr}
/-- a new object of nobody's: it stays as it is -/
theorem SRep.allocF {o : HO} (S : SRep K mg B F ad σ δ H) (h : H p = none) : SRep K mg B (upd F p o) ad σ δ (upd H p o) where
  exB := fun a u e => by rw [upd_ne (ne_of_none (S.exB a u e) h)]; exact S.exB a u e
  exF := fun a u e => by
    by_cases ha : a = p
    · subst ha
      rw [upd_same] at e ⊢
      exact e
    · rw [upd_ne ha] at e ⊢
      exact S.exF a u e
  dis := fun a u e => by
    by_cases ha : a = p
    · rw [ha]; exact S.exB.free h
    · rw [upd_ne ha] at e
      exact S.dis a u e
  nd := S.nd
  len := S.len
  slen := S.slen
  cell := fun k ds e => by
    obtain ⟨q, xs, h1, h2, h3, h4, h5⟩ := S.cell k ds e
    have hq : q ≠ p := ne_of_none h2 h
    exact ⟨q, xs, h1, by rw [upd_ne hq]; exact h2, h3, h4, by rw [upd_ne hq]; exact h5⟩
  dead := S.dead
  slot := S.slot
/-- .. until it is given another worth -/
theorem SRep.setF {o u : HO} (S : SRep K mg B (upd F p o) ad σ δ H) : SRep K mg B (upd F p u) ad σ δ (upd H p u) := by
  have hp : upd F p o p = some o := upd_same
  have hB : B p = none := S.dis p o hp
  have hH : H p = some o := S.exF p o hp
  refine ⟨fun a v e => ?_, fun a v e => ?_, fun a v e => ?_, S.nd, S.len, S.slen, fun k ds e => ?_, S.dead, S.slot⟩
  · have ha : a ≠ p := fun z => by rw [z, hB] at e; cases e
    rw [upd_ne ha]; exact S.exB a v e
  · by_cases ha : a = p
    · subst ha
      rw [upd_same] at e ⊢
      exact e
    · rw [upd_ne ha] at e ⊢
      exact S.exF a v (by rw [upd_ne ha]; exact e)
  · by_cases ha : a = p
    · rw [ha]; exact hB
    · rw [upd_ne ha] at e
      exact S.dis a v (by rw [upd_ne ha]; exact e)
  · obtain ⟨q, xs, h1, h2, h3, h4, h5⟩ := S.cell k ds e
    have hq : q ≠ p := fun z => by rw [z, upd_same] at h5; cases h5
    rw [upd_ne hq] at h5
    exact ⟨q, xs, h1, by rw [upd_ne hq]; exact h2, h3, h4, by rw [upd_ne hq]; exact h5⟩
/-- .. and taken over -/
theorem SRep.takeF {m : Bool} {ds : List D} {xs : List V} {Q : VK} (S : SRep K mg B (upd F p (.lst xs)) ad σ δ H) (hF : F p = none) (r : Rps K mg B ds xs)
    (k : ∀ B' ad' v H', Same B B' → Pre ad ad' → SRep K mg B' F ad' σ (PK.mk m ds δ).2 H' → RpV K mg B' ad' (PK.mk m ds δ).1 v → Q v H') : Q (.ref p) H := by
  have hp : upd F p (.lst xs) p = some (.lst xs) := upd_same
  have hB : B p = none := S.dis p _ hp
  have hH : H p = some (.lst xs) := S.exF p _ hp
  have fF : ∀ a o, F a = some o → upd F p (.lst xs) a = some o := fun a o e => by
    rw [upd_ne (ne_of_none e hF)]; exact e
  have hnc : p ∉ ad := fun z => by
    obtain ⟨k, hk⟩ := List.getElem?_of_mem z
    have hkl : k < δ.st.length := by rw [← S.len]; exact (List.getElem?_eq_some_iff.mp hk).1
    cases e : δ.st[k]? with
    | none => exact absurd (List.getElem?_eq_none_iff.mp e) (by omega)
    | some u =>
      cases u with
      | none => exact S.dead k p hk e hB
      | some ds =>
        obtain ⟨q, ys, h1, h2, h3, h4, h5⟩ := S.cell k ds e
        rw [hk] at h1
        cases h1
        rw [hp] at h5
        cases h5
  have cl : ∀ (k : Nat) (es : List D), δ.st[k]? = some (some es) → ∃ (q : Addr) (ys : List V), ad[k]? = some q ∧ H q = some (.lst ys) ∧ Rps K mg B es ys ∧ B q = none ∧ F q = none ∧ q ≠ p := fun k es e => by
    obtain ⟨q, ys, h1, h2, h3, h4, h5⟩ := S.cell k es e
    have hq : q ≠ p := fun z => by rw [z, hp] at h5; cases h5
    rw [upd_ne hq] at h5
    exact ⟨q, ys, h1, h2, h3, h4, h5, hq⟩
  cases m with
  | false =>
    have s1 : Same B (upd B p (.lst xs)) := same_new hB
    refine k _ ad (.ref p) H s1 (Pre.refl _) ⟨fun a u e => ?_, fun a u e => S.exF a u (fF a u e), fun a u e => ?_, S.nd, S.len, S.slen, fun k es e => ?_, fun k q h1 h2 => ?_, fun i d e => ?_⟩ ⟨p, xs, rfl, upd_same, Rps.mono s1 ds xs r⟩
    · by_cases ha : a = p
      · subst ha
        rw [upd_same] at e
        cases e
        exact hH
      · rw [upd_ne ha] at e
        exact S.exB a u e
    · rw [upd_ne (ne_of_none e hF)]; exact S.dis a u (fF a u e)
    · obtain ⟨q, ys, h1, h2, h3, h4, h5, hq⟩ := cl k es e
      exact ⟨q, ys, h1, h2, Rps.mono s1 es ys h3, by rw [upd_ne hq]; exact h4, h5⟩
    · have := S.dead k q h1 h2
      by_cases hq : q = p
      · rw [hq, upd_same]; simp
      · rw [upd_ne hq]; exact this
    · obtain ⟨v, h1, h2⟩ := S.slot i d e
      exact ⟨v, h1, h2.mono s1 (Pre.refl _)⟩
  | true =>
    refine k B (ad ++ [p]) (.ref p) H (Same.refl _) (Pre.app _ _) ⟨S.exB, fun a u e => S.exF a u (fF a u e), fun a u e => S.dis a u (fF a u e), ?_, ?_, S.slen, fun k es e => ?_, fun k q h1 h2 => ?_, fun i d e => ?_⟩ ⟨p, rfl, ?_⟩
    · rw [List.nodup_append]
      refine ⟨S.nd, by simp, fun a ha b hb => ?_⟩
      have hb' : b = p := by simpa using hb
      subst hb'
      exact fun z => hnc (by rw [← z]; exact ha)
    · show (ad ++ [p]).length = (δ.st ++ [some ds]).length
      simp [S.len]
    · have e' : (δ.st ++ [some ds])[k]? = some (some es) := e
      by_cases hk : k < δ.st.length
      · rw [List.getElem?_append_left hk] at e'
        obtain ⟨q, ys, h1, h2, h3, h4, h5, hq⟩ := cl k es e'
        exact ⟨q, ys, (Pre.app ad [p]).get h1, h2, h3, h4, h5⟩
      · have hk2 : k = δ.st.length := by
          obtain ⟨q, _⟩ := List.getElem?_eq_some_iff.mp e'
          simp at q
          omega
        subst hk2
        rw [List.getElem?_append_right (Nat.le_refl _)] at e'
        simp at e'
        subst e'
        refine ⟨p, xs, ?_, hH, r, hB, hF⟩
        rw [← S.len, List.getElem?_append_right (Nat.le_refl _)]
        simp
    · have h2' : (δ.st ++ [some ds])[k]? = some none := h2
      have hk : k < δ.st.length := by
        rcases Nat.lt_or_ge k δ.st.length with z | z
        · exact z
        · rw [List.getElem?_append_right z] at h2'
          cases q : k - δ.st.length with
          | zero => rw [q] at h2'; simp at h2'
          | succ n => rw [q] at h2'; simp at h2'
      rw [List.getElem?_append_left hk] at h2'
      rw [List.getElem?_append_left (by rw [S.len]; exact hk)] at h1
      exact S.dead k q h1 h2'
    · obtain ⟨v, h1, h2⟩ := S.slot i d e
      exact ⟨v, h1, h2.mono (Same.refl _) (Pre.app _ _)⟩
    · show (ad ++ [p])[δ.st.length]? = some p
      rw [← S.len, List.getElem?_append_right (Nat.le_refl _), Nat.sub_self]
      rfl
end
open Classical in
noncomputable def lcGo (ck : List (Nat × List D)) (tg : Tg) (own : List Nat) (test : BF) (elt : EF) (sl : List (Option Vl)) : List D → List D → Dl → Option (List D × Dl)
  | [], acc, δ => if CkOk ck δ then some (acc, δ) else none
  | d :: ds, acc, δ => if CkOk ck δ ∧ acc.length < small then (asgT δ tg d).bind fun δ1 => (test δ1).bind fun p =>
      if p.1 then (elt p.2).bind fun q => (frz q.2 q.1).bind fun y => lcGo ck tg own test elt sl ds (acc ++ [y.1]) { y.2 with sl := sl }
      else lcGo ck tg own test elt sl ds acc { p.2 with sl := sl }
    else none
noncomputable def dLc (m : Bool) (fi : IF) (tg : Tg) (own : List Nat) (test : BF) (elt : EF) : EF := fun δ => (fi δ).bind fun p =>
  (lcGo p.2.1 tg own test elt (wipeD p.2.2.sl own) p.1 [] { p.2.2 with sl := wipeD p.2.2.sl own }).map fun q => mk m q.1 { q.2 with sl := p.2.2.sl }
def bYes : BF := fun δ => some (true, δ)
theorem lcGo_ck {ck : List (Nat × List D)} {tg : Tg} {own : List Nat} {test : BF} {elt : EF} {sl : List (Option Vl)} {ds acc : List D} {δ : Dl} {r : List D × Dl} (h : lcGo ck tg own test elt sl ds acc δ = some r) : CkOk ck δ := by
  cases ds with
  | nil =>
    rw [lcGo] at h
    split at h
    · assumption
    · cases h
  | cons d ds =>
    rw [lcGo] at h
    split at h
    · rename_i hh
      exact hh.1
    · cases h
abbrev PDTs (X : Cx) (ifs : List Expr) (f : BF) := PTs X ifs (tDT X.K X.mg f)
section
variable {X : Cx} {tgE iter elt : Expr} {ifs : List Expr} {scope : Scope} {own : List (Str × Nat)} {fi : IF} {test : BF} {fe : EF} {pos spos : Pos}
theorem pdts_nil : PDTs X [] bYes := ⟨fun pins s σ H Q I h => by
  obtain ⟨B, F, ad, δ, r, δ', S, e, k⟩ := h
  cases e
  exact pts_nil.run pins s σ H Q I (k B ad H (Same.refl _) (Pre.refl _) S)⟩
theorem pdts_one {c : Expr} {f : BF} (h : PDT X c f) : PDTs X [c] f := pts_one h
theorem lc_w {m : Bool} {tg : Tg} {σ : L2.St} {H : Hp} {Q : VK} {K : PySem.W.Frag} {mg : Str → Option Value} (hown : ∀ i ∈ tgs tg, i ∈ own.map (·.2)) (h : tD K mg (dLc m fi tg (own.map (·.2)) test fe) σ H Q) :
    tLc (iD K mg fi) (gTg K tg) (tDT K mg test) (tD K mg fe) (own.map (·.2)) σ H Q := by
  obtain ⟨B, F, ad, δ, r, δ', S, e, k⟩ := h
  unfold dLc at e
  obtain ⟨⟨it, ck, δ1⟩, e1, e⟩ := Option.bind_eq_some_iff.mp e
  obtain ⟨⟨res, δ2⟩, e2, e⟩ := Option.map_eq_some_iff.mp e
  have e' : mk m res { δ2 with sl := δ1.sl } = (r, δ') := e
  dsimp only at e2
  generalize hw : wipeD δ1.sl (own.map (·.2)) = sl0 at e2
  refine ⟨B, F, ad, δ, it, ck, δ1, S, e1, (show CkOk ck δ1 from (lcGo_ck e2 : CkOk ck ⟨sl0, δ1.st⟩)), fun B1 ad1 H1 J G Y s1 p1 S1 W hG hY => ?_⟩
  intro Dl' hD
  have hFD : F Dl' = none := S1.exF.free hD
  have SW := (S1.wiped (own.map (·.2))).allocF (o := .lst []) hD
  rw [hw] at SW
  refine lc_it W (fun i H' => ∃ B2 ad2 δ3 accD acc, Same B1 B2 ∧ Pre ad1 ad2 ∧ SRep K mg B2 (upd F Dl' (.lst acc)) ad2 (wipe σ (own.map (·.2))) δ3 H' ∧ Rps K mg B2 accD acc ∧ δ3.sl = sl0 ∧ lcGo ck tg (own.map (·.2)) test fe sl0 (it.drop i) accD δ3 = some (res, δ2))
    ⟨B1, ad1, _, [], [], Same.refl _, Pre.refl _, SW, rfl, rfl, e2⟩ ?_ ?_ ?_
  · rintro i H' hi ⟨B2, ad2, δ3, accD, acc, s2, p2, S2, ra, hsl, e3⟩
    exact hG B2 _ ad2 _ δ3 H' s2 p2 S2 (lcGo_ck e3)
  · rintro i x H2 H3 hi ⟨B2, ad2, δ3, accD, acc, s2, p2, S2, ra, hsl, e3⟩ hy
    obtain ⟨B3, s3, S3, d, hd, rd⟩ := hY i x B2 _ ad2 _ δ3 H2 H3 s2 p2 S2 (lcGo_ck e3) hi hy
    have hdr : it.drop i = d :: it.drop (i + 1) := by
      obtain ⟨hl, he⟩ := List.getElem?_eq_some_iff.mp hd
      rw [List.drop_eq_getElem_cons hl, he]
    rw [hdr, lcGo] at e3
    split at e3
    · rename_i hc
      obtain ⟨δ4, e4, e3⟩ := Option.bind_eq_some_iff.mp e3
      obtain ⟨⟨b, δ5⟩, e5, e3⟩ := Option.bind_eq_some_iff.mp e3
      refine tg_w S3 rd e4 fun vs S4 => ?_
      refine ⟨by rw [wipe_setV hown, wipe_wipe], ?_⟩
      have back : ∀ {B6 F6 ad6 δ6 H6}, SRep K mg B6 F6 ad6 (setV (wipe σ (own.map (·.2))) (tgs tg) vs) δ6 H6 → Same B2 B6 → Pre ad2 ad6 → SRep K mg B6 F6 ad6 (wipe σ (own.map (·.2))) { δ6 with sl := sl0 } H6 := fun {B6 F6 ad6 δ6 H6} S6 s6 p6 => by
        have := S2.reslot s6 p6 S6
        rw [hsl] at this
        exact this
      refine ⟨B3, _, ad2, δ4, b, δ5, S4, e5, fun B5 ad5 H5 s5 p5 S5 => ?_⟩
      cases b with
      | true =>
        rw [if_pos rfl]
        rw [if_pos rfl] at e3
        obtain ⟨⟨y, δ6⟩, e6, e3⟩ := Option.bind_eq_some_iff.mp e3
        obtain ⟨⟨yd, δ7⟩, e7, e3⟩ := Option.bind_eq_some_iff.mp e3
        refine ⟨B5, _, ad5, δ5, y, δ6, S5, e6, fun B6 ad6 v H6 s6 p6 S6 r6 => ?_⟩
        obtain ⟨B7, s7, S7, r7⟩ := S6.frz r6 e7
        have hacc : H6 Dl' = some (.lst acc) := S7.exF Dl' _ upd_same
        have hlen := Rps.length ra
        refine ⟨acc, hacc, Nat.lt_of_lt_of_le (by omega) (small_sz (Nat.le_refl _)), ?_⟩
        have sAll : Same B2 B7 := ((s3.trans s5).trans s6).trans s7
        have pAll : Pre ad2 ad6 := p5.trans p6
        exact ⟨B7, ad6, { δ7 with sl := sl0 }, accD ++ [yd], acc ++ [v], s2.trans sAll, p2.trans pAll, (back S7 sAll pAll).setF, Rps.app (Rps.mono sAll _ _ ra) (Rps.one r7), rfl, e3⟩
      | false =>
        rw [if_neg Bool.false_ne_true]
        rw [if_neg Bool.false_ne_true] at e3
        have sAll : Same B2 B5 := s3.trans s5
        exact ⟨B5, ad5, { δ5 with sl := sl0 }, accD, acc, s2.trans sAll, p2.trans p5, back S5 sAll p5, Rps.mono sAll _ _ ra, rfl, e3⟩
    · cases e3
  · rintro H2 ⟨B2, ad2, δ3, accD, acc, s2, p2, S2, ra, hsl, e3⟩
    rw [List.drop_length] at e3
    have hck := lcGo_ck e3
    rw [lcGo, if_pos hck] at e3
    cases e3
    refine SRep.takeF (m := m) (S1.reslot s2 p2 S2) hFD ra fun B' ad' v H' s3 p3 S3 r3 => ?_
    rw [e'] at S3 r3
    exact k B' ad' v H' ((s1.trans s2).trans s3) ((p1.trans p2).trans p3) S3 r3
theorem pd_lc (m : Bool) (tg : Tg) (hc : X.calm = true) (hN : X.N.Nodup) (hi : PDI X tgE iter fi) (ok : BlkOk X.N X.env.scope scope own) (hown : ∀ i ∈ tgs tg, i ∈ own.map (·.2))
    (hg : ∀ (s : Shared) (H : Hp) (C : Addr) (cl : List (Str × Addr)) (fp : List Addr), PG (X.blk s H scope (compEnvC scope cl C X.env) fp) tgE (gTg X.K tg))
    (ht : ∀ (s : Shared) (H : Hp) (C : Addr) (cl : List (Str × Addr)) (fp : List Addr), PTs (X.blk s H scope (compEnvC scope cl C X.env) fp) ifs (tDT X.K X.mg test))
    (he : ∀ (s : Shared) (H : Hp) (C : Addr) (cl : List (Str × Addr)) (fp : List Addr), PE (X.blk s H scope (compEnvC scope cl C X.env) fp) elt (tD X.K X.mg fe)) (hs : ∀ x, foldedSetIterable iter X.env x = pure x := by intro _; rfl) :
    PD X (.ListComp elt [⟨tgE, iter, ifs, 0⟩] scope pos) (dLc m fi tg (own.map (·.2)) test fe) := PE.weak (pe_lc hc hN hi ok hg ht he hs) fun σ H Q h => lc_w hown h
theorem pds_setLc (m : Bool) (tg : Tg) {i : Nat} {y : Str} {py : Pos} (hc : X.calm = true) (hN : X.N.Nodup) (hi : PDI X tgE iter fi) (ok : BlkOk X.N X.env.scope scope own) (hown : ∀ i ∈ tgs tg, i ∈ own.map (·.2))
    (hg : ∀ (s : Shared) (H : Hp) (C : Addr) (cl : List (Str × Addr)) (fp : List Addr), PG (X.blk s H scope (compEnvC scope cl C X.env) fp) tgE (gTg X.K tg))
    (ht : ∀ (s : Shared) (H : Hp) (C : Addr) (cl : List (Str × Addr)) (fp : List Addr), PTs (X.blk s H scope (compEnvC scope cl C X.env) fp) ifs (tDT X.K X.mg test))
    (he : ∀ (s : Shared) (H : Hp) (C : Addr) (cl : List (Str × Addr)) (fp : List Addr), PE (X.blk s H scope (compEnvC scope cl C X.env) fp) elt (tD X.K X.mg fe))
    (hy : X.N[i]? = some y) (hyl : X.env.scope.names.lookup y = some .local) (hsw : swapsWith (.ListComp elt [⟨tgE, iter, ifs, 0⟩] scope pos) (some (.Name y py)) spos.line X.env = pure true) (hs : ∀ x, foldedSetIterable iter X.env x = pure x := by intro _; rfl) :
    PDS X (.Assign [.Name y py] (.ListComp elt [⟨tgE, iter, ifs, 0⟩] scope pos) spos) (sSet i (dLc m fi tg (own.map (·.2)) test fe)) :=
  PS.weak (ps_setLc hc hN hy hyl hsw hi ok hg ht he hs) fun D σ H h => by
    obtain ⟨B, F, ad, δ, r, δ', S, e, k⟩ := h
    unfold sSet at e
    obtain ⟨⟨x, δ1⟩, e1, e⟩ := Option.map_eq_some_iff.mp e
    cases e
    exact lc_w hown ⟨B, F, ad, δ, x, δ1, S, e1, fun B1 ad1 v H1 q1 p1 S1 r1 => k B1 ad1 _ H1 q1 p1 (S1.setS r1)⟩
end
end PK

namespace PK
open PySem L2 PySem.Spec PyProof.Rows

/-! ### a def keeps its promise -/
def fnD (n : Nat) (f : SF) : GF := fun rs cs => (f ⟨rs.map some ++ List.replicate (n - rs.length) none, cs.map some⟩).bind fun p => (lives p.2 (List.range cs.length)).bind fun cs' => match p.1 with
  | .rt (.fz d) => some (.val d, cs')
  | .rt (.rf k) => if cs.length ≤ k then match p.2.st[k]? with
      | some (some es) => some (.fresh es, cs')
      | _ => none
    else none
  | .nx => some (.val .non, cs')
  | _ => none
section
variable {K : PySem.W.Frag} {mg : Str → Option Value} {B B' F F' : Hp} {ad ad' : List Addr} {σ : L2.St} {δ δ' : Dl} {H H' : Hp} {p : Addr}
theorem SRep.weakF (S : SRep K mg B F ad σ δ H) (h : Same F' F) : SRep K mg B F' ad σ δ H where
  exB := S.exB
  exF := fun a o e => S.exF a o (h a o e)
  dis := fun a o e => S.dis a o (h a o e)
  nd := S.nd
  len := S.len
  slen := S.slen
  cell := fun k ds e => by
    obtain ⟨q, xs, h1, h2, h3, h4, h5⟩ := S.cell k ds e
    exact ⟨q, xs, h1, h2, h3, h4, h.free h5⟩
  dead := S.dead
  slot := S.slot
theorem SRep.pick (S : SRep K mg B F ad σ δ H) {ks : List Nat} {cs : List (List D)} (h : lives δ ks = some cs) (hn : ks.Nodup) : SRep K mg B F (addrs ad ks) [] ⟨[], cs.map some⟩ H :=
  (S.down h hn).weakF fun a o e => by
    unfold frameOf
    split
    · rename_i hx
      obtain ⟨k, ds, _, h1, h2⟩ := hx
      obtain ⟨q, xs, g1, g2, _, g4, g5⟩ := S.cell k ds h2
      rw [h1] at g1
      cases g1
      rw [g5] at e
      cases e
    · exact e
theorem addrs_range (ad m : List Addr) : addrs (ad ++ m) (List.range ad.length) = ad := by
  unfold addrs
  apply List.ext_getElem?
  intro i
  have key : ∀ n, n ≤ ad.length → ((List.range n).filterMap fun k => (ad ++ m)[k]?) = ad.take n := by
    intro n
    induction n with
    | zero => intro _; rfl
    | succ n ih =>
      intro hn
      rw [List.range_succ, List.filterMap_append, ih (by omega)]
      have hl : n < ad.length := by omega
      have e : (ad ++ m)[n]? = some ad[n] := by
        rw [List.getElem?_append_left hl]
        exact List.getElem?_eq_getElem hl
      rw [List.filterMap_cons, e]
      simp only [List.filterMap_nil]
      rw [List.take_add_one, List.getElem?_eq_getElem hl]
      rfl
  rw [key _ (Nat.le_refl _), List.take_length]
theorem addrs_app (ad : List Addr) (ks : List Nat) (k : Nat) (a : Addr) (h : ad[k]? = some a) : addrs ad (ks ++ [k]) = addrs ad ks ++ [a] := by
  unfold addrs
  rw [List.filterMap_append]
  congr 1
  rw [List.filterMap_cons, h]
  rfl
theorem lives_app {es : List D} {k : Nat} : ∀ {ks : List Nat} {cs : List (List D)}, lives δ ks = some cs → δ.st[k]? = some (some es) → lives δ (ks ++ [k]) = some (cs ++ [es])
  | [], cs, h, g => by
    simp only [lives] at h
    cases h
    show lives δ [k] = some [es]
    simp only [lives, g]
  | k0 :: ks, cs, h, g => by
    simp only [lives] at h
    split at h
    · rename_i ds r h1 h2
      cases h
      show lives δ (k0 :: (ks ++ [k])) = some (ds :: (r ++ [es]))
      simp only [lives, h1, lives_app h2 g]
    · cases h
theorem rps_start {rs : List Vl} {vs : List V} {n : Nat} (S : SRep K mg B F ad [] ⟨[], δ.st⟩ H) (r : RpVs K mg B ad rs vs) : SRep K mg B F ad (vs.map some ++ List.replicate (n - vs.length) none) ⟨rs.map some ++ List.replicate (n - rs.length) none, δ.st⟩ H :=
  ⟨S.exB, S.exF, S.dis, S.nd, S.len, by simp [RpVs.length r], S.cell, S.dead, fun i d e => by
    have e' : (rs.map some ++ List.replicate (n - rs.length) none)[i]? = some (some d) := e
    have hl := RpVs.length r
    have hi : i < rs.length := by
      rcases Nat.lt_or_ge i rs.length with z | z
      · exact z
      · rw [List.getElem?_append_right (by simpa using z)] at e'
        rw [List.getElem?_replicate] at e'
        split at e' <;> cases e'
    rw [List.getElem?_append_left (by simpa using hi), List.getElem?_map] at e'
    obtain ⟨d', e1, e2⟩ := Option.map_eq_some_iff.mp e'
    cases e2
    have key : ∀ {rs : List Vl} {vs : List V} {i : Nat} {d : Vl}, RpVs K mg B ad rs vs → rs[i]? = some d → ∃ v, vs[i]? = some v ∧ RpV K mg B ad d v := by
      intro rs
      induction rs with
      | nil => intro vs i d _ h; simp at h
      | cons x xs ih =>
        intro vs i d h g
        obtain ⟨v, w, rfl, h2, h3⟩ := h
        cases i with
        | zero =>
          simp at g
          subst g
          exact ⟨v, rfl, h2⟩
        | succ i =>
          obtain ⟨u, k1, k2⟩ := ih h3 (by simpa using g)
          exact ⟨u, by simpa using k1, k2⟩
    obtain ⟨v, k1, k2⟩ := key r e1
    refine ⟨v, ?_, k2⟩
    rw [List.getElem?_append_left (by simpa [hl] using hi), List.getElem?_map, k1]
    rfl⟩
end
section
variable {P : Program} {w : World} {K : PySem.W.Frag} {mg : Str → Option Value} {base : Heap}
theorem fn_okD {x qual : Str} {st : Stmt} {f : Addr} {fd : FuncData} {N ps : List Str} {k : Nat} {fs : SF} (F : Fun K x qual st f fd) (S : FnScope N ps (defScope st))
    (hbody : ∀ (cdv : Value) (A : Around) (outer : List Env) (s : Shared) (H : Hp) (E : XK), Room k (A.deeper (envOfC qual (defScope st) s.heap.objs.size f cdv)) → PDSs (cxOf CX0 P w K mg base N qual (defScope st) f cdv A outer s H E).nox (defBody st) fs) :
    FnOk P w K mg base CX0 (k + 1) f fd ps (spD K mg ps.length (fnD N.length fs)) := by
  refine F.ok S (fun vs H Q E h => h.1) (fun cdv A outer s H vs Q E hr h => ?_)
  refine ⟨_, hbody cdv A outer s H E hr, ?_⟩
  obtain ⟨hlen, B, Fr, ad, rs, cs, r, cs', S0, rv, e, hl, kk⟩ := h
  unfold fnD at e
  obtain ⟨⟨fl, δ'⟩, e1, e⟩ := Option.bind_eq_some_iff.mp e
  obtain ⟨cs2, e2, e⟩ := Option.bind_eq_some_iff.mp e
  have S1 : SRep K mg B Fr ad (start N vs) ⟨rs.map some ++ List.replicate (N.length - rs.length) none, cs.map some⟩ H := rps_start (δ := ⟨[], cs.map some⟩) S0 rv
  have hadl : ad.length = cs.length := by
    have := S0.len
    simpa using this
  refine ⟨B, Fr, ad, _, fl, δ', S1, e1, fun B' ad' σ' H' sB pA S' => ?_⟩
  obtain ⟨m, rfl⟩ := pA
  have base : SRep K mg B' Fr ad [] ⟨[], cs2.map some⟩ H' := by
    have := S'.pick e2 List.nodup_range
    rw [← hadl, addrs_range] at this
    exact this
  cases fl with
  | nx =>
    cases e
    exact kk B' .non H' sB ⟨base, rfl⟩
  | bk => cases e
  | ct => cases e
  | rt v =>
    intro u hu
    cases v with
    | fz d =>
      cases e
      exact kk B' u H' sB ⟨base, hu⟩
    | rf j =>
      simp only at e
      split at e
      · rename_i hj
        split at e
        · rename_i es hes
          cases e
          obtain ⟨a, rfl, ha⟩ := hu
          refine kk B' _ H' sB ⟨a, rfl, ?_⟩
          have hnd : (List.range cs.length ++ [j]).Nodup := by
            rw [List.nodup_append]
            refine ⟨List.nodup_range, by simp, fun x hx y hy => ?_⟩
            have hy' : y = j := by simpa using hy
            have hx' : x < cs.length := by simpa using hx
            omega
          have := S'.pick (lives_app e2 hes) hnd
          rw [addrs_app _ _ _ _ ha, ← hadl, addrs_range] at this
          exact this
        · cases e
      · cases e
end
end PK

namespace PK
open PySem L2 PySem.Spec PyProof.Rows

/-! ### targets of a plain assignment, one after another -/
abbrev HF := D → Dl → Option Dl
def gD (K : PySem.W.Frag) (mg : Str → Option Value) (h : HF) : TG := fun v σ H Q => ∃ B F ad δ d δ', SRep K mg B F ad σ δ H ∧ Rp K mg B d v ∧ h d δ = some δ' ∧
  ∀ B' ad' σ' H', Same B B' → Pre ad ad' → SRep K mg B' F ad' σ' δ' H' → Q σ' H'
abbrev HsF := List D → Dl → Option Dl
def gDs (K : PySem.W.Frag) (mg : Str → Option Value) (h : HsF) : TGs := fun vs σ H Q => ∃ B F ad δ ds δ', SRep K mg B F ad σ δ H ∧ Rps K mg B ds vs ∧ h ds δ = some δ' ∧
  ∀ B' ad' σ' H', Same B B' → Pre ad ad' → SRep K mg B' F ad' σ' δ' H' → Q σ' H'
theorem PG.weak {X : Cx} {e : Expr} {t t' : TG} (h : PG X e t) (w : ∀ v σ H Q, t' v σ H Q → t v σ H Q) : PG X e t' := ⟨fun pins s σ H v u Q I r q => h.run pins s σ H v u Q I r (w v σ H Q q)⟩
theorem PGs.weak {X : Cx} {e : List Expr} {t t' : TGs} (h : PGs X e t) (w : ∀ v σ H Q, t' v σ H Q → t v σ H Q) : PGs X e t' := ⟨fun pins s σ H v u Q I r q => h.run pins s σ H v u Q I r (w v σ H Q q)⟩
def hNm (i : Nat) : HF := fun d δ => some { δ with sl := δ.sl.set i (some (.fz d)) }
def setIx (δ : Dl) (o : Vl) (i : Vl) (d : D) : Option Dl := match o, i with
  | .rf k, .fz (.int n) => match δ.st[k]? with
    | some (some ds) => (ixN ds.length n).map fun j => { δ with st := δ.st.set k (some (ds.set j d)) }
    | _ => none
  | _, _ => none
def hSub (fo fi : EF) : HF := fun d δ => (fo δ).bind fun p => (fi p.2).bind fun q => setIx q.2 p.1 q.1 d
def hNil : HsF := fun ds δ => match ds with
  | [] => some δ
  | _ => none
def hCons (h : HF) (g : HsF) : HsF := fun ds δ => match ds with
  | d :: r => (h d δ).bind fun δ1 => g r δ1
  | [] => none
def hTup (n : Nat) (g : HsF) : HF := fun d δ => match d with
  | .tup ds => if ds.length = n then g ds δ else none
  | _ => none
section
variable {X : Cx} {e o i : Expr} {f fo fi : EF} {pos : Pos} {h : HF} {g : HsF} {es : List Expr}
theorem pgd_name (i : Nat) {x : Str} (hN : X.N.Nodup) (hi : X.N[i]? = some x := by rfl) (hx : Loc X.env.scope x := by first | exact Or.inl rfl | exact Or.inr rfl) (hf : X.fn x = true ∨ X.env.scope.names.lookup x = some .local := by first | exact .inl rfl | exact .inr rfl) :
    PG X (.Name x pos) (gD X.K X.mg (hNm i)) := PG.weak (pg_name hN hi hx hf) fun v σ H Q h => by
  obtain ⟨B, F, ad, δ, d, δ', S, r, e, k⟩ := h
  cases e
  exact k B ad _ H (Same.refl _) (Pre.refl _) (S.setS (d := .fz d) r)
theorem pgd_sub (ho : PD X o fo) (hi : PD X i fi)
    (ha : ∀ v, assign (.Subscript o i pos) X.env v = (do
      let ov ← holding [v] (eval o X.env)
      let iv ← holding [v, ov] (eval i X.env)
      standAt pos
      holding [v, ov, iv] (setItem ov iv v)
      release [v, ov, iv] []) := by intro _; rfl) : PG X (.Subscript o i pos) (gD X.K X.mg (hSub fo fi)) := PG.weak (pg_sub ho hi set_list ha) fun v σ H Q h => by
  obtain ⟨B, F, ad, δ, d, δ', S, r, e, k⟩ := h
  unfold hSub at e
  obtain ⟨⟨x, δ1⟩, e1, e⟩ := Option.bind_eq_some_iff.mp e
  obtain ⟨⟨y, δ2⟩, e2, e⟩ := Option.bind_eq_some_iff.mp e
  refine ⟨B, F, ad, δ, x, δ1, S, e1, fun B1 ad1 v1 H1 s1 p1 S1 r1 => ?_⟩
  refine ⟨B1, F, ad1, δ1, y, δ2, S1, e2, fun B2 ad2 v2 H2 s2 p2 S2 r2 => ?_⟩
  have r1' := r1.mono s2 p2
  unfold setIx at e
  cases x with
  | fz d => cases e
  | rf c =>
    cases y with
    | rf d => cases e
    | fz d =>
      cases d with
      | int n =>
        simp only at e
        split at e
        · rename_i ds hk
          obtain ⟨j, e3, e4⟩ := Option.map_eq_some_iff.mp e
          cases e4
          obtain ⟨a, h1, h2⟩ := r1'
          have r2' : v2 = .int n := r2
          obtain ⟨q, xs, g1, g2, g3, _, _⟩ := S2.cell _ _ hk
          rw [h2] at g1
          cases g1
          have hl := Rps.length g3
          exact ⟨a, xs, n, j, h1, r2', g2, by rw [hl]; exact e3, k B2 ad2 σ _ (s1.trans s2) (p1.trans p2) (S2.cellSet hk h2 g2 (Rps.set g3 (Rp.mono (s1.trans s2) _ _ r)))⟩
        · cases e
      | _ => cases e
theorem pgds_nil : PGs X [] (gDs X.K X.mg hNil) := PGs.weak pgs_nil fun v σ H Q h => by
  obtain ⟨B, F, ad, δ, ds, δ', S, r, e, k⟩ := h
  cases ds with
  | nil =>
    cases e
    exact ⟨r, k B ad σ H (Same.refl _) (Pre.refl _) S⟩
  | cons _ _ => cases e
theorem pgds_cons (h1 : PG X e (gD X.K X.mg h)) (h2 : PGs X es (gDs X.K X.mg g)) (hs : (assignEach (e :: es) X.env).map (·.2) = assign e X.env :: (assignEach es X.env).map (·.2) := by rfl) : PGs X (e :: es) (gDs X.K X.mg (hCons h g)) :=
  PGs.weak (pgs_cons h1 h2 hs) fun v σ H Q h => by
  obtain ⟨B, F, ad, δ, ds, δ', S, r, e, k⟩ := h
  cases ds with
  | nil => cases e
  | cons d ds =>
    obtain ⟨δ1, e1, e2⟩ := Option.bind_eq_some_iff.mp e
    obtain ⟨w, ws, rfl, r1, r2⟩ := r
    refine ⟨w, ws, rfl, B, F, ad, δ, d, δ1, S, r1, e1, fun B1 ad1 σ1 H1 s1 p1 S1 => ?_⟩
    exact ⟨B1, F, ad1, δ1, ds, δ', S1, Rps.mono s1 _ _ r2, e2, fun B2 ad2 σ2 H2 s2 p2 S2 => k B2 ad2 σ2 H2 (s1.trans s2) (p1.trans p2) S2⟩
theorem pgd_tup {k n : Nat} (hc : X.calm = true) (hg : PGs X es (gDs X.K X.mg g)) (hn : (assignEach es X.env).length = n := by rfl) (hst : (assignEach es X.env).findIdx? (·.1) = none := by rfl) : PG X (.Tuple es k pos) (gD X.K X.mg (hTup n g)) :=
  PG.weak (pg_tup hc hg hn hst) fun v σ H Q h => by
  obtain ⟨B, F, ad, δ, d, δ', S, r, e, k⟩ := h
  cases d with
  | tup ds =>
    have e' : (if ds.length = n then g ds δ else none) = some δ' := e
    split at e'
    · rename_i hl
      obtain ⟨a, xs, rfl, h2, h3⟩ := r
      exact ⟨a, xs, rfl, SqT.of (S.exB _ _ h2), by rw [Rps.length h3]; exact hl, B, F, ad, δ, ds, δ', S, h3, e', k⟩
    · cases e'
  | _ => cases e
def sAsg (h : HF) (f : EF) : SF := fun δ => (f δ).bind fun p => (frz p.2 p.1).bind fun q => (h q.1 q.2).map fun δ' => (.nx, δ')
theorem pds_asg {tg : Expr} (he : PD X e f) (hg : PG X tg (gD X.K X.mg h)) (hs : swapsWithSole [tg] e pos.line X.env = pure false := by rfl) (hw : swappedStores [tg] e X.env = pure none := by rfl)
    (h1 : (assignEach [tg] X.env).map (·.2) = [assign tg X.env] := by rfl) : PDS X (.Assign [tg] e pos) (sAsg h f) := PS.weak (ps_asg he hg hs hw h1) fun D σ H h => by
  obtain ⟨B, F, ad, δ, r, δ', S, e, k⟩ := h
  unfold sAsg at e
  obtain ⟨⟨x, δ1⟩, e1, e⟩ := Option.bind_eq_some_iff.mp e
  obtain ⟨⟨d, δ2⟩, e2, e⟩ := Option.bind_eq_some_iff.mp e
  obtain ⟨δ3, e3, e⟩ := Option.map_eq_some_iff.mp e
  cases e
  refine ⟨B, F, ad, δ, x, δ1, S, e1, fun B1 ad1 v1 H1 s1 p1 S1 r1 => ?_⟩
  obtain ⟨B2, s2, S2, r2⟩ := S1.frz r1 e2
  exact ⟨B2, F, ad1, δ2, d, _, S2, r2, e3, fun B3 ad3 σ3 H3 s3 p3 S3 => k B3 ad3 σ3 H3 ((s1.trans s2).trans s3) (p1.trans p3) S3⟩
/-- a, b = x, y -/
def sPar (is : List Nat) (fa : AF) : SF := fun δ => (fa δ).bind fun p => match is, p.1 with
  | [i, j], [a, b] => some (.nx, { p.2 with sl := (p.2.sl.set i (some a)).set j (some b) })
  | [i, j, l], [a, b, c] => some (.nx, { p.2 with sl := ((p.2.sl.set i (some a)).set j (some b)).set l (some c) })
  | _, _ => none
theorem pds_par {i j : Nat} {x y : Str} {a b : Expr} {fa : AF} {px py pt : Pos} {kt k2 pt2} (hc : X.calm = true) (hN : X.N.Nodup) (hi : X.N[i]? = some x) (hj : X.N[j]? = some y) (hij : i ≠ j)
    (hx : X.env.scope.names.lookup x = some .local) (hy : X.env.scope.names.lookup y = some .local) (ha : PDA X [a, b] fa)
    (hw : swappedStores [.Tuple [.Name x px, .Name y py] kt pt] (.Tuple [a, b] k2 pt2) X.env = pure (some [x, y]))
    (hs : swapsWithSole [.Tuple [.Name x px, .Name y py] kt pt] (.Tuple [a, b] k2 pt2) pos.line X.env = pure false := by rfl) :
    PDS X (.Assign [.Tuple [.Name x px, .Name y py] kt pt] (.Tuple [a, b] k2 pt2) pos) (sPar [i, j] fa) := PS.weak (ps_par hc hN hi hj hij hx hy ha hw hs) fun D σ H h => by
  obtain ⟨B, F, ad, δ, r, δ', S, e, k⟩ := h
  unfold sPar at e
  obtain ⟨⟨rs, δ1⟩, e1, e⟩ := Option.bind_eq_some_iff.mp e
  refine ⟨B, F, ad, δ, rs, δ1, S, e1, fun B1 ad1 vs H1 s1 p1 S1 r1 => ?_⟩
  match rs, e, r1 with
  | [a, b], e, r1 =>
    cases e
    obtain ⟨v, w, rfl, h2, v2, w2, rfl, h3, h4⟩ := r1
    have h4' : w2 = [] := h4
    subst h4'
    exact ⟨v, v2, rfl, k B1 ad1 _ H1 s1 p1 ((S1.setS h2).setS h3)⟩
  | [], e, _ => cases e
  | [_], e, _ => cases e
  | _ :: _ :: _ :: _, e, _ => cases e
theorem pds_par3 {i j l : Nat} {x y z : Str} {a b c : Expr} {fa : AF} {px py pz pt : Pos} {kt k2 pt2} (hc : X.calm = true) (hN : X.N.Nodup) (hi : X.N[i]? = some x) (hj : X.N[j]? = some y) (hl : X.N[l]? = some z) (hij : i ≠ j) (hil : i ≠ l) (hjl : j ≠ l)
    (hx : X.env.scope.names.lookup x = some .local) (hy : X.env.scope.names.lookup y = some .local) (hz : X.env.scope.names.lookup z = some .local) (ha : PDA X [a, b, c] fa)
    (hw : swappedStores [.Tuple [.Name x px, .Name y py, .Name z pz] kt pt] (.Tuple [a, b, c] k2 pt2) X.env = pure (some [x, y, z]))
    (hs : swapsWithSole [.Tuple [.Name x px, .Name y py, .Name z pz] kt pt] (.Tuple [a, b, c] k2 pt2) pos.line X.env = pure false := by rfl) :
    PDS X (.Assign [.Tuple [.Name x px, .Name y py, .Name z pz] kt pt] (.Tuple [a, b, c] k2 pt2) pos) (sPar [i, j, l] fa) := PS.weak (ps_par3 hc hN hi hj hl hij hil hjl hx hy hz ha hw hs) fun D σ H h => by
  obtain ⟨B, F, ad, δ, r, δ', S, e, k⟩ := h
  unfold sPar at e
  obtain ⟨⟨rs, δ1⟩, e1, e⟩ := Option.bind_eq_some_iff.mp e
  refine ⟨B, F, ad, δ, rs, δ1, S, e1, fun B1 ad1 vs H1 s1 p1 S1 r1 => ?_⟩
  match rs, e, r1 with
  | [a, b, c], e, r1 =>
    cases e
    obtain ⟨v, w, rfl, h2, v2, w2, rfl, h3, v3, w3, rfl, h5, h4⟩ := r1
    have h4' : w3 = [] := h4
    subst h4'
    exact ⟨v, v2, v3, rfl, k B1 ad1 _ H1 s1 p1 (((S1.setS h2).setS h3).setS h5)⟩
  | [], e, _ => cases e
  | [_], e, _ => cases e
  | [_, _], e, _ => cases e
  | _ :: _ :: _ :: _ :: _, e, _ => cases e

/-! ### methods of lists -/
/-- what a method does to the list: the arguments (frozen), the list, what comes of it and what it hands back -/
abbrev MF := List D → List D → Option (D × List D)
def dMt (g : MF) (fo : EF) (fa : AF) : EF := fun δ => (fo δ).bind fun p => match p.1 with
  | .rf k => match p.2.st[k]? with
    | some (some _) => (fa p.2).bind fun q => (frzs q.2 q.1).bind fun s => match s.2.st[k]? with
      | some (some ds) => (g s.1 ds).map fun z => (.fz z.1, { s.2 with st := s.2.st.set k (some z.2) })
      | _ => none
    | _ => none
  | _ => none
def appD : MF := fun as ds => match as with
  | [d] => if ds.length < small then some (.non, ds ++ [d]) else none
  | _ => none
def extD : MF := fun as ds => match as with
  | [.lst es] => if ds.length + es.length ≤ small then some (.non, ds ++ es) else none
  | _ => none
def popD : MF := fun as ds => match as with
  | [] => ds[ds.length - 1]?.map fun d => (d, ds.dropLast)
  | _ => none
def revD : MF := fun as ds => match as with
  | [] => some (.non, ds.reverse)
  | _ => none
/-- by values: what the library's rule asks -/
def MtD (X : Cx) (g : MF) (r : V → List V → Hp → VK → Prop) : Prop := ∀ (B F : Hp) (ad : List Addr) (σ : L2.St) (δ : Dl) (H : Hp) (k : Nat) (ds as : List D) (z : D × List D) (a : Addr) (xs vs : List V) (Q : VK), SRep X.K X.mg B F ad σ δ H → δ.st[k]? = some (some ds) → ad[k]? = some a → H a = some (.lst xs) → Rps X.K X.mg B ds xs → Rps X.K X.mg B as vs → g as ds = some z →
  (∀ y ys H', H' = upd H a (.lst ys) → Rps X.K X.mg B z.2 ys → Rp X.K X.mg B z.1 y → Q y H') → r (.ref a) vs H Q
theorem mtd_app : MtD X appD rAppend := by
  intro B F ad σ δ H k ds as z a xs vs Q S hk ha hx r rv e q
  unfold appD at e
  split at e
  · split at e
    · rename_i d hl
      cases e
      obtain ⟨v, w, rfl, h2, h3⟩ := rv
      have h3' : w = [] := h3
      subst h3'
      exact ⟨a, xs, v, rfl, rfl, hx, Nat.lt_of_lt_of_le (by rw [Rps.length r]; exact hl) (small_sz (Nat.le_refl _)), q .non _ _ rfl (Rps.app r (Rps.one h2)) rfl⟩
    · cases e
  · cases e
theorem mtd_ext : MtD X extD rExtend := by
  intro B F ad σ δ H k ds as z a xs vs Q S hk ha hx r rv e q
  unfold extD at e
  split at e
  · split at e
    · rename_i es hl
      cases e
      obtain ⟨v, w, rfl, ⟨b, ys, rfl, g2, g3⟩, h3⟩ := rv
      have h3' : w = [] := h3
      subst h3'
      exact ⟨a, b, xs, ys, rfl, rfl, hx, S.exB _ _ g2, small_sz (by rw [Rps.length r, Rps.length g3]; exact hl), q .non _ _ rfl (Rps.app r g3) rfl⟩
    · cases e
  · cases e
theorem rps_dropLast {K : PySem.W.Frag} {mg : Str → Option Value} {B : Hp} {ds : List D} {xs : List V} (r : Rps K mg B ds xs) : Rps K mg B ds.dropLast xs.dropLast := by
  rw [List.dropLast_eq_take, List.dropLast_eq_take, Rps.length r]
  exact Rps.take _ r
theorem mtd_pop : MtD X popD rPop := by
  intro B F ad σ δ H k ds as z a xs vs Q S hk ha hx r rv e q
  unfold popD at e
  split at e
  · obtain ⟨d, e1, e2⟩ := Option.map_eq_some_iff.mp e
    cases e2
    have rv' : vs = [] := rv
    subst rv'
    obtain ⟨v, g1, g2⟩ := Rps.get r e1
    exact ⟨a, xs, v, rfl, rfl, hx, by rw [Rps.length r]; exact g1, q v _ _ rfl (rps_dropLast r) g2⟩
  · cases e
theorem mtd_rev : MtD X revD rReverse := by
  intro B F ad σ δ H k ds as z a xs vs Q S hk ha hx r rv e q
  unfold revD at e
  split at e
  · cases e
    have rv' : vs = [] := rv
    subst rv'
    exact ⟨a, xs, rfl, rfl, hx, q .non _ _ rfl (Rps.rev r) rfl⟩
  · cases e
theorem mt_w {g : MF} {r : V → List V → Hp → VK → Prop} {fa : AF} {σ : L2.St} {H : Hp} {Q : VK} (hr : MtD X g r) (h : tD X.K X.mg (dMt g fo fa) σ H Q) : tBM X.K "list" r (tD X.K X.mg fo) (tDA X.K X.mg fa) σ H Q := by
  obtain ⟨B, F, ad, δ, rr, δ', S, e, k⟩ := h
  unfold dMt at e
  obtain ⟨⟨x, δ1⟩, e1, e⟩ := Option.bind_eq_some_iff.mp e
  refine ⟨B, F, ad, δ, x, δ1, S, e1, fun B1 ad1 v1 H1 s1 p1 S1 r1 => ?_⟩
  cases x with
  | fz d => cases e
  | rf c =>
    simp only at e
    split at e
    · rename_i es hes
      obtain ⟨⟨rs, δ2⟩, e2, e⟩ := Option.bind_eq_some_iff.mp e
      obtain ⟨⟨as, δ3⟩, e3, e⟩ := Option.bind_eq_some_iff.mp e
      simp only at e
      obtain ⟨a, rfl, h2⟩ := r1
      split at e
      · rename_i ds hk
        obtain ⟨⟨zd, zl⟩, e4, e5⟩ := Option.map_eq_some_iff.mp e
        cases e5
        obtain ⟨q', xs0, g1, hx0, _⟩ := S1.cell c es hes
        rw [h2] at g1
        cases g1
        refine ⟨.inl ⟨rfl, xs0, SqL.of hx0⟩, B1, F, ad1, δ1, rs, δ2, S1, e2, fun B2 ad2 vs H2 s2 p2 S2 r2 => ?_⟩
        obtain ⟨B3, s3, S3, r3⟩ := S2.frzs r2 e3
        obtain ⟨q, xs, g1, g2, g3, _, _⟩ := S3.cell c ds hk
        rw [p2.get h2] at g1
        cases g1
        exact hr B3 F ad2 σ δ3 H2 c ds as (zd, zl) a xs vs Q S3 hk (p2.get h2) g2 g3 r3 e4 fun y ys H' eH ry rz => by
          subst eH
          exact k B3 ad2 y _ ((s1.trans s2).trans s3) (p1.trans p2) (S3.cellSet hk (p2.get h2) g2 ry) rz
      · cases e
    · cases e
theorem tD_mono {K : PySem.W.Frag} {mg : Str → Option Value} {f : EF} {σ : L2.St} {H : Hp} {Q Q' : VK} (h : tD K mg f σ H Q) (w : ∀ v H, Q v H → Q' v H) : tD K mg f σ H Q' := by
  obtain ⟨B, F, ad, δ, r, δ', S, e, k⟩ := h
  exact ⟨B, F, ad, δ, r, δ', S, e, fun B' ad' v H' s p S' r' => w _ _ (k B' ad' v H' s p S' r')⟩
theorem bm0_w {r : V → List V → Hp → VK → Prop} {σ : L2.St} {H : Hp} {Q : VK} (h : tBM X.K "list" r (tD X.K X.mg fo) (tDA X.K X.mg aNil) σ H Q) : tBM0 X.K "list" r (tD X.K X.mg fo) σ H Q :=
  tD_mono h fun v H1 ⟨h1, B, F, ad, δ, rs, δ', S, e, k⟩ => ⟨h1, by
    cases e
    exact k B ad [] H1 (Same.refl _) (Pre.refl _) S rfl⟩
theorem pd_app {ap cp : Pos} {fe : EF} (ho : PD X o fo) (he : PD X e fe) (hbase : attributeBase o "append" X.env (eval o X.env) = eval o X.env := by rfl)
    (hfew : ((backTo cp (starEach [e] X.env)).all (fun x => !x.1) && (backToKw cp (keywordEach [] X.env)).all (fun x => x.1.isSome) && decide ([e].length + ([] : List Keyword).length + (if ([] : List Keyword).isEmpty then 0 else 1) < 30)) = true := by rfl)
    (hline : (ap.endLine == cp.line) = true := by rfl) (hs : starEach [e] X.env = (false, eval e X.env) :: starEach [] X.env := by rfl) (hpl : (backTo cp (starEach [] X.env)).any (·.1) = false := by rfl) :
    PD X (.Call (.Attribute o "append" ap) [e] [] cp) (dMt appD fo (aCons fe aNil)) :=
  PE.weak (pe_bm PySem.F.plainAttrs_list PySem.F.slot_list_append PySem.F.type_list_append mt_append ho (pda_cons he pda_nil hs) hbase hfew hline hs hpl) fun σ H Q h => mt_w mtd_app h
theorem pd_ext {ap cp : Pos} {fe : EF} (ho : PD X o fo) (he : PD X e fe) (hbase : attributeBase o "extend" X.env (eval o X.env) = eval o X.env := by rfl)
    (hfew : ((backTo cp (starEach [e] X.env)).all (fun x => !x.1) && (backToKw cp (keywordEach [] X.env)).all (fun x => x.1.isSome) && decide ([e].length + ([] : List Keyword).length + (if ([] : List Keyword).isEmpty then 0 else 1) < 30)) = true := by rfl)
    (hline : (ap.endLine == cp.line) = true := by rfl) (hs : starEach [e] X.env = (false, eval e X.env) :: starEach [] X.env := by rfl) (hpl : (backTo cp (starEach [] X.env)).any (·.1) = false := by rfl) :
    PD X (.Call (.Attribute o "extend" ap) [e] [] cp) (dMt extD fo (aCons fe aNil)) :=
  PE.weak (pe_bm PySem.F.plainAttrs_list PySem.F.slot_list_extend PySem.F.type_list_extend mt_extend ho (pda_cons he pda_nil hs) hbase hfew hline hs hpl) fun σ H Q h => mt_w mtd_ext h
theorem pd_rvs {ap cp : Pos} (ho : PD X o fo) (hbase : attributeBase o "reverse" X.env (eval o X.env) = eval o X.env := by rfl) (hline : (ap.endLine == cp.line) = true := by rfl) :
    PD X (.Call (.Attribute o "reverse" ap) [] [] cp) (dMt revD fo aNil) :=
  PE.weak (pe_bm0 PySem.F.plainAttrs_list PySem.F.slot_list_reverse PySem.F.type_list_reverse mt_reverse ho hbase hline) fun σ H Q h => bm0_w (mt_w mtd_rev h)
theorem pd_pop {ap cp : Pos} (ho : PD X o fo) (hbase : attributeBase o "pop" X.env (eval o X.env) = eval o X.env := by rfl) (hline : (ap.endLine == cp.line) = true := by rfl) :
    PD X (.Call (.Attribute o "pop" ap) [] [] cp) (dMt popD fo aNil) :=
  PE.weak (pe_bm0 PySem.F.plainAttrs_list PySem.F.slot_list_pop PySem.F.type_list_pop mt_pop ho hbase hline) fun σ H Q h => bm0_w (mt_w mtd_pop h)
/-! x += e at a name -/
def addI : OF := fun δ x y => match x, y with
  | .int i, .int j => some (.fz (.int (i + j)), δ)
  | _, _ => none
def sAug (i : Nat) (g : OF) (f : EF) : SF := fun δ => match δ.sl[i]? with
  | some (some (.fz a)) => (f δ).bind fun p => (der p.2 p.1).bind fun b => (g p.2 a b).map fun r => (.nx, { r.2 with sl := r.2.sl.set i (some r.1) })
  | _ => none
theorem pds_aug (i : Nat) {x : Str} {op : Operator} {g : OF} {pos' : Pos} (ho : OpR X (inplaceOp op) (rD X.K X.mg g)) (hN : X.N.Nodup) (he : PD X e f) (hi : X.N[i]? = some x := by rfl) (hx : Loc X.env.scope x := by first | exact Or.inl rfl | exact Or.inr rfl)
    (hf : X.fn x = true ∨ X.env.scope.names.lookup x = some .local := by first | exact .inl rfl | exact .inr rfl) : PDS X (.AugAssign (.Name x pos') op e pos) (sAug i g f) :=
  PS.weak (ps_aug (ti := rD X.K X.mg g) hN hi hx he (fun pins s σ H x y v u Q I rx ry h => ho pins s σ H x y v u Q I rx ry h) hf) fun D σ H h => by
  obtain ⟨B, F, ad, δ, r, δ', S, e, k⟩ := h
  unfold sAug at e
  split at e
  · rename_i a ha
    obtain ⟨⟨y, δ1⟩, e1, e⟩ := Option.bind_eq_some_iff.mp e
    obtain ⟨b, e2, e⟩ := Option.bind_eq_some_iff.mp e
    obtain ⟨⟨z, δ2⟩, e3, e⟩ := Option.map_eq_some_iff.mp e
    cases e
    obtain ⟨v, h1, h2⟩ := S.slot i _ ha
    refine ⟨v, h1, B, F, ad, δ, y, δ1, S, e1, fun B1 ad1 w H1 s1 p1 S1 r1 => ?_⟩
    exact ⟨B1, F, ad1, σ, δ1, a, b, z, δ2, S1, Rp.vw S1.exB (Rp.mono s1 _ _ h2), S1.vw r1 e2, e3, fun B2 ad2 u H2 s2 p2 S2 r2 => k B2 ad2 _ H2 (s1.trans s2) (p1.trans p2) (S2.setS r2)⟩
  · cases e
theorem od_iadd : OpR X (inplaceOp .Add) (rD X.K X.mg (addI)) := by
  intro pins s σ H x y v u Q I rx ry h
  obtain ⟨B, F, ad, σ', δ, dx, dy, r, δ', S, vx, vy, e, k⟩ := h
  unfold addI at e
  split at e
  · rename_i i j
    cases e
    exact iop_add pins s σ H x y v u Q I rx ry ⟨i, j, vx, vy, here (d := .int (i + j)) S rfl k⟩
  · cases e
end
end PK

namespace PK
open PySem L2 PySem.Spec PyProof.Rows

/-! ### fields, properties, methods -/
theorem lookup_zip {K : PySem.W.Frag} {mg : Str → Option Value} {B : Hp} : ∀ {ns : List Str} {ds : List D} {xs : List V} {f : Str} {d : D}, Rps K mg B ds xs → (ns.zip ds).lookup f = some d → ∃ v, (ns.zip xs).lookup f = some v ∧ Rp K mg B d v
  | [], ds, xs, f, d, r, e => by simp at e
  | n :: ns, [], xs, f, d, r, e => by simp at e
  | n :: ns, d0 :: ds, xs, f, d, r, e => by
    obtain ⟨v, w, rfl, h2, h3⟩ := r
    rw [List.zip_cons_cons, List.lookup_cons] at e ⊢
    by_cases h : f == n
    · simp only [h] at e ⊢
      cases e
      exact ⟨v, rfl, h2⟩
    · simp only [h] at e ⊢
      exact lookup_zip h3 e
theorem lookup_none {ns : List Str} : ∀ {xs : List V} {f : Str}, ns.contains f = false → (ns.zip xs).lookup f = none := by
  induction ns with
  | nil => intro xs f _; simp
  | cons n ns ih =>
    intro xs f h
    cases xs with
    | nil => simp
    | cons x xs =>
      rw [List.contains_cons, Bool.or_eq_false_iff] at h
      rw [List.zip_cons_cons, List.lookup_cons, h.1]
      exact ih h.2
def dFld (c f : Str) (fe : EF) : EF := fun δ => (fe δ).bind fun p => match p.1 with
  | .fz (.ins c' ns ds) => if c' = c then ((ns.zip ds).lookup f).map fun d => (.fz d, p.2) else none
  | _ => none
section
variable {X : Cx} {e o : Expr} {f fo : EF} {pos p apos : Pos} {es : List Expr} {fs : AF} {c m : Str} {C : Addr}
theorem pd_fld {fn : Str} (he : PD X e f) (hC : X.mg c = some (.ref C)) (cl : Cls X.K C) (na : NoAttr X.K C fn) (hb : attributeBase e fn X.env (eval e X.env) = eval e X.env := by rfl) : PD X (.Attribute e fn pos) (dFld c fn f) :=
  PE.weak (pe_fld he hb) fun σ H Q h => by
  obtain ⟨B, F, ad, δ, r, δ', S, e, k⟩ := h
  unfold dFld at e
  obtain ⟨⟨x, δ1⟩, e1, e⟩ := Option.bind_eq_some_iff.mp e
  refine ⟨B, F, ad, δ, x, δ1, S, e1, fun B1 ad1 v1 H1 s1 p1 S1 r1 => ?_⟩
  cases x with
  | rf k => cases e
  | fz d =>
    cases d with
    | ins c' ns ds =>
      simp only at e
      split at e
      · rename_i hc
        obtain ⟨d, e2, e3⟩ := Option.map_eq_some_iff.mp e
        cases e3
        obtain ⟨a, C', dx, xs, h1, h2, h3, h4, h5⟩ := r1
        rw [hc, hC] at h2
        cases h2
        obtain ⟨v, g1, g2⟩ := lookup_zip h5 e2
        exact ⟨a, C, dx, _, v, h1, S1.exB _ _ h3, cl, na, g1, k B1 ad1 v H1 s1 p1 S1 g2⟩
      · cases e
    | _ => cases e
/-- a call with the receiver ahead -/
def recvOk (c m : Str) : Vl → Bool
  | .fz (.ins c' ns _) => decide (c' = c) && !ns.contains m
  | _ => false
def dMeth (mm : Bool) (c m : Str) (n : Nat) (G : GF) (fo : EF) (fa : AF) : EF := fun δ => (fo δ).bind fun p => if recvOk c m p.1 then (fa p.2).bind fun q => if (p.1 :: q.1).length = n then callG mm G (p.1 :: q.1) q.2 else none else none
theorem recv_of {K : PySem.W.Frag} {mg : Str → Option Value} {B H : Hp} {ad : List Addr} {r : Vl} {v : V} (hC : mg c = some (.ref C)) (s : Same B H) (h : RpV K mg B ad r v) (e : recvOk c m r = true) : ∃ a dx fs, v = .ref a ∧ H a = some (.ins C dx fs) ∧ fs.lookup m = none := by
  cases r with
  | rf k => cases e
  | fz d =>
    cases d with
    | ins c' ns ds =>
      simp only [recvOk, Bool.and_eq_true, decide_eq_true_eq, Bool.not_eq_true'] at e
      obtain ⟨a, C', dx, xs, h1, h2, h3, h4, h5⟩ := h
      rw [e.1, hC] at h2
      cases h2
      exact ⟨a, dx, _, h1, s _ _ h3, lookup_none e.2⟩
    | _ => cases e
theorem pd_meth {k n : Nat} {g : Addr} {fd : FuncData} {ps : List Str} {G : GF} {pl : Sem Bool} {e : Expr} (mm : Bool) (ho : PD X o fo) (hC : X.mg c = some (.ref C)) (cl : Cls X.K C) (hm : Meth X.K C m g) (Fk : FnOk X.prog X.w X.K X.mg X.base CX0 k g fd ps (spD X.K X.mg n G)) (hr : Room k X.A)
    (hb : Binds X.K fd ps []) (ha : PDA X (e :: es) fs)
    (hst : starEach (e :: es) X.env = (false, eval e X.env) :: starEach es X.env := by rfl) (hpl : (backTo pos (starEach es X.env)).any (·.1) = false := by rfl)
    (ht : eval (.Call (.Attribute o m apos) (e :: es) [] pos) X.env = (do
      let ov ← eval o X.env
      standAt apos.atName
      let (f, first) ← holding [ov] (getMethod ov m pl)
      callWith pos f first (backTo pos (starEach (e :: es) X.env)) (backToKw pos (keywordEach [] X.env))) := by rfl) :
    PD X (.Call (.Attribute o m apos) (e :: es) [] pos) (dMeth mm c m n G fo fs) := PE.weak (pe_meth ho cl hm Fk hr hb .nil pass0 ha hst hpl ht) fun σ H Q h => by
  obtain ⟨B, F, ad, δ, r, δ', S, e, k⟩ := h
  unfold dMeth at e
  obtain ⟨⟨x, δ1⟩, e1, e⟩ := Option.bind_eq_some_iff.mp e
  split at e
  · rename_i hx
    obtain ⟨⟨rs, δ2⟩, e2, e⟩ := Option.bind_eq_some_iff.mp e
    split at e
    · rename_i hl
      refine ⟨B, F, ad, δ, x, δ1, S, e1, fun B1 ad1 v1 H1 s1 p1 S1 r1 => ?_⟩
      obtain ⟨a, dx, fs, h1, h2, h3⟩ := recv_of hC S1.exB r1 hx
      refine ⟨a, dx, fs, h1, h2, h3, B1, F, ad1, δ1, rs, δ2, S1, e2, fun B2 ad2 vs H2 s2 p2 S2 r2 => ?_⟩
      show spD X.K X.mg n G (v1 :: (vs ++ [])) H2 Q E0
      rw [List.append_nil]
      have rr : RpVs X.K X.mg B2 ad2 (x :: rs) (v1 :: vs) := ⟨v1, vs, rfl, r1.mono s2 p2, r2⟩
      exact call_w S2 rr (by rw [RpVs.length rr]; exact hl) e fun B' ad' v H' s3 p3 S' r' => k B' ad' v H' ((s1.trans s2).trans s3) ((p1.trans p2).trans p3) S' r'
    · cases e
  · cases e
theorem pd_meth0 {k n : Nat} {g : Addr} {fd : FuncData} {ps : List Str} {G : GF} {pl : Sem Bool} (mm : Bool) (ho : PD X o fo) (hC : X.mg c = some (.ref C)) (cl : Cls X.K C) (hm : Meth X.K C m g) (Fk : FnOk X.prog X.w X.K X.mg X.base CX0 k g fd ps (spD X.K X.mg n G)) (hr : Room k X.A)
    (hb : Binds X.K fd ps [])
    (ht : eval (.Call (.Attribute o m apos) [] [] pos) X.env = (do
      let ov ← eval o X.env
      standAt apos.atName
      let (f, first) ← holding [ov] (getMethod ov m pl)
      callWith pos f first (backTo pos (starEach [] X.env)) (backToKw pos (keywordEach [] X.env))) := by rfl) :
    PD X (.Call (.Attribute o m apos) [] [] pos) (dMeth mm c m n G fo aNil) := PE.weak (pe_meth0 ho cl hm Fk hr hb .nil pass0 ht) fun σ H Q h => by
  obtain ⟨B, F, ad, δ, r, δ', S, e, k⟩ := h
  unfold dMeth at e
  obtain ⟨⟨x, δ1⟩, e1, e⟩ := Option.bind_eq_some_iff.mp e
  split at e
  · rename_i hx
    have e' : (if [x].length = n then callG mm G [x] δ1 else none) = some (r, δ') := e
    split at e'
    · rename_i hl
      refine ⟨B, F, ad, δ, x, δ1, S, e1, fun B1 ad1 v1 H1 s1 p1 S1 r1 => ?_⟩
      obtain ⟨a, dx, fs, h1, h2, h3⟩ := recv_of hC S1.exB r1 hx
      refine ⟨a, dx, fs, h1, h2, h3, ?_⟩
      show spD X.K X.mg n G [v1] H1 Q E0
      have rr : RpVs X.K X.mg B1 ad1 [x] [v1] := ⟨v1, [], rfl, r1, rfl⟩
      exact call_w S1 rr hl e' fun B' ad' v H' s3 p3 S' r' => k B' ad' v H' (s1.trans s3) (p1.trans p3) S' r'
    · cases e'
  · cases e
/-- a property -/
theorem pd_prop {k n : Nat} {g pp : Addr} {fd : FuncData} {ps : List Str} {G : GF} {fn : Str} (mm : Bool) (ho : PD X o fo) (hC : X.mg c = some (.ref C)) (cl : Cls X.K C) (hp : PropOf X.K C fn pp g) (Fk : FnOk X.prog X.w X.K X.mg X.base CX0 k g fd ps (spD X.K X.mg n G)) (hr : Room (k + 1) X.A)
    (hb : Binds X.K fd ps []) (hab : attributeBase o fn X.env (eval o X.env) = eval o X.env := by rfl) : PD X (.Attribute o fn pos) (dMeth mm c "" n G fo aNil) := PE.weak (pe_prop ho cl hp Fk hr hb .nil pass0 hab) fun σ H Q h => by
  obtain ⟨B, F, ad, δ, r, δ', S, e, k⟩ := h
  unfold dMeth at e
  obtain ⟨⟨x, δ1⟩, e1, e⟩ := Option.bind_eq_some_iff.mp e
  split at e
  · rename_i hx
    have e' : (if [x].length = n then callG mm G [x] δ1 else none) = some (r, δ') := e
    split at e'
    · rename_i hl
      refine ⟨B, F, ad, δ, x, δ1, S, e1, fun B1 ad1 v1 H1 s1 p1 S1 r1 => ?_⟩
      obtain ⟨a, dx, fs, h1, h2, h3⟩ := recv_of hC S1.exB r1 hx
      refine ⟨a, dx, fs, h1, h2, ?_⟩
      subst h1
      show spD X.K X.mg n G [.ref a] H1 Q E0
      have rr : RpVs X.K X.mg B1 ad1 [x] [.ref a] := ⟨.ref a, [], rfl, r1, rfl⟩
      exact call_w S1 rr hl e' fun B' ad' v H' s3 p3 S' r' => k B' ad' v H' (s1.trans s3) (p1.trans p3) S' r'
    · cases e'
  · cases e
end

/-! ### the making of an instance: __init__ -/
/-- the slots, the lists and the fields so far -/
structure Il where
  dl : Dl
  ns : List Str
  ds : List D
abbrev IFn := Il → Option Il
/-- self stands at slot 0, with the fields so far; a statement of an __init__ that falls through -/
def tIn (K : PySem.W.Frag) (mg : Str → Option Value) (c : Str) (f : IFn) : TS := fun D σ H => ∃ B F ad i i' x C dx xs, mg c = some (.ref C) ∧ σ[0]? = some (some (.ref x)) ∧ x ≠ dx ∧ F x = none ∧ F dx = none ∧
  SRep K mg B (upd (upd F dx (.own x)) x (.ins C dx (i.ns.zip xs))) ad σ i.dl H ∧ i.ns.length = xs.length ∧ Rps K mg B i.ds xs ∧ f i = some i' ∧
  ∀ B' ad' σ' H' ys, Same B B' → Pre ad ad' → σ'[0]? = some (some (.ref x)) → SRep K mg B' (upd (upd F dx (.own x)) x (.ins C dx (i'.ns.zip ys))) ad' σ' i'.dl H' → i'.ns.length = ys.length → Rps K mg B' i'.ds ys → D.nx σ' H'
def iSeq (f g : IFn) : IFn := fun i => (f i).bind g
def iDrop (f : EF) : IFn := fun i => (f i.dl).map fun p => { i with dl := p.2 }
def iSet (j : Nat) (f : EF) : IFn := fun i => (f i.dl).map fun p => { i with dl := { p.2 with sl := p.2.sl.set (j + 1) (some p.1) } }
def iFld (fn : Str) (f : EF) : IFn := fun i => if i.ns.contains fn then none else if i.ns.length < 900 then (f i.dl).bind fun p => (frz p.2 p.1).map fun q => ⟨q.2, i.ns ++ [fn], i.ds ++ [q.1]⟩ else none
section
variable {X : Cx} {e : Expr} {f : EF} {pos : Pos} {st : Stmt} {rest : List Stmt} {c : Str} {C : Addr} {g h : IFn}
theorem pin_one (h1 : PS X st (tIn X.K X.mg c g)) : PSs X [st] (tIn X.K X.mg c g) := pss_one h1
theorem pin_cons (h1 : PS X st (tIn X.K X.mg c g)) (h2 : PSs X rest (tIn X.K X.mg c h)) : PSs X (st :: rest) (tIn X.K X.mg c (iSeq g h)) := PSs.weak (pss_cons h1 h2) fun D σ H h => by
  obtain ⟨B, F, ad, i, i', x, C, dx, xs, hC, h0, hne, hF1, hF2, S, hl, r, e, k⟩ := h
  unfold iSeq at e
  obtain ⟨i1, e1, e2⟩ := Option.bind_eq_some_iff.mp e
  refine ⟨B, F, ad, i, i1, x, C, dx, xs, hC, h0, hne, hF1, hF2, S, hl, r, e1, fun B1 ad1 σ1 H1 ys s1 p1 z1 S1 l1 r1 => ?_⟩
  exact ⟨B1, F, ad1, i1, i', x, C, dx, ys, hC, z1, hne, hF1, hF2, S1, l1, r1, e2, fun B2 ad2 σ2 H2 ws s2 p2 z2 S2 l2 r2 => k B2 ad2 σ2 H2 ws (s1.trans s2) (p1.trans p2) z2 S2 l2 r2⟩
theorem pin_drop (he : PD X e f) (hs : swapsWith e none pos.line X.env = pure false := by rfl) : PS X (.Expr e pos) (tIn X.K X.mg c (iDrop f)) := PS.weak (ps_expr he hs) fun D σ H h => by
  obtain ⟨B, F, ad, i, i', x, C, dx, xs, hC, h0, hne, hF1, hF2, S, hl, r, e, k⟩ := h
  unfold iDrop at e
  obtain ⟨⟨y, δ1⟩, e1, e2⟩ := Option.map_eq_some_iff.mp e
  cases e2
  exact ⟨B, _, ad, i.dl, y, δ1, S, e1, fun B1 ad1 v H1 s1 p1 S1 r1 => k B1 ad1 σ H1 xs s1 p1 h0 S1 hl (Rps.mono s1 _ _ r)⟩
theorem pin_set (j : Nat) {x : Str} {pos' : Pos} (he : PD X e f) (hN : X.N.Nodup) (hi : X.N[j + 1]? = some x := by rfl) (hx : Loc X.env.scope x := by first | exact Or.inl rfl | exact Or.inr rfl) (hs : swapsWith e (some (.Name x pos')) pos.line X.env = pure false := by rfl)
    (hf : X.fn x = true ∨ X.env.scope.names.lookup x = some .local := by first | exact .inl rfl | exact .inr rfl) : PS X (.Assign [.Name x pos'] e pos) (tIn X.K X.mg c (iSet j f)) := PS.weak (ps_set hN hi hx he hs hf) fun D σ H h => by
  obtain ⟨B, F, ad, i, i', x, C, dx, xs, hC, h0, hne, hF1, hF2, S, hl, r, e, k⟩ := h
  unfold iSet at e
  obtain ⟨⟨y, δ1⟩, e1, e2⟩ := Option.map_eq_some_iff.mp e
  cases e2
  exact ⟨B, _, ad, i.dl, y, δ1, S, e1, fun B1 ad1 v H1 s1 p1 S1 r1 => k B1 ad1 _ H1 xs s1 p1 (by rw [List.getElem?_set_ne (by omega)]; exact h0) (S1.setS r1) hl (Rps.mono s1 _ _ r)⟩
theorem putF_new {fn : Str} {v : V} : ∀ {ns : List Str} {xs : List V}, ns.length = xs.length → ns.contains fn = false → putF fn v (ns.zip xs) = (ns ++ [fn]).zip (xs ++ [v])
  | [], [], _, _ => rfl
  | [], _ :: _, h, _ => by simp at h
  | _ :: _, [], h, _ => by simp at h
  | n :: ns, x :: xs, h, g => by
    rw [List.contains_cons, Bool.or_eq_false_iff] at g
    show (if n = fn then _ else (n, x) :: putF fn v (ns.zip xs)) = _
    rw [if_neg (fun z => by
      have := g.1
      rw [z] at this
      simp at this), putF_new (by simpa using h) g.2]
    rfl
theorem SRep.selfSet {K : PySem.W.Frag} {mg : Str → Option Value} {B F : Hp} {ad : List Addr} {σ : L2.St} {δ : Dl} {H : Hp} {x dx : Addr} {o u : HO} (S : SRep K mg B (upd (upd F dx (.own x)) x o) ad σ δ H) : SRep K mg B (upd (upd F dx (.own x)) x u) ad σ δ (upd H x u) := S.setF
theorem pin_fld {fn : Str} {pos' ps : Pos} (he : PD X e f) (hC : X.mg c = some (.ref C)) (cl : Cls X.K C) (na : NoAttr X.K C fn) (h0 : X.N[0]? = some ("self" : Str) := by rfl) (hv : Vis X.env.scope "self" := by first | exact Or.inl rfl | exact Or.inr (Or.inl rfl) | exact Or.inr (Or.inr rfl))
    (hs : swapsWith e (some (.Attribute (.Name "self" ps) fn pos')) pos.line X.env = pure false := by rfl) : PS X (.Assign [.Attribute (.Name "self" ps) fn pos'] e pos) (tIn X.K X.mg c (iFld fn f)) := PS.weak (ps_fld (pe_var h0 hv) he hs) fun D σ H h => by
  obtain ⟨B, F, ad, i, i', x, C', dx, xs, hC', h0, hne, hF1, hF2, S, hl, r, e, k⟩ := h
  rw [hC] at hC'
  cases hC'
  unfold iFld at e
  split at e
  · cases e
  · rename_i hc
    split at e
    · rename_i hfew
      obtain ⟨⟨y, δ1⟩, e1, e⟩ := Option.bind_eq_some_iff.mp e
      obtain ⟨⟨d, δ2⟩, e2, e3⟩ := Option.map_eq_some_iff.mp e
      cases e3
      refine ⟨B, _, ad, i.dl, y, δ1, S, e1, fun B1 ad1 v H1 s1 p1 S1 r1 => ?_⟩
      obtain ⟨B2, s2, S2, r2⟩ := S1.frz r1 e2
      have hx : H1 x = some (.ins C dx (i.ns.zip xs)) := S2.exF x _ upd_same
      refine ⟨.ref x, h0, x, C, dx, _, rfl, hx, cl, na, ?_, ?_⟩
      · rw [List.length_zip]
        omega
      · rw [putF_new hl (by simpa using hc)]
        have sA := s1.trans s2
        exact k B2 ad1 σ _ (xs ++ [v]) sA p1 h0 S2.setF (by simp [hl]) (Rps.app (Rps.mono sA _ _ r) (Rps.one r2))
    · cases e
end
/-- the promise of an __init__ -/
abbrev GIF := List Vl → List (List D) → Option (List Str × List D × List (List D))
def spI (K : PySem.W.Frag) (mg : Str → Option Value) (c : Str) (n : Nat) (G : GIF) : Sp := fun vs H Q _ => vs.length = n ∧ ∃ B F ad rs cs ns ds cs' x C dx ws, vs = .ref x :: ws ∧ mg c = some (.ref C) ∧ x ≠ dx ∧ F x = none ∧ F dx = none ∧
  SRep K mg B (upd (upd F dx (.own x)) x (.ins C dx [])) ad [] ⟨[], cs.map some⟩ H ∧ RpVs K mg B ad rs ws ∧ G rs cs = some (ns, ds, cs') ∧ cs'.length = cs.length ∧
  ∀ B' H' xs, Same B B' → SRep K mg B' (upd (upd F dx (.own x)) x (.ins C dx (ns.zip xs))) ad [] ⟨[], cs'.map some⟩ H' → ns.length = xs.length → Rps K mg B' ds xs → Q .non H'
def initD (n : Nat) (f : IFn) : GIF := fun rs cs => (f ⟨⟨none :: rs.map some ++ List.replicate (n - rs.length) none, cs.map some⟩, [], []⟩).bind fun i => (lives i.dl (List.range cs.length)).map fun cs' => (i.ns, i.ds, cs')
section
variable {P : Program} {w : World} {K : PySem.W.Frag} {mg : Str → Option Value} {base : Heap}
theorem init_okD {c qual : Str} {st : Stmt} {f : Addr} {fd : FuncData} {N ps : List Str} {k : Nat} {fi : IFn} (F : Fun K "__init__" qual st f fd) (S : FnScope N ps (defScope st)) (hp : 0 < ps.length) (hNp : ps.length ≤ N.length)
    (hbody : ∀ (cdv : Value) (A : Around) (outer : List Env) (s : Shared) (H : Hp) (E : XK), Room k (A.deeper (envOfC qual (defScope st) s.heap.objs.size f cdv)) → PSs (cxOf CX0 P w K mg base N qual (defScope st) f cdv A outer s H E).nox (defBody st) (tIn K mg c fi)) :
    FnOk P w K mg base CX0 (k + 1) f fd ps (spI K mg c ps.length (PK.initD (N.length - 1) fi)) := by
  refine F.ok S (fun vs H Q E h => h.1) (fun cdv A outer s H vs Q E hr h => ?_)
  refine ⟨_, hbody cdv A outer s H E hr, ?_⟩
  obtain ⟨hlen, B, Fr, ad, rs, cs, ns, ds, cs', x, C, dx, ws, rfl, hC, hne, hF1, hF2, S0, rv, e, hl, kk⟩ := h
  unfold PK.initD at e
  obtain ⟨i', e1, e⟩ := Option.bind_eq_some_iff.mp e
  obtain ⟨cs2, e2, e3⟩ := Option.map_eq_some_iff.mp e
  cases e3
  have hadl : ad.length = cs.length := by
    have := S0.len
    simpa using this
  have hwl := RpVs.length rv
  have S1 := rps_start (δ := ⟨[], cs.map some⟩) (n := N.length - 1) S0 rv
  have hst : start N (.ref x :: ws) = some (.ref x) :: (ws.map some ++ List.replicate (N.length - 1 - ws.length) none) := by
    unfold L2.start
    rw [List.map_cons, List.cons_append, List.length_cons]
    congr 3
    omega
  have S2 : SRep K mg B (upd (upd Fr dx (.own x)) x (.ins C dx [])) ad (start N (.ref x :: ws)) ⟨none :: rs.map some ++ List.replicate (N.length - 1 - rs.length) none, cs.map some⟩ H := by
    rw [hst]
    refine ⟨S1.exB, S1.exF, S1.dis, S1.nd, S1.len, by simp [hwl], S1.cell, S1.dead, fun j d ej => ?_⟩
    cases j with
    | zero => simp at ej
    | succ j =>
      obtain ⟨v, h1, h2⟩ := S1.slot j d (by simpa using ej)
      exact ⟨v, by simpa using h1, h2⟩
  refine ⟨B, Fr, ad, (⟨⟨none :: rs.map some ++ List.replicate (N.length - 1 - rs.length) none, cs.map some⟩, [], []⟩ : Il), i', x, C, dx, [], hC, by rw [hst]; rfl, hne, hF1, hF2, S2, rfl, rfl, e1, fun B' ad' σ' H' ys sB pA h0 S' hl' r' => ?_⟩
  obtain ⟨m, rfl⟩ := pA
  have base : SRep K mg B' (upd (upd Fr dx (.own x)) x (.ins C dx (i'.ns.zip ys))) ad [] ⟨[], cs'.map some⟩ H' := by
    have := S'.pick e2 List.nodup_range
    rw [← hadl, addrs_range] at this
    exact this
  exact kk B' H' ys sB base hl' r'
end
def makeG (c : Str) (G : GIF) (rs : List Vl) (δ : Dl) : Option (Vl × Dl) := if (refs rs).Nodup then (lives δ (refs rs)).bind fun cs => (G (renum 0 rs) cs).bind fun q => if q.2.2.length = cs.length then
    some (.fz (.ins c q.1 q.2.1), { δ with st := putAll δ.st (refs rs) q.2.2 }) else none
  else none
def dMake (c : Str) (n : Nat) (G : GIF) (fa : AF) : EF := fun δ => (fa δ).bind fun p => if p.1.length + 1 = n then makeG c G p.1 p.2 else none
section
variable {K : PySem.W.Frag} {mg : Str → Option Value} {B B' F : Hp} {ad ad' : List Addr} {σ : L2.St} {δ δ' : Dl} {H H' : Hp} {p : Addr}
/-- what nobody has, given up -/
theorem SRep.own2 {x dx : Addr} {o u : HO} (S : SRep K mg B F ad σ δ H) (hx : H x = none) (hd : H dx = none) (hne : dx ≠ x) : SRep K mg B (upd (upd F dx u) x o) ad σ δ (upd (upd H dx u) x o) := by
  have S1 := S.allocF (o := u) hd
  exact S1.allocF (by rw [upd_ne (Ne.symm hne)]; exact hx)
theorem make_w {c : Str} {C : Addr} {G : GIF} {rs : List Vl} {vs : List V} {r : Vl} {n : Nat} {Q : VK} {E : XK} {x dx : Addr} (hC : mg c = some (.ref C)) (S : SRep K mg B F ad σ δ H) (hv : RpVs K mg B ad rs vs) (hn : vs.length + 1 = n) (e : makeG c G rs δ = some (r, δ')) (hx : H x = none) (hd : H dx = none) (hne : dx ≠ x)
    (k : ∀ B' ad' v H', Same B B' → Pre ad ad' → SRep K mg B' F ad' σ δ' H' → RpV K mg B' ad' r v → Q v H') : spI K mg c n G (.ref x :: vs) (upd (upd H dx (.own x)) x (.ins C dx [])) (fun v H2 => v = .non ∧ Q (.ref x) H2) E := by
  unfold makeG at e
  split at e
  · rename_i hnd
    obtain ⟨cs, e1, e⟩ := Option.bind_eq_some_iff.mp e
    obtain ⟨⟨ns, ds, cs'⟩, e2, e⟩ := Option.bind_eq_some_iff.mp e
    split at e
    · rename_i hl
      have hl' : cs'.length = cs.length := hl
      cases e
      have hlt := S.live_lt e1
      have Sd := (S.down e1 hnd).own2 (o := .ins C dx []) (u := .own x) hx hd hne
      have fx : frameOf F ad δ (refs rs) H x = none := (S.down e1 hnd).exF.free hx
      have fd : frameOf F ad δ (refs rs) H dx = none := (S.down e1 hnd).exF.free hd
      refine ⟨hn, B, frameOf F ad δ (refs rs) H, addrs ad (refs rs), renum 0 rs, cs, ns, ds, cs', x, C, dx, vs, rfl, hC, Ne.symm hne, fx, fd, Sd, ?_, e2, hl', fun B' H' xs sB S' hl2 rx => ⟨rfl, ?_⟩⟩
      · exact renum_ok (ks := []) (by simpa using hlt) hv
      · -- the instance becomes known, its dict is let go
        have hxH : H' x = some (.ins C dx (ns.zip xs)) := S'.exF x _ upd_same
        have hxB : B' x = none := S'.dis x _ upd_same
        have s2 : Same B' (upd B' x (.ins C dx (ns.zip xs))) := same_new hxB
        have nx : ∀ a ∈ addrs ad (refs rs), a ≠ x := fun a ha z => by
          subst z
          obtain ⟨j, hj⟩ := List.getElem?_of_mem ha
          have hjl : j < cs'.length := by
            have h1 := S'.len
            rw [List.length_map] at h1
            rw [← h1]
            exact (List.getElem?_eq_some_iff.mp hj).1
          obtain ⟨q, ys, g1, g2, _, g4, g5⟩ := S'.cell j cs'[j] (by
            show (cs'.map some)[j]? = _
            rw [List.getElem?_map, List.getElem?_eq_getElem hjl]
            rfl)
          rw [hj] at g1
          cases g1
          rw [upd_same] at g5
          cases g5
        have fKeep : ∀ a o, frameOf F ad δ (refs rs) H a = some o → upd (upd (frameOf F ad δ (refs rs) H) dx (.own x)) x (.ins C dx (ns.zip xs)) a = some o := fun a o e => by
          rw [upd_ne (ne_of_none e fx), upd_ne (ne_of_none e fd)]
          exact e
        have S3 : SRep K mg (upd B' x (.ins C dx (ns.zip xs))) (frameOf F ad δ (refs rs) H) (addrs ad (refs rs)) [] ⟨[], cs'.map some⟩ H' := by
          refine ⟨fun a o e => ?_, fun a o e => S'.exF a o (fKeep a o e), fun a o e => ?_, S'.nd, S'.len, rfl, fun j es ej => ?_, fun j q h1 h2 => ?_, fun j d ej => by simp at ej⟩
          · by_cases ha : a = x
            · subst ha
              rw [upd_same] at e
              cases e
              exact hxH
            · rw [upd_ne ha] at e
              exact S'.exB a o e
          · rw [upd_ne (ne_of_none e fx)]
            exact S'.dis a o (fKeep a o e)
          · obtain ⟨q, ys, g1, g2, g3, g4, g5⟩ := S'.cell j es ej
            have hq := nx q (List.mem_of_getElem? g1)
            refine ⟨q, ys, g1, g2, Rps.mono s2 _ _ g3, by rw [upd_ne hq]; exact g4, ?_⟩
            cases z : frameOf F ad δ (refs rs) H q with
            | none => rfl
            | some o =>
              rw [fKeep q o z] at g5
              cases g5
          · have := S'.dead j q h1 h2
            by_cases hq : q = x
            · rw [hq, upd_same]; simp
            · rw [upd_ne hq]; exact this
        have sAll : Same B (upd B' x (.ins C dx (ns.zip xs))) := sB.trans s2
        have S4 := S.up (m := []) (ms := []) e1 hnd hl' sAll (by simpa using S3)
        simp only [List.append_nil, List.map_nil] at S4
        exact k _ ad (.ref x) H' sAll (Pre.refl _) S4 ⟨x, C, dx, xs, rfl, hC, upd_same, hl2, Rps.mono s2 _ _ rx⟩
    · cases e
  · cases e
end
section
variable {X : Cx} {e : Expr} {pos p : Pos} {es : List Expr} {fs : AF} {c : Str} {C : Addr}
theorem pd_make {k n : Nat} {f : Addr} {fd : FuncData} {ps : List Str} {G : GIF} (M : Mk X.K C f) (Fk : FnOk X.prog X.w X.K X.mg X.base CX0 k f fd ps (spI X.K X.mg c n G)) (hr : Room (k + 1) X.A) (hg : Gl X c) (hm : X.mg c = some (.ref C)) (hb : Binds X.K fd ps [])
    (ha : PDA X (e :: es) fs) (hdb : (c == ("__debug__" : Str)) = false := by decide) (he : starEach (e :: es) X.env = (false, eval e X.env) :: starEach es X.env := by rfl) (hpl : (backTo pos (starEach es X.env)).any (·.1) = false := by rfl) :
    PD X (.Call (.Name c p) (e :: es) [] pos) (dMake c n G fs) := PE.weak (pe_make M Fk hr hg hm hb .nil pass0 ha hdb he hpl) fun σ H Q h => by
  obtain ⟨B, F, ad, δ, r, δ', S, e, k⟩ := h
  unfold dMake at e
  obtain ⟨⟨rs, δ1⟩, e1, e⟩ := Option.bind_eq_some_iff.mp e
  split at e
  · rename_i hl
    refine ⟨B, F, ad, δ, rs, δ1, S, e1, fun B1 ad1 vs H1 s1 p1 S1 r1 => fun x dx hx hd hne => ?_⟩
    rw [List.append_nil]
    exact make_w hm S1 r1 (by rw [RpVs.length r1]; exact hl) e hx hd hne fun B' ad' v H' s2 p2 S' r' => k B' ad' v H' (s1.trans s2) (p1.trans p2) S' r'
  · cases e
end
end PK

namespace PK
open PySem L2 PySem.Spec PyProof.Rows

/-! ### a list or a tuple walked -/
def iSeqLT (K : PySem.W.Frag) (tl : TE) : TI := fun σ H R => tl σ H fun x H1 => ∃ a, x = .ref a ∧ (((∃ xs, SqL K H1 a xs) ∧ R (Itl K a) H1) ∨ ((∃ xs, SqT K H1 a xs) ∧ R (Itt K a) H1))
section
variable {X : Cx} {tgE iter : Expr}
theorem pi_seq {l : Expr} {tl : TE} (hl : PE X l tl) : PI X tgE l (iSeqLT X.K tl) := by
  refine ⟨fun pins s σ H R I h => ?_⟩
  refine thn (hl.run pins s σ H _ I h) fun v s1 ⟨x, H1, I1, r1, q1⟩ => ?_
  obtain ⟨a, e, q1⟩ := q1
  subst e
  cases r1
  rcases q1 with ⟨⟨xs, hq⟩, q⟩ | ⟨⟨xs, hq⟩, q⟩
  · obtain ⟨its, rv, p, hz⟩ := I1.list hq
    refine wpAny_pyIter_list p.isList ?_
    refine ⟨s1.heap.objs.size, [s1.heap.objs.size], _, _, H1, rfl, I1.kept (t' := s1.toks) fun b o e => Heap.get?_push_of_some _ e, turn_list a _, ⟨_, Heap.get?_push_size _ rfl, rfl, rfl⟩, fun b hb => ?_, q⟩
    have e : b = s1.heap.objs.size := by simpa using hb
    subst e
    exact I1.fpOk (Nat.le_refl _) (I1.hok.fresh (Nat.le_refl _))
  · obtain ⟨its, rv, p, hz⟩ := I1.tuple hq
    refine wpAny_pyIter_tuple (show s1.heap.IsTuple a its.toArray from p) ?_
    refine ⟨s1.heap.objs.size, [s1.heap.objs.size], _, _, H1, rfl, I1.kept (t' := s1.toks) fun b o e => Heap.get?_push_of_some _ e, turn_tuple a _, ⟨_, Heap.get?_push_size _ rfl, rfl, rfl⟩, fun b hb => ?_, q⟩
    have e : b = s1.heap.objs.size := by simpa using hb
    subst e
    exact I1.fpOk (Nat.le_refl _) (I1.hok.fresh (Nat.le_refl _))
def iSq (f : EF) : IF := fun δ => (f δ).bind fun p => match p.1 with
  | .fz (.tup ds) => some (ds, [], p.2)
  | r => (srcOf p.2 r).map fun q => (q.1, q.2, p.2)
theorem pdi_seq {f : EF} (h : PD X iter f) : PDI X tgE iter (iSq f) := PI.weak (pi_seq h) fun σ H R h => by
  obtain ⟨B, F, ad, δ, it, ck, δ', S, e, hck, k⟩ := h
  unfold iSq at e
  obtain ⟨⟨r, δ1⟩, e1, e⟩ := Option.bind_eq_some_iff.mp e
  refine ⟨B, F, ad, δ, r, δ1, S, e1, fun B1 ad1 v H1 s1 p1 S1 r1 => ?_⟩
  simp only at e
  split at e
  · rename_i ds
    cases e
    obtain ⟨a, xs, h1, h2, h3⟩ := r1
    have hl := Rps.length h3
    refine ⟨a, h1, .inr ⟨⟨xs, SqT.of (S1.exB _ _ h2)⟩, ?_⟩⟩
    refine k B1 ad1 H1 (Itt X.K a) (fun H => SqT X.K H a xs) (YAt xs) s1 p1 S1 (by rw [← hl]; exact walk_tup) ?_ ?_
    · intro B2 F2 ad2 σ2 δ2 H2 s2 p2 S2 c
      exact SqT.of (S2.exB _ _ (s2 _ _ h2))
    · rintro i x B2 F2 ad2 σ2 δ2 H2 H3 s2 p2 S2 c hi ⟨rfl, hx⟩
      obtain ⟨d, d1, d2⟩ := Rps.back h3 hx
      exact ⟨B2, Same.refl _, S2, d, d1, Rp.mono s2 d x d2⟩
  · obtain ⟨⟨it', ck'⟩, e2, e⟩ := Option.map_eq_some_iff.mp e
    cases e
    obtain ⟨a, xs, h1, h2, h3, hl, h4⟩ := src_at S1 r1 e2
    refine ⟨a, h1, .inl ⟨⟨xs, SqL.of h2⟩, ?_⟩⟩
    refine k B1 ad1 H1 (Itl X.K a) (fun H => ∃ ys, ys.length = it'.length ∧ H a = some (.lst ys)) (fun i H x H' => ∃ ys, ys.length = it'.length ∧ H a = some (.lst ys) ∧ YAt ys i H x H') s1 p1 S1 (Walk.any fun ys hy => ?_) ?_ ?_
    · rw [← hy]
      exact (walk_list (K := X.K)).mono (fun H q => SqL.of q) fun _ _ _ _ _ _ y => y
    · intro B2 F2 ad2 σ2 δ2 H2 s2 p2 S2 c
      obtain ⟨ys, q1, q2⟩ := h4 B2 F2 ad2 σ2 δ2 H2 s2 p2 S2 c
      exact ⟨ys, Rps.length q2, q1⟩
    · rintro i x B2 F2 ad2 σ2 δ2 H2 H3 s2 p2 S2 c hi ⟨ys, hy1, hy2, rfl, hx⟩
      obtain ⟨zs, q1, q2⟩ := h4 B2 F2 ad2 σ2 δ2 H3 s2 p2 S2 c
      rw [q1] at hy2
      cases hy2
      obtain ⟨d, d1, d2⟩ := Rps.back q2 hx
      exact ⟨B2, Same.refl _, S2, d, d1, d2⟩
end

/-! ### own ==, own len, isinstance of an own class -/
def eqI (c : Str) (G : GF) : OF := fun δ x y => match x, y with
  | .ins c1 ns ds, .ins c2 ns2 ds2 => if c1 = c ∧ c2 = c then match G [.fz (.ins c1 ns ds), .fz (.ins c2 ns2 ds2)] [] with
      | some (.val (.bl b), []) => some (.fz (.bl b), δ)
      | _ => none
    else none
  | _, _ => none
theorem bo_eqI {c : Str} {G : GF} : BoolOf (eqI c G) := by
  intro δ x y r δ' e
  unfold eqI at e
  split at e
  · split at e
    · split at e
      · cases e; exact ⟨_, rfl⟩
      · cases e
    · cases e
  · cases e
section
variable {X : Cx} {e : Expr} {f : EF} {pos p : Pos} {c : Str} {C : Addr}
theorem od_eqI {k : Nat} {g : Addr} {fd : FuncData} {ps : List Str} {G : GF} (hC : X.mg c = some (.ref C)) (Fk : FnOk X.prog X.w X.K X.mg X.base CX0 k g fd ps (spD X.K X.mg 2 G)) (hr : Room k X.A)
    (hs : PySem.W.findIn X.K (.ref C) "__eq__" = some (some (.ref g))) (hf : PySem.W.isFn X.K (.ref g) = true) (hb : Binds X.K fd ps []) : OpR X (compareOp .Eq) (rD X.K X.mg (eqI c G)) := by
  intro pins s σ H x y v u Q I rx ry h
  obtain ⟨B, F, ad, σ', δ, dx, dy, r, δ', S, vx, vy, e, kk⟩ := h
  show wpAny (model X.prog X.w) X.A (richCompare .Eq v u) (EP X pins σ Q) X.xe s
  unfold eqI at e
  split at e
  · rename_i c1 ns ds c2 ns2 ds2
    split at e
    · rename_i hc
      obtain ⟨hc1, hc2⟩ := hc
      subst hc1 hc2
      split at e
      · rename_i b hG
        cases e
        obtain ⟨a1, C1, dx1, xs1, hx1, hx2, hx3, hx4, hx5⟩ := id vx
        obtain ⟨a2, C2, dx2, xs2, hy1, hy2, hy3, hy4, hy5⟩ := id vy
        rw [hC] at hx2 hy2
        cases hx2; cases hy2
        subst hx1 hy1
        obtain rfl : v = Value.ref a1 := rx
        obtain rfl : u = Value.ref a2 := ry
        obtain ⟨mA, J, _⟩ := ins_get I.hok (S.exB _ _ hx3)
        obtain ⟨mB, J', _⟩ := ins_get I.hok (S.exB _ _ hy3)
        obtain ⟨od, J, _⟩ := J.look
        obtain ⟨od', J', _⟩ := J'.look
        obtain ⟨m, hF⟩ := I.fr
        refine PySem.W.cmp_K (op := .Eq) (tb := .ref C) hr.units0 hF I.ok.mod.kin J J'.type (by simp [PySem.W.notFirst]) hs hf ?_
        have hsp : spD X.K X.mg 2 G [.ref a1, .ref a2] H (fun w H' => w = .bl b ∧ Q (.bl b) H') E0 := by
          refine call_w (m := false) (δ := δ) (r := .fz (.bl b)) (δ' := δ) (rs := [.fz (.ins _ ns ds), .fz (.ins _ ns2 ds2)]) S ⟨_, _, rfl, vx, _, _, rfl, vy, rfl⟩ rfl ?_ fun B' ad' w H' s1 p1 S' r' => ?_
          · unfold callG
            rw [if_pos (by show ([] : List Nat).Nodup; exact List.nodup_nil)]
            show ((some ([] : List (List D))).bind _) = _
            simp only [Option.bind_some, renum, hG]
            rfl
          · have r'' : w = .bl b := r'
            subst r''
            exact ⟨rfl, kk B' ad' _ H' s1 p1 S' rfl⟩
        refine wpAny_mono (run_fn (us := [.ref a1, .ref a2]) (vs := [.ref a1, .ref a2]) Fk hr hb .nil pass0 I (.cons rfl (.cons rfl .nil)) (by simpa using hsp)) (fun w s' hq => ?_) fun _ _ z => z
        obtain ⟨z, H', I', rz, ez, q⟩ := hq
        subst ez
        cases rz
        exact ⟨.bl b, H', I', rfl, q⟩
      · cases e
    · cases e
  · cases e
/-- len of an own instance -/
def dLenI (c : Str) (G : GF) (f : EF) : EF := fun δ => (f δ).bind fun p => match p.1 with
  | .fz (.ins c1 ns ds) => if c1 = c then match G [.fz (.ins c1 ns ds)] [] with
      | some (.val (.int n), []) => if 0 ≤ n ∧ n < 2 ^ 62 then some (.fz (.int n), p.2) else none
      | _ => none
    else none
  | _ => none
theorem oc_lenI {k : Nat} {g : Addr} {fd : FuncData} {ps : List Str} {sp : Sp} (Fk : FnOk X.prog X.w X.K X.mg X.base CX0 k g fd ps sp) (hr : Room (k + 1) X.A)
    (hs : PySem.W.findIn X.K (.ref C) "__len__" = some (some (.ref g))) (hf : PySem.W.isFn X.K (.ref g) = true) (hb : Binds X.K fd ps []) :
    CallR X (.builtin "len") (fun xs H Q => ∃ a dx fs, xs = [.ref a] ∧ H a = some (.ins C dx fs) ∧ sp [.ref a] H (fun w H' => ∃ n : Int, w = .int n ∧ (0 ≤ n ∧ n < 2 ^ 62) ∧ Q (.int n) H') E0) := by
  intro pins s σ H xs us Q I rv h
  obtain ⟨a, dx, fs, rfl, ha, h⟩ := h
  obtain ⟨u0, rfl, ru⟩ := vals1 rv
  obtain rfl : u0 = Value.ref a := ru
  obtain ⟨mA, J, _⟩ := ins_get I.hok ha
  obtain ⟨od, J, _⟩ := J.look
  obtain ⟨m, hF⟩ := I.fr
  refine PySem.W.len_K hF I.ok.mod.kin J hs hf ?_
  have hl : ([Value.ref a] ++ ([] : List Value)).length = ps.length := by
    rw [← Fk.len _ _ _ _ h]
    rfl
  refine wpAny_call (codeAny_mono (Fk.run X.A.in1 X.stack s H ⟨[.ref a], []⟩ [.ref a] [.ref a] _ _ hr.in1 I.env0.in1 (by simpa using hb s [.ref a] I.kIn hl) (.cons rfl .nil) h) fun r s' hq => ?_)
  cases r with
  | error er => exact False.elim (pass0 (X := X.nox) pins σ H s er s' (I.wish _) hq)
  | ok fl =>
    cases fl with
    | ret u =>
      obtain ⟨v, H', I3, rv, n, hn, hb2, q3⟩ := I.after hq
      subst hn
      obtain ⟨t, rfl⟩ := rv
      exact ⟨⟨hb2.1, by omega⟩, ⟨.int n, H', I3.tok _, ⟨_, rfl⟩, q3⟩⟩
    | next => exact False.elim hq
    | brk => exact False.elim hq
    | cont => exact False.elim hq
theorem pd_lenI {k : Nat} {g : Addr} {fd : FuncData} {ps : List Str} {G : GF} {p1 : Pos} (hgl : Gl X "len") (hml : X.mg "len" = none) (hC : X.mg c = some (.ref C)) (Fk : FnOk X.prog X.w X.K X.mg X.base CX0 k g fd ps (spD X.K X.mg 1 G)) (hr : Room (k + 1) X.A)
    (hs : PySem.W.findIn X.K (.ref C) "__len__" = some (some (.ref g))) (hf : PySem.W.isFn X.K (.ref g) = true) (hb : Binds X.K fd ps []) (he : PD X e f)
    (hst : starEach [e] X.env = (false, eval e X.env) :: starEach [] X.env := by rfl) (hpl : (backTo pos (starEach [] X.env)).any (·.1) = false := by rfl) : PD X (.Call (.Name "len" p1) [e] [] pos) (dLenI c G f) :=
  PE.weak (pe_callB (oc_lenI (C := C) Fk hr hs hf hb) hgl hml PySem.boot_len (pa_cons he pa_nil hst) (by decide) (by decide) hst hpl) fun σ H Q h => by
  obtain ⟨B, F, ad, δ, r, δ', S, e1, kk⟩ := h
  unfold dLenI at e1
  obtain ⟨⟨x, δ1⟩, e2, e3⟩ := Option.bind_eq_some_iff.mp e1
  refine ⟨B, F, ad, δ, x, δ1, S, e2, fun B1 ad1 v H1 s1 p1 S1 r1 => ?_⟩
  cases x with
  | rf k => cases e3
  | fz d =>
    cases d with
    | ins c1 ns ds =>
      simp only at e3
      split at e3
      · rename_i hc
        subst hc
        split at e3
        · rename_i n hG
          split at e3
          · rename_i hn
            cases e3
            obtain ⟨a1, C1, dx1, xs1, hx1, hx2, hx3, hx4, hx5⟩ := id r1
            rw [hC] at hx2
            cases hx2
            subst hx1
            refine ⟨a1, dx1, _, rfl, S1.exB _ _ hx3, ?_⟩
            refine call_w (m := false) (δ := δ') (r := .fz (.int n)) (δ' := δ') (rs := [.fz (.ins _ ns ds)]) S1 ⟨_, _, rfl, r1, rfl⟩ rfl ?_ fun B' ad' w H' s2 p2 S' r' => ?_
            · unfold callG
              rw [if_pos (by show ([] : List Nat).Nodup; exact List.nodup_nil)]
              show ((some ([] : List (List D))).bind _) = _
              simp only [Option.bind_some, renum, hG]
              rfl
            · exact ⟨n, r', hn, kk B' ad' _ H' (s1.trans s2) (p1.trans p2) S' rfl⟩
          · cases e3
        · cases e3
      · cases e3
    | _ => cases e3
/-- isinstance(x, C) of an instance of C -/
def dIsiI (c : Str) (f : EF) : EF := fun δ => (f δ).bind fun p => match p.1 with
  | .fz (.ins c1 _ _) => if c1 = c then some (.fz (.bl true), p.2) else none
  | _ => none
structure IsiC (K : PySem.W.Frag) (C : Addr) : Prop where
  ha : PySem.W.findIn K (.ref C) "__class__" = some (some (.builtin "object.__class__"))
  hn : PySem.W.specialIn K (.builtin "object.__class__") "__get__" = some (some (.builtin "getset_descriptor.__get__"))
  htk : PySem.W.takesIn K (.builtin "object.__class__") = some true
  hm : PySem.W.mroIn K C (.type "object") = some true
theorem pd_isiI {p1 p2 : Pos} (hg : Gl X "isinstance") (hm : X.mg "isinstance" = none) (hgc : Gl X c) (hC : X.mg c = some (.ref C)) (cl : Cls X.K C) (ic : IsiC X.K C) (he : PD X e f) (hdb : (c == ("__debug__" : Str)) = false := by decide)
    (hs : starEach [e, .Name c p1] X.env = (false, eval e X.env) :: starEach [.Name c p1] X.env := by rfl) (hs2 : starEach [.Name c p1] X.env = (false, eval (.Name c p1) X.env) :: starEach [] X.env := by rfl)
    (hpl : (backTo pos (starEach [.Name c p1] X.env)).any (·.1) = false := by rfl) : PD X (.Call (.Name "isinstance" p2) [e, .Name c p1] [] pos) (dIsiI c f) :=
  PE.weak (pe_callB call_isi hg hm (by decide +kernel) (pa_cons he (pa_cons (pe_glob (v := .ref C) hgc hC rfl hdb) pa_nil hs2) hs) (by decide) (by decide) hs hpl) fun σ H Q h => by
    obtain ⟨B, F, ad, δ, r, δ', S, e1, k⟩ := h
    unfold dIsiI at e1
    obtain ⟨⟨x, δ1⟩, e2, e3⟩ := Option.bind_eq_some_iff.mp e1
    refine ⟨B, F, ad, δ, x, δ1, S, e2, fun B1 ad1 v H1 s1 p1 S1 r1 => ?_⟩
    cases x with
    | rf k => cases e3
    | fz d =>
      cases d with
      | ins c1 ns ds =>
        simp only at e3
        split at e3
        · rename_i hc
          subst hc
          cases e3
          obtain ⟨a1, C1, dx1, xs1, hx1, hx2, hx3, hx4, hx5⟩ := id r1
          rw [hC] at hx2
          cases hx2
          subst hx1
          refine ⟨.ref a1, .ref C, .ref C, .ref C, true, rfl, .own C, .base (.ins (S1.exB _ _ hx3) cl ic.ha ic.hn ic.htk ic.hm), ?_, k B1 ad1 _ H1 s1 p1 S1 rfl⟩
          unfold PySem.W.kitOne
          rw [if_pos (by simp)]
        · cases e3
      | _ => cases e3
end
end PK

namespace PK
open PySem L2 PySem.Spec PyProof.Rows
/-! ### the law's own def: from its data function to the hand layer's promise -/
theorem lawSpec {K : PySem.W.Frag} {mg : Str → Option Value} {G : GF} {Pg : List Int → Prop} (hG : ∀ ns : List Int, Pg ns → G [.fz (.scr ns)] [] = some (.val (.bl true), [])) {vs : List V} {H : Hp} {Q : VK} {E : XK}
    (h : ∃ (a : Addr) (ns : List Int), vs = [.ref a] ∧ SqL K H a (ns.map V.int) ∧ Pg ns ∧ ∀ H', Q (.bl true) H') : spD K mg 1 G vs H Q E := by
  obtain ⟨a, ns, rfl, hS, hP, k⟩ := h
  refine ⟨rfl, H, fun _ => none, [], [.fz (.scr ns)], [], .val (.bl true), [], ?_, ⟨_, _, rfl, ⟨a, rfl, hS⟩, rfl⟩, hG ns hP, rfl, fun B' v H' s r => ?_⟩
  · exact ⟨Same.refl _, fun _ _ e => (by cases e), fun _ _ e => (by cases e), List.nodup_nil, rfl, rfl, fun k ds e => (by simp at e), fun k p e => (by simp at e), fun i d e => (by simp at e)⟩
  · have r' : v = .bl true := r.2
    subst r'
    exact k H'
theorem walkLaw {l : PySem.W.OpenLaw} {k : Nat} {q : Program} {loose : List Str} {XP : (Str → Option Value) → Heap → Prop} {YP : World → Heap → Prop} {d : DefRec} {K : Params → PySem.W.Frag} (hn : l.most = some 63) (hdf : d.params.defaults = []) (hr : Room k callerA)
    (hY : ∀ (w : World) (h : Heap), YP w h → (K w.params).In h)
    (F : ∀ (w : World) (mg : Str → Option Value) (fa : Addr) (h : Heap), (K w.params).In h → h.Ns mainGlobals mg → mg d.name = some (.ref fa) →
      ∃ fd : FuncData, (∀ (s : Shared) (u : Value), BindsTo s fd ⟨[u], []⟩ [("script", u)]) ∧ ∀ base : Heap, (K w.params).In base → base.Ns mainGlobals mg → FnOk l.prog w (K w.params) mg base CX0 k fa fd ["script"]
        (fun vs H Q _ => ∃ (a : Addr) (ns : List Int), vs = [.ref a] ∧ SqL (K w.params) H a (ns.map V.int) ∧ (ns.length ≤ 63 ∧ ∀ z ∈ ns, Builtin.Int.intBits z ≤ 1048576) ∧ ∀ H', Q (.bl true) H')) :
    PySem.W.WalkO q loose XP YP l.row.toRowW d [] (fun f vs => PySem.call f vs) :=
  L2.walk_ofB (n := 63) (k := k) (x := "script") (CX := fun _ => CX0) (sp := fun w => _) hn (by decide) hdf hr hY F (fun _ _ a ns hl hb _ hS => ⟨a, ns, rfl, hS, ⟨hl, hb⟩, fun _ => rfl⟩) fun _ _ _ _ _ z => z
end PK

namespace PK
open PySem L2 PySem.Spec PyProof.Rows

/-! ### reckoning with data functions -/
@[simp] theorem ck_nil {δ : Dl} : CkOk [] δ = True := by simp [CkOk]
@[simp] theorem ck_one {δ : Dl} {k : Nat} {ds : List D} : CkOk [(k, ds)] δ = (δ.st[k]? = some (some ds)) := by simp [CkOk]
theorem eqD_int {neg : Bool} {δ : Dl} {i j : Int} : eqD neg δ (.int i) (.int j) = some (.fz (.bl (if neg then !(i == j) else i == j)), δ) := by
  simp [eqD, toPy, SeqAt.shaped, PyData.canLay0, PyData.depth, PyData.eqv]
theorem eqD_str {neg : Bool} {δ : Dl} {x y : Str} (hx : PyData.strOk x = true) (hy : PyData.strOk y = true) : eqD neg δ (.str x) (.str y) = some (.fz (.bl (if neg then !(x == y) else x == y)), δ) := by
  simp [eqD, toPy, SeqAt.shaped, PyData.canLay0, PyData.depth, PyData.eqv, hx, hy]
/-- plain data of a depth -/
def Nice (k : Nat) (d : D) : Prop := ∃ p, toPy d = some p ∧ p.canLay0 = true ∧ p.depth ≤ k
theorem nice_int {k : Nat} {i : Int} : Nice k (.int i) := ⟨.int i, rfl, rfl, Nat.zero_le _⟩
theorem nice_str {k : Nat} {x : Str} (h : PyData.strOk x = true) : Nice k (.str x) := ⟨.str x, rfl, h, Nat.zero_le _⟩
theorem nices {k : Nat} : ∀ {ds : List D}, (∀ d ∈ ds, Nice k d) → ∃ ps, toPys ds = some ps ∧ PyData.canLayAll0 ps = true ∧ PyData.depthAll ps ≤ k
  | [], _ => ⟨[], rfl, rfl, Nat.zero_le _⟩
  | d :: ds, h => by
    obtain ⟨p, h1, h2, h3⟩ := h d List.mem_cons_self
    obtain ⟨ps, g1, g2, g3⟩ := nices (ds := ds) fun x hx => h x (List.mem_cons_of_mem _ hx)
    exact ⟨p :: ps, by simp [toPys, h1, g1], by simp [PyData.canLayAll0, h2, g2], by rw [PyData.depthAll]; exact Nat.max_le.mpr ⟨h3, g3⟩⟩
theorem nice_tup {k : Nat} {ds : List D} (h : ∀ d ∈ ds, Nice k d) : Nice (k + 1) (.tup ds) := by
  obtain ⟨ps, g1, g2, g3⟩ := nices h
  exact ⟨.tuple ps, by simp [toPy, g1], by simp [PyData.canLay0, g2], by simp [PyData.depth, g3]⟩
theorem nice_lst {k : Nat} {ds : List D} (h : ∀ d ∈ ds, Nice k d) : Nice (k + 1) (.lst ds) := by
  obtain ⟨ps, g1, g2, g3⟩ := nices h
  exact ⟨.list ps, by simp [toPy, g1], by simp [PyData.canLay0, g2], by simp [PyData.depth, g3]⟩
theorem eqD_self {neg : Bool} {δ : Dl} {k : Nat} {d : D} (h : Nice k d) (hk : k ≤ 64) : eqD neg δ d d = some (.fz (.bl (!neg)), δ) := by
  obtain ⟨p, h1, h2, h3⟩ := h
  have hs : SeqAt.shaped p = true := by simp [SeqAt.shaped, h2, Nat.le_trans h3 hk]
  simp only [eqD, h1, hs, Bool.and_self, if_pos, PySem.SeqAt.eqv_refl p h2]
  cases neg <;> rfl
theorem eqD_nil {neg : Bool} {δ : Dl} : eqD neg δ (.lst []) (.lst []) = some (.fz (.bl (!neg)), δ) := eqD_self (k := 1) (nice_lst (k := 0) (fun _ h => by cases h)) (by decide)
theorem eqD_app {neg : Bool} {δ : Dl} {k : Nat} {d : D} {ds : List D} (h : ∀ x ∈ d :: ds, Nice k x) (hk : k < 64) : eqD neg δ (.lst (d :: ds)) (.lst []) = some (.fz (.bl neg), δ) := by
  obtain ⟨p, h1, h2, h3⟩ := h d List.mem_cons_self
  obtain ⟨ps, g1, g2, g3⟩ := nices h
  have hs : SeqAt.shaped (.list ps) = true := by
    simp [SeqAt.shaped, PyData.canLay0, g2, PyData.depth]
    omega
  have hn : SeqAt.shaped (.list []) = true := by decide
  cases ps with
  | nil => simp [toPys, h1] at g1; split at g1 <;> simp at g1
  | cons q qs =>
    have t1 : toPy (.lst (d :: ds)) = some (.list (q :: qs)) := by rw [toPy, g1]; rfl
    have t2 : toPy (.lst []) = some (.list []) := rfl
    have t3 : PyData.eqv (.list (q :: qs)) (.list []) = false := by simp [PyData.eqv, PyData.eqvAll]
    simp only [eqD, t1, t2, hs, hn, Bool.and_self, if_pos, t3]
    cases neg <;> rfl
/-- a loop, by an invariant -/
theorem forD_inv {tg : Tg} {body : SF} {ck : List (Nat × List D)} (P : Nat → Dl → Prop) (hck : ∀ i δ, P i δ → CkOk ck δ) : ∀ (its : List D) (i : Nat) (δ : Dl), P i δ →
    (∀ (j : Nat) (d : D) (δ : Dl), its[j]? = some d → P (i + j) δ → ∃ δ1, asgT δ tg d = some δ1 ∧ ∃ δ2, body δ1 = some (.nx, δ2) ∧ P (i + j + 1) δ2) → ∃ δ', forD ck tg body its δ = some (.nx, δ') ∧ P (i + its.length) δ'
  | [], i, δ, h, _ => ⟨δ, by rw [forD, if_pos (hck _ _ h)], h⟩
  | d :: its, i, δ, h, hb => by
    obtain ⟨δ1, e1, δ2, e2, h2⟩ := hb 0 d δ rfl h
    obtain ⟨δ', e3, h3⟩ := forD_inv P hck its (i + 1) δ2 h2 fun j x δ hx hp => by
      obtain ⟨y1, z1, y2, z2, z3⟩ := hb (j + 1) x δ hx (by rw [show i + (j + 1) = i + 1 + j by omega]; exact hp)
      exact ⟨y1, z1, y2, z2, by rw [show i + 1 + j + 1 = i + (j + 1) + 1 by omega]; exact z3⟩
    refine ⟨δ', ?_, by rw [List.length_cons, show i + (its.length + 1) = i + 1 + its.length by omega]; exact h3⟩
    rw [forD, if_pos (hck _ _ h), e1, Option.bind_some, e2, Option.bind_some]
    exact e3
end PK

namespace PK
open PySem L2 PySem.Spec PyProof.Rows

/-! ### != of two instances of one class with an own == -/
section
variable {prog : Program} {w : World} {A : Around} {E : Value → Shared → Prop} {s : Shared} {K : PySem.W.Frag} {x C g : Addr} {ox : Obj} {od : Option Obj} {y : Value}
theorem askNe {Mo : Model} {ar : List Value} {Q : Option Value → Shared → Prop} (hX : K.In s.heap) (hI : PySem.W.InstAt s.heap x ox C od) (h0 : PySem.W.findIn K (.ref C) "__ne__" = some (some (.builtin "object.__ne__")))
    (h1 : wpAny Mo A (call (.builtin "object.__ne__") (.ref x :: ar)) (fun v => Q (some v)) E s) : wpAny Mo A (callSpecialIfBound? (.ref x) "__ne__" ar) Q E s := by
  have last : wpAny Mo A (call (.builtin "object.__ne__") ([.ref x] ++ ar) >>= fun z => pure (some z)) Q E s := wpAny_bind (wpAny_mono h1 (fun _ _ h' => wpAny_pure h') fun _ _ h' => h')
  simp only [bindSpecialIfBound?, callSpecialIfBound?]
  refine wpAny_holding (wpAny_bind (wpAny_bind (wpAny_bind (hI.type.here ((PySem.W.looks_findIn hX h0).here ?z)))))
  refine wpAny_bind (wpAny_askSetting (wpAny_ite ?z2))
  split
  · refine wpAny_bind (wpAny_of_eq (PySem.F.cmp_object.ne.bind _) (wpAny_pure ?z3))
    exact last
  · refine wpAny_tryCatch (wpAny_bind (wpAny_of_eq (PySem.F.cmp_object.ne.bind _) (wpAny_pure ?z4)))
    exact last
theorem objNeK {Q : Fin → Shared → Prop} (hX : K.In s.heap) (hI : PySem.W.InstAt s.heap x ox C od) (hu : A.units < cLine) (h0 : PySem.W.findIn K (.ref C) "__eq__" = some (some (.ref g))) (h1 : PySem.W.isFn K (.ref g) = true)
    (h2 : wpAny (model prog w) A (call (.ref g) [.ref x, y]) (fun v s' => ∃ b, v = .bool b ∧ Q (.done (.ret (.bool (!b)))) s') E s) : wpAny (model prog w) A (Builtin.«object.__ne__» ⟨[.ref x, y], []⟩) Q E s := by
  unfold Builtin.«object.__ne__»
  repeat (first
    | with_reducible refine wpAny_cRoomFor hu ?_
    | (refine wpAny_bind (m := callSpecialIfBound? (.ref x) (Str.ofString "__eq__") [y]) (PySem.W.ifBound_K hX hI h0 h1 (wpAny_mono h2 (fun r s' hr => ?_) fun _ _ e => e))
       obtain ⟨b, rfl, hq⟩ := hr
       repeat (first | exact hq | exact wpAny_pure hq | exact wpAny_truthy_bool hq | (refine wpAny_bind (m := truthy (.bool _)) (wpAny_truthy_bool ?_)) | wp_step))
    | wp_step)
theorem callNeK {Q : Value → Shared → Prop} (hX : K.In s.heap) (hI : PySem.W.InstAt s.heap x ox C od) (hu : A.in1.units < cLine) (hm : PySem.W.mroIn K C (.type "object") = some true) (h0 : PySem.W.findIn K (.ref C) "__eq__" = some (some (.ref g))) (h1 : PySem.W.isFn K (.ref g) = true)
    (h2 : wpAny (model prog w) A.in1 (call (.ref g) [.ref x, y]) (fun v s' => ∃ b, v = .bool b ∧ Q (.bool (!b)) s') E s) : wpAny (model prog w) A (call (.builtin "object.__ne__") [.ref x, y]) Q E s := by
  refine wpAny_call (codeAny_call_builtin PySem.F.cmp_object.ne.plain PySem.F.cmpEntry_ne (PySem.W.check_slot PySem.F.cmpKind_ne PySem.F.cmpSplit_ne (hI.type.andThen (PySem.W.looks_mroIn hX hm)) (PySem.F.cmpArgs_ne _ _) ?_))
  refine objNeK (A := A.in1) hX hI hu h0 h1 (wpAny_mono h2 (fun v s' hv => ?_) fun _ _ e => e)
  obtain ⟨b, rfl, hq⟩ := hv
  exact ⟨b, rfl, hq⟩
theorem tryNeK {Q : Option Value → Shared → Prop} (hX : K.In s.heap) (hI : PySem.W.InstAt s.heap x ox C od) (hu : A.in1.units < cLine) (hm : PySem.W.mroIn K C (.type "object") = some true) (hne : PySem.W.findIn K (.ref C) "__ne__" = some (some (.builtin "object.__ne__"))) (h0 : PySem.W.findIn K (.ref C) "__eq__" = some (some (.ref g))) (h1 : PySem.W.isFn K (.ref g) = true)
    (h2 : wpAny (model prog w) A.in1 (call (.ref g) [.ref x, y]) (fun v s' => ∃ b, v = .bool b ∧ Q (some (.bool (!b))) s') E s) : wpAny (model prog w) A (tryCompare (.ref x) "__ne__" y) Q E s := by
  unfold tryCompare
  refine wpAny_bind (askNe hX hI hne (callNeK hX hI hu hm h0 h1 (wpAny_mono h2 (fun v s' hv => ?_) fun _ _ e => e)))
  obtain ⟨b, rfl, hq⟩ := hv
  exact ⟨b, rfl, wpAny_pure hq⟩
/-- the two are of one class, or the second is of a built-in one -/
theorem rcNeK {tb : Value} {Q : Value → Shared → Prop} (hX : K.In s.heap) (hI : PySem.W.InstAt s.heap x ox C od) (hu : A.units + 1 < cLine) (hb : PySem.W.Looks (model prog w) s.heap (typeOf y) tb) (hn : PySem.W.notFirst K C tb = true) (hm : PySem.W.mroIn K C (.type "object") = some true)
    (hne : PySem.W.findIn K (.ref C) "__ne__" = some (some (.builtin "object.__ne__"))) (h0 : PySem.W.findIn K (.ref C) "__eq__" = some (some (.ref g))) (h1 : PySem.W.isFn K (.ref g) = true)
    (h2 : wpAny (model prog w) A.in1 (call (.ref g) [.ref x, y]) (fun v s' => ∃ b, v = .bool b ∧ Q (.bool (!b)) s') E s) : wpAny (model prog w) A (richCompare .NotEq (.ref x) y) Q E s := by
  have go : wpAny (model prog w) A (tryCompare (.ref x) "__ne__" y) (fun r s' => ∃ b, r = some (.bool (!b)) ∧ Q (.bool (!b)) s') E s :=
    tryNeK hX hI hu hm hne h0 h1 (wpAny_mono h2 (fun v s' ⟨b, e, hq⟩ => ⟨b, e, b, rfl, hq⟩) fun _ _ e => e)
  unfold richCompare
  simp only [oneThing_ref, cmpInfo_NotEq]
  refine wpAny_holding (wpAny_bind (wpAny_cRoomFor (Nat.lt_of_succ_lt hu) ?w1))
  refine wpAny_bind (hI.type.here (wpAny_bind (hb.here ?w2)))
  split
  · rename_i q
    have e : PySem.W.subIn K tb (.ref C) = some false := by
      rcases Bool.or_eq_true_iff.mp hn with e' | e'
      · rw [beq_iff_eq.mp e'] at q
        simp at q
      · exact beq_iff_eq.mp e'
    refine wpAny_bind ((PySem.W.looks_subIn hX e).here ?w3)
    simp only [if_false, Bool.false_eq_true]
    refine wpAny_bind (wpAny_mono go (fun r s' hz => ?w4) fun _ _ e => e)
    obtain ⟨b, rfl, hq⟩ := hz
    exact wpAny_pure hq
  · refine wpAny_bind (wpAny_pure ?w5)
    simp only [if_false, Bool.false_eq_true]
    refine wpAny_bind (wpAny_mono go (fun r s' hz => ?w6) fun _ _ e => e)
    obtain ⟨b, rfl, hq⟩ := hz
    exact wpAny_pure hq
end
def neI (c : Str) (G : GF) : OF := fun δ x y => match eqI c G δ x y with
  | some (.fz (.bl b), δ') => some (.fz (.bl (!b)), δ')
  | _ => none
theorem bo_neI {c : Str} {G : GF} : BoolOf (neI c G) := by
  intro δ x y r δ' e
  unfold neI at e
  split at e
  · cases e; exact ⟨_, rfl⟩
  · cases e
section
variable {X : Cx} {e : Expr} {f : EF} {pos p : Pos} {c : Str} {C : Addr}
theorem od_neI {k : Nat} {g : Addr} {fd : FuncData} {ps : List Str} {G : GF} (hC : X.mg c = some (.ref C)) (Fk : FnOk X.prog X.w X.K X.mg X.base CX0 k g fd ps (spD X.K X.mg 2 G)) (hr : Room (k + 1) X.A)
    (hs : PySem.W.findIn X.K (.ref C) "__eq__" = some (some (.ref g))) (hf : PySem.W.isFn X.K (.ref g) = true) (hb : Binds X.K fd ps []) (hne : PySem.W.findIn X.K (.ref C) "__ne__" = some (some (.builtin "object.__ne__"))) (hm : PySem.W.mroIn X.K C (.type "object") = some true) :
    OpR X (compareOp .NotEq) (rD X.K X.mg (neI c G)) := by
  intro pins s σ H x y v u Q I rx ry h
  obtain ⟨B, F, ad, σ', δ, dx, dy, r, δ', S, vx, vy, e, kk⟩ := h
  show wpAny (model X.prog X.w) X.A (richCompare .NotEq v u) (EP X pins σ Q) X.xe s
  unfold neI at e
  split at e
  · rename_i bb δ1 e0
    cases e
    unfold eqI at e0
    split at e0
    · rename_i c1 ns ds c2 ns2 ds2
      split at e0
      · rename_i hc
        obtain ⟨hc1, hc2⟩ := hc
        subst hc1 hc2
        split at e0
        · rename_i b hG
          cases e0
          obtain ⟨a1, C1, dx1, xs1, hx1, hx2, hx3, hx4, hx5⟩ := id vx
          obtain ⟨a2, C2, dx2, xs2, hy1, hy2, hy3, hy4, hy5⟩ := id vy
          rw [hC] at hx2 hy2
          cases hx2; cases hy2
          subst hx1 hy1
          obtain rfl : v = Value.ref a1 := rx
          obtain rfl : u = Value.ref a2 := ry
          obtain ⟨mA, J, _⟩ := ins_get I.hok (S.exB _ _ hx3)
          obtain ⟨mB, J', _⟩ := ins_get I.hok (S.exB _ _ hy3)
          obtain ⟨od, J, _⟩ := J.look
          obtain ⟨od', J', _⟩ := J'.look
          have hsp : spD X.K X.mg 2 G [.ref a1, .ref a2] H (fun w H' => w = .bl bb ∧ Q (.bl (!bb)) H') E0 := by
            refine call_w (m := false) (δ := δ) (r := .fz (.bl bb)) (δ' := δ) (rs := [.fz (.ins _ ns ds), .fz (.ins _ ns2 ds2)]) S ⟨_, _, rfl, vx, _, _, rfl, vy, rfl⟩ rfl ?_ fun B' ad' w H' s1 p1 S' r' => ?_
            · unfold callG
              rw [if_pos (by show ([] : List Nat).Nodup; exact List.nodup_nil)]
              show ((some ([] : List (List D))).bind _) = _
              simp only [Option.bind_some, renum, hG]
              rfl
            · have r'' : w = .bl bb := r'
              subst r''
              exact ⟨rfl, kk B' ad' _ H' s1 p1 S' rfl⟩
          refine rcNeK (tb := .ref C) I.kIn J (hu_of hr) J'.type (by simp [PySem.W.notFirst]) hm hne hs hf ?_
          have hl : ([Value.ref a1, Value.ref a2]).length = ps.length := by
            rw [← Fk.len _ _ _ _ hsp]
            rfl
          refine wpAny_call (codeAny_mono (Fk.run X.A.in1 X.stack s H ⟨[.ref a1, .ref a2], []⟩ [.ref a1, .ref a2] [.ref a1, .ref a2] _ _ hr.in1 I.env0.in1 (by simpa using hb s [.ref a1, .ref a2] I.kIn hl) (.cons rfl (.cons rfl .nil)) hsp) fun rr s' hq => ?_)
          cases rr with
          | error er => exact False.elim (pass0 (X := X.nox) pins σ H s er s' (I.wish _) hq)
          | ok fl =>
            cases fl with
            | ret z =>
              obtain ⟨v2, H', I3, rv, hv, q3⟩ := I.after hq
              subst hv
              cases rv
              exact ⟨bb, rfl, .bl (!bb), H', I3, rfl, q3⟩
            | next => exact False.elim hq
            | brk => exact False.elim hq
            | cont => exact False.elim hq
        · cases e0
      · cases e0
    · cases e0
  · cases e
end
/-! ### methods called with names -/
abbrev PDK (X : Cx) (kws : List Keyword) (f : AF) := L2.PK X kws (tDA X.K X.mg f)
section
variable {X : Cx} {e : Expr} {f : EF} {nm : Option Str} {kpos : Pos} {kws : List Keyword} {g : AF}
theorem pkWeak {t t' : TA} (h : L2.PK X kws t) (hw : ∀ σ H Q, t' σ H Q → t σ H Q) : L2.PK X kws t' := ⟨fun pos pins s σ H Q I q => h.run pos pins s σ H Q I (hw σ H Q q)⟩
theorem pdk_nil : PDK X [] aNil := pkWeak pk_nil fun σ H Q h => by
  obtain ⟨B, F, ad, δ, r, δ', S, e, k⟩ := h
  unfold aNil at e
  cases e
  exact k B ad [] H (Same.refl _) (Pre.refl _) S rfl
theorem pdk_cons (h : PD X e f) (hr : PDK X kws g) : PDK X (⟨nm, e, kpos⟩ :: kws) (aCons f g) := pkWeak (pk_cons h hr) fun σ H Q h => by
  obtain ⟨B, F, ad, δ, r, δ', S, e, k⟩ := h
  unfold aCons at e
  obtain ⟨⟨x, δ1⟩, e1, e⟩ := Option.bind_eq_some_iff.mp e
  obtain ⟨⟨rs, δ2⟩, e2, e⟩ := Option.map_eq_some_iff.mp e
  cases e
  refine ⟨B, F, ad, δ, x, δ1, S, e1, fun B1 ad1 v H1 s1 p1 S1 r1 => ?_⟩
  refine ⟨B1, F, ad1, δ1, rs, _, S1, e2, fun B2 ad2 vs H2 s2 p2 S2 r2 => ?_⟩
  exact k B2 ad2 (v :: vs) H2 (s1.trans s2) (p1.trans p2) S2 ⟨v, vs, rfl, r1.mono s2 p2, r2⟩
end
section
variable {X : Cx} {o : Expr} {fo : EF} {pos apos : Pos} {kws : List Keyword} {fs : AF} {c m : Str} {C : Addr}
/-- o.m(k = v, ..): what is asked -/
def tMethK (C : Addr) (m : Str) (n : Nat) (sp : Sp) (gV : List V → List V → List V) (ta : TE) (tk : TA) : TE := fun σ H Q => ta σ H fun x H1 => ∃ a dx fs, x = .ref a ∧ H1 a = some (.ins C dx fs) ∧ fs.lookup m = none ∧ tk σ H1 fun zs H2 => zs.length = n ∧ sp (gV [.ref a] zs) H2 Q E0
theorem pe_methK {k : Nat} {g : Addr} {fd : FuncData} {ps ks : List Str} {sp : Sp} {pl : Sem Bool} {ta : TE} {tk : TA} {gg : List Value → List Value → List Value} {gV : List V → List V → List V} (ho : PE X o ta) (cl : Cls X.K C) (hm : Meth X.K C m g) (Fk : FnOk X.prog X.w X.K X.mg X.base CX0 k g fd ps sp) (hr : Room k X.A)
    (hb : KBn X.K fd ps 1 ks gg gV) (ha : L2.PK X kws tk)
    (hall : (backToKw pos (keywordEach kws X.env)).all (·.1.isSome) = true := by rfl) (hks : (backToKw pos (keywordEach kws X.env)).filterMap (·.1) = ks := by rfl)
    (hpl : ((backTo pos (starEach [] X.env)).any (·.1) || (backToKw pos (keywordEach kws X.env)).any (·.1.isNone)) = false := by rfl)
    (ht : eval (.Call (.Attribute o m apos) [] kws pos) X.env = (do
      let ov ← eval o X.env
      standAt apos.atName
      let (f, first) ← holding [ov] (getMethod ov m pl)
      callWith pos f first (backTo pos (starEach [] X.env)) (backToKw pos (keywordEach kws X.env))) := by rfl) :
    PE X (.Call (.Attribute o m apos) [] kws pos) (tMethK C m ks.length sp gV ta tk) := ⟨fun pins s σ H Q I h => by
  refine PySem.W.methodCall_KW (pl := pl) (thn (ho.run pins s σ H _ I h) fun v s1 ⟨x, H1, I1, rx, a, dx, fs, ex, ea, hlk, q⟩ => ?_) ht
  subst ex
  obtain rfl : v = Value.ref a := rx
  refine getmeth_ok I1 ea cl hm hlk ?_
  refine PySem.W.callWith_KW0 (first := [.ref a]) (h₀ := X.base) I1.ok.mod.kin hm.kp hall ?_ hpl
  refine thn (ha.run pos pins s1 σ H1 _ I1 q) fun ws s2 ⟨zs, H2, I2, rz, l1, q2⟩ => ⟨I2.kIn, ?_⟩
  rw [hks]
  exact run_fnN (us := [.ref a]) (vs := [.ref a]) Fk hr hb pass0 I2 (.cons rfl .nil) rz rfl l1 q2⟩
/-- o.m(k = v, ..), the names in the parameters' order -/
theorem pd_methK {k n : Nat} {g : Addr} {fd : FuncData} {ps ks : List Str} {G : GF} {pl : Sem Bool} (mm : Bool) (ho : PD X o fo) (hC : X.mg c = some (.ref C)) (cl : Cls X.K C) (hm : Meth X.K C m g) (Fk : FnOk X.prog X.w X.K X.mg X.base CX0 k g fd ps (spD X.K X.mg n G)) (hr : Room k X.A)
    (hb : KBn X.K fd ps 1 ks (fun us ws => us ++ ws) (fun vs zs => vs ++ zs)) (hn : n = ks.length + 1) (ha : PDK X kws fs)
    (hall : (backToKw pos (keywordEach kws X.env)).all (·.1.isSome) = true := by rfl) (hks : (backToKw pos (keywordEach kws X.env)).filterMap (·.1) = ks := by rfl)
    (hpl : ((backTo pos (starEach [] X.env)).any (·.1) || (backToKw pos (keywordEach kws X.env)).any (·.1.isNone)) = false := by rfl)
    (ht : eval (.Call (.Attribute o m apos) [] kws pos) X.env = (do
      let ov ← eval o X.env
      standAt apos.atName
      let (f, first) ← holding [ov] (getMethod ov m pl)
      callWith pos f first (backTo pos (starEach [] X.env)) (backToKw pos (keywordEach kws X.env))) := by rfl) :
    PD X (.Call (.Attribute o m apos) [] kws pos) (dMeth mm c m n G fo fs) := PE.weak (pe_methK ho cl hm Fk hr hb ha hall hks hpl ht) fun σ H Q h => by
  obtain ⟨B, F, ad, δ, r, δ', S, e, kk⟩ := h
  unfold dMeth at e
  obtain ⟨⟨x, δ1⟩, e1, e⟩ := Option.bind_eq_some_iff.mp e
  split at e
  · rename_i hx
    obtain ⟨⟨rs, δ2⟩, e2, e⟩ := Option.bind_eq_some_iff.mp e
    split at e
    · rename_i hl
      refine ⟨B, F, ad, δ, x, δ1, S, e1, fun B1 ad1 v1 H1 s1 p1 S1 r1 => ?_⟩
      obtain ⟨a, dx, fs, h1, h2, h3⟩ := recv_of hC S1.exB r1 hx
      subst h1
      refine ⟨a, dx, fs, rfl, h2, h3, B1, F, ad1, δ1, rs, δ2, S1, e2, fun B2 ad2 vs H2 s2 p2 S2 r2 => ?_⟩
      have rr : RpVs X.K X.mg B2 ad2 (x :: rs) (V.ref a :: vs) := ⟨_, vs, rfl, r1.mono s2 p2, r2⟩
      refine ⟨?_, ?_⟩
      · have h5 := RpVs.length r2
        have h6 : (x :: rs).length = rs.length + 1 := rfl
        have h7 : (x :: rs).length = n := hl
        omega
      · show spD X.K X.mg n G (V.ref a :: vs) H2 Q E0
        exact call_w S2 rr (by rw [RpVs.length rr]; exact hl) e fun B' ad' v H' s3 p3 S' r' => kk B' ad' v H' ((s1.trans s2).trans s3) ((p1.trans p2).trans p3) S' r'
    · cases e
  · cases e
end
end PK

namespace PK
open PySem L2 PySem.Spec PyProof.Rows

/-! ### a class made with names alone: two of them, exchanged or not -/
def dMake2 (sw : Bool) (c : Str) (G : GIF) (fa : AF) : EF := fun δ => (fa δ).bind fun p => match p.1 with
  | [a, b] => makeG c G (if sw then [b, a] else [a, b]) p.2
  | _ => none
def swp {α : Type} (sw : Bool) : List α → List α → List α := fun us ws => match ws with
  | [a, b] => us ++ (if sw then [b, a] else [a, b])
  | _ => us
section
variable {X : Cx} {kws : List Keyword} {fs : AF} {c : Str} {C : Addr} {p pos : Pos}
theorem pd_makeK2 {k : Nat} {f : Addr} {fd : FuncData} {ps ks : List Str} {G : GIF} (sw : Bool) (M : Mk X.K C f) (Fk : FnOk X.prog X.w X.K X.mg X.base CX0 k f fd ps (spI X.K X.mg c 3 G)) (hr : Room (k + 1) X.A) (hg : Gl X c) (hm : X.mg c = some (.ref C)) (hb : KBn X.K fd ps 1 ks (swp sw) (swp sw)) (hl : ks.length = 2)
    (ha : PDK X kws fs) (hall : (backToKw pos (keywordEach kws X.env)).all (·.1.isSome) = true := by rfl) (hks : (backToKw pos (keywordEach kws X.env)).filterMap (·.1) = ks := by rfl) (hdb : (c == ("__debug__" : Str)) = false := by decide)
    (hpl : ((backTo pos (starEach [] X.env)).any (·.1) || (backToKw pos (keywordEach kws X.env)).any (·.1.isNone)) = false := by rfl) :
    PD X (.Call (.Name c p) [] kws pos) (dMake2 sw c G fs) := PE.weak (pe_makeK0 M Fk hr hg hm hb pass0 ha hall hks hdb hpl) fun σ H Q h => by
  obtain ⟨B, F, ad, δ, r, δ', S, e, k⟩ := h
  unfold dMake2 at e
  obtain ⟨⟨rs, δ1⟩, e1, e⟩ := Option.bind_eq_some_iff.mp e
  match rs, e with
  | [a, b], e =>
    refine ⟨B, F, ad, δ, [a, b], δ1, S, e1, fun B1 ad1 vs H1 s1 p1 S1 r1 => ?_⟩
    obtain ⟨va, vr, rfl, ra, vb, vr2, rfl, rb, hnil⟩ := r1
    have hnil' : vr2 = [] := hnil
    subst hnil'
    refine ⟨rfl, hl.symm, fun x dx hx hd hne => ?_⟩
    cases sw with
    | false => exact make_w (vs := [va, vb]) (rs := [a, b]) hm S1 ⟨_, _, rfl, ra, _, _, rfl, rb, rfl⟩ rfl e hx hd hne fun B' ad' v H' s2 p2 S' r' => k B' ad' v H' (s1.trans s2) (p1.trans p2) S' r'
    | true => exact make_w (vs := [vb, va]) (rs := [b, a]) hm S1 ⟨_, _, rfl, rb, _, _, rfl, ra, rfl⟩ rfl e hx hd hne fun B' ad' v H' s2 p2 S' r' => k B' ad' v H' (s1.trans s2) (p1.trans p2) S' r'
  | [], e => cases e
  | [a], e => cases e
  | a :: b :: c :: r, e => cases e
end

/-! ### isinstance of an own class, of anything -/
section
variable {K : PySem.W.Frag} {C : Addr}
structure IsiA (K : PySem.W.Frag) (C : Addr) : Prop where
  hc : (PySem.W.clsIn K C).isSome = true
  ht : PySem.W.typeIn K (.ref C) = some (.type "type")
theorem sub_tyD {d : D} {t : String} (h : tyD d = some t) : PySem.W.subIn K (.type t) (.ref C) = some false := by
  have go : ∀ (t : String) (bs : List Value), fastBuiltinMro t = some bs → bs.contains (.ref C) = false → PySem.W.subIn K (.type t) (.ref C) = some false := fun t bs e1 e2 => by
    show (fastBuiltinMro t).map (·.contains (.ref C)) = some false
    rw [e1, Option.map_some, e2]
  cases d <;> simp only [tyD] at h <;> first
    | (cases h
       first
         | exact go "NoneType" [.type "NoneType", .type "object"] (by decide +kernel) (by simp)
         | exact go "bool" [.type "bool", .type "int", .type "object"] (by decide +kernel) (by simp)
         | exact go "int" [.type "int", .type "object"] (by decide +kernel) (by simp)
         | exact go "str" [.type "str", .type "object"] (by decide +kernel) (by simp)
         | exact go "list" [.type "list", .type "object"] (by decide +kernel) (by simp)
         | exact go "tuple" [.type "tuple", .type "object"] (by decide +kernel) (by simp))
    | cases h
theorem kit_tyD {d : D} {t : String} (a : IsiA K C) (h : tyD d = some t) : PySem.W.kitOne K (.type t) (.ref C) = some false := by
  unfold PySem.W.kitOne
  rw [if_neg (by simp)]
  show (if ((PySem.W.clsIn K C).isSome && PySem.W.typeIn K (.ref C) == some (.type "type")) = true then PySem.W.subIn K (.type t) (.ref C) else none) = some false
  rw [if_pos (by rw [a.hc, a.ht]; simp), sub_tyD h]
end
def dIsiA (c : Str) (f : EF) : EF := fun δ => (f δ).bind fun p => match p.1 with
  | .fz (.ins c1 ns ds) => if c1 = c then some (.fz (.bl true), p.2) else none
  | r => (der p.2 r).bind fun d => (tyD d).map fun _ => (.fz (.bl false), p.2)
section
variable {X : Cx} {e : Expr} {f : EF} {pos : Pos} {c : Str} {C : Addr}
theorem pd_isiA {p1 p2 : Pos} (hg : Gl X "isinstance") (hm : X.mg "isinstance" = none) (hgc : Gl X c) (hC : X.mg c = some (.ref C)) (cl : Cls X.K C) (ic : IsiC X.K C) (ia : IsiA X.K C) (he : PD X e f) (hdb : (c == ("__debug__" : Str)) = false := by decide)
    (hs : starEach [e, .Name c p1] X.env = (false, eval e X.env) :: starEach [.Name c p1] X.env := by rfl) (hs2 : starEach [.Name c p1] X.env = (false, eval (.Name c p1) X.env) :: starEach [] X.env := by rfl)
    (hpl : (backTo pos (starEach [.Name c p1] X.env)).any (·.1) = false := by rfl) : PD X (.Call (.Name "isinstance" p2) [e, .Name c p1] [] pos) (dIsiA c f) :=
  PE.weak (pe_callB call_isi hg hm (by decide +kernel) (pa_cons he (pa_cons (pe_glob (v := .ref C) hgc hC rfl hdb) pa_nil hs2) hs) (by decide) (by decide) hs hpl) fun σ H Q h => by
    obtain ⟨B, F, ad, δ, r, δ', S, e1, k⟩ := h
    unfold dIsiA at e1
    obtain ⟨⟨x, δ1⟩, e2, e3⟩ := Option.bind_eq_some_iff.mp e1
    refine ⟨B, F, ad, δ, x, δ1, S, e2, fun B1 ad1 v H1 s1 p1 S1 r1 => ?_⟩
    have other : ((der δ1 x).bind fun d => (tyD d).map fun _ => (Vl.fz (D.bl false), δ1)) = some (r, δ') → ∃ (y cc : V) (t u : Value) (b : Bool), [v, V.ref C] = [y, cc] ∧ ClsV cc u ∧ TyX X.K H1 y t ∧ PySem.W.kitOne X.K t u = some b ∧ Q (.bl b) H1 := fun e4 => by
      obtain ⟨d, e5, e6⟩ := Option.bind_eq_some_iff.mp e4
      obtain ⟨t, e7, e8⟩ := Option.map_eq_some_iff.mp e6
      cases e8
      exact ⟨v, .ref C, .type t, .ref C, false, rfl, .own C, ty_of S1.exB (S1.vw r1 e5) e7, kit_tyD ia e7, k B1 ad1 _ H1 s1 p1 S1 rfl⟩
    cases x with
    | rf kk => exact other e3
    | fz d =>
      cases d with
      | ins c1 ns ds =>
        simp only at e3
        split at e3
        · rename_i hc
          subst hc
          cases e3
          obtain ⟨a1, C1, dx1, xs1, hx1, hx2, hx3, hx4, hx5⟩ := id r1
          rw [hC] at hx2
          cases hx2
          subst hx1
          refine ⟨.ref a1, .ref C, .ref C, .ref C, true, rfl, .own C, .base (.ins (S1.exB _ _ hx3) cl ic.ha ic.hn ic.htk ic.hm), ?_, k B1 ad1 _ H1 s1 p1 S1 rfl⟩
          unfold PySem.W.kitOne
          rw [if_pos (by simp)]
        · cases e3
      | _ => exact other e3
end
end PK

namespace PK
open PySem L2 PySem.Spec PyProof.Rows

/-! ### == of an own instance with anything that is not a changing list -/
def rDF (K : PySem.W.Frag) (mg : Str → Option Value) (g : OF) : R2 := fun x y H Q => ∃ B F ad σ δ dx dy r δ', SRep K mg B F ad σ δ H ∧ Rp K mg B dx x ∧ Rp K mg B dy y ∧ g δ dx dy = some (r, δ') ∧
  ∀ B' ad' v H', Same B B' → Pre ad ad' → SRep K mg B' F ad' σ δ' H' → RpV K mg B' ad' r v → Q v H'
def dOpF (g : OF) (fa fb : EF) : EF := fun δ => (fa δ).bind fun p => (fb p.2).bind fun q => match p.1, q.1 with
  | .fz a, .fz b => g q.2 a b
  | _, _ => none
theorem dOpF_w {K : PySem.W.Frag} {mg : Str → Option Value} {g : OF} {fa fb : EF} {σ : L2.St} {H : Hp} {Q : VK} (h : tD K mg (dOpF g fa fb) σ H Q) : tOp (rDF K mg g) (tD K mg fa) (tD K mg fb) σ H Q := by
  obtain ⟨B, F, ad, δ, r, δ', S, e, k⟩ := h
  unfold dOpF at e
  obtain ⟨⟨x, δ1⟩, e1, e2⟩ := Option.bind_eq_some_iff.mp e
  obtain ⟨⟨y, δ2⟩, e3, e4⟩ := Option.bind_eq_some_iff.mp e2
  refine ⟨B, F, ad, δ, x, δ1, S, e1, fun B1 ad1 v1 H1 s1 p1 S1 r1 => ?_⟩
  refine ⟨B1, F, ad1, δ1, y, δ2, S1, e3, fun B2 ad2 v2 H2 s2 p2 S2 r2 => ?_⟩
  cases x with
  | rf i => cases e4
  | fz dx =>
    cases y with
    | rf i => cases e4
    | fz dy => exact ⟨B2, F, ad2, σ, δ2, dx, dy, r, δ', S2, Rp.mono s2 dx v1 r1, r2, e4, fun B3 ad3 v H3 s3 p3 S3 r3 => k B3 ad3 v H3 ((s1.trans s2).trans s3) ((p1.trans p2).trans p3) S3 r3⟩
theorem pd_cmpF {X : Cx} {a b : Expr} {fa fb : EF} {pos : Pos} {op : CmpOp} {g : OF} (ho : OpR X (compareOp op) (rDF X.K X.mg g)) (ha : PD X a fa) (hb : PD X b fb) (hm : behindInMarks op b = false := by rfl) : PD X (.Compare a [op] [b] pos) (dOpF g fa fb) :=
  PE.weak (pe_cmpR ho ha hb hm) fun σ H Q h => dOpF_w h
def eqA (c : Str) (G : GF) : OF := fun δ x y => match x with
  | .ins c1 ns ds => if c1 = c then match y with
      | .ins c2 ns2 ds2 => eqI c G δ (.ins c1 ns ds) (.ins c2 ns2 ds2)
      | y => if (tyD y).isSome then match G [.fz (.ins c1 ns ds), .fz y] [] with
          | some (.val (.bl b), []) => some (.fz (.bl b), δ)
          | _ => none
        else none
    else none
  | _ => none
theorem eqA_ty {c : Str} {G : GF} {δ δ' : Dl} {r : Vl} {ns : List Str} {ds : List D} {c1 : Str} {y : D} {t : String} (ht : tyD y = some t) (e : eqA c G δ (.ins c1 ns ds) y = some (r, δ')) : c1 = c ∧ ∃ b, G [.fz (.ins c1 ns ds), .fz y] [] = some (.val (.bl b), []) ∧ r = .fz (.bl b) ∧ δ' = δ := by
  unfold eqA at e
  simp only at e
  split at e
  · rename_i hc
    refine ⟨hc, ?_⟩
    cases y with
    | ins _ _ _ => cases ht
    | scr _ => cases ht
    | exc _ _ => cases ht
    | _ =>
      simp only [tyD, Option.isSome_some, if_true] at e
      split at e
      · rename_i b hG
        cases e
        exact ⟨b, hG, rfl, rfl⟩
      · cases e
  · cases e
section
variable {X : Cx} {c : Str} {C : Addr}
theorem od_eqA {k : Nat} {g : Addr} {fd : FuncData} {ps : List Str} {G : GF} (hC : X.mg c = some (.ref C)) (Fk : FnOk X.prog X.w X.K X.mg X.base CX0 k g fd ps (spD X.K X.mg 2 G)) (hr : Room k X.A)
    (hs : PySem.W.findIn X.K (.ref C) "__eq__" = some (some (.ref g))) (hf : PySem.W.isFn X.K (.ref g) = true) (hb : Binds X.K fd ps []) : OpR X (compareOp .Eq) (rDF X.K X.mg (eqA c G)) := by
  intro pins s σ H x y v u Q I rx ry h
  obtain ⟨B, F, ad, σ', δ, dx, dy, r, δ', S, vx, vy, e, kk⟩ := h
  have deal : ∀ t, tyD dy = some t → wpAny (model X.prog X.w) X.A (compareOp .Eq v u) (EP X pins σ Q) X.xe s := fun t ht => by
    cases dx with
    | ins c1 ns ds =>
      obtain ⟨hc, b, hG, hr1, hd1⟩ := eqA_ty ht e
      subst hc hr1 hd1
      show wpAny (model X.prog X.w) X.A (richCompare .Eq v u) (EP X pins σ Q) X.xe s
      obtain ⟨a1, C1, dx1, xs1, hx1, hx2, hx3, hx4, hx5⟩ := id vx
      rw [hC] at hx2
      cases hx2
      subst hx1
      obtain rfl : v = Value.ref a1 := rx
      obtain ⟨mA, J, _⟩ := ins_get I.hok (S.exB _ _ hx3)
      obtain ⟨od, J, _⟩ := J.look
      obtain ⟨m, hF⟩ := I.fr
      obtain ⟨P, kx, hp, _⟩ := kit_of I ry (ty_of S.exB (Rp.vw S.exB vy) ht)
      refine PySem.W.cmp_K (op := .Eq) (tb := .type t) hr.units0 hF I.ok.mod.kin J (kx.ty _ _ I.kIn hp) (by simp [PySem.W.notFirst, sub_tyD ht]) hs hf ?_
      have hsp : spD X.K X.mg 2 G [.ref a1, y] H (fun w H' => w = .bl b ∧ Q (.bl b) H') E0 := by
        refine call_w (m := false) (δ := δ') (r := .fz (.bl b)) (δ' := δ') (rs := [.fz (.ins _ ns ds), .fz dy]) S ⟨_, _, rfl, vx, _, _, rfl, vy, rfl⟩ rfl ?_ fun B' ad' w H' s1 p1 S' r' => ?_
        · unfold callG
          rw [if_pos (by show ([] : List Nat).Nodup; exact List.nodup_nil)]
          show ((some ([] : List (List D))).bind _) = _
          simp only [Option.bind_some, renum, hG]
          rfl
        · have r'' : w = .bl b := r'
          subst r''
          exact ⟨rfl, kk B' ad' _ H' s1 p1 S' rfl⟩
      refine wpAny_mono (run_fn (us := [.ref a1, u]) (vs := [.ref a1, y]) Fk hr hb .nil pass0 I (.cons rfl (.cons ry .nil)) (by simpa using hsp)) (fun w s' hq => ?_) fun _ _ z => z
      obtain ⟨z, H', I', rz, ez, q⟩ := hq
      subst ez
      cases rz
      exact ⟨.bl b, H', I', rfl, q⟩
    | _ => cases e
  cases dy with
  | ins c2 ns2 ds2 =>
    cases dx with
    | ins c1 ns ds =>
      unfold eqA at e
      simp only at e
      split at e
      · exact od_eqI hC Fk hr hs hf hb pins s σ H x y v u Q I rx ry ⟨B, F, ad, σ', δ, _, _, r, δ', S, Rp.vw S.exB vx, Rp.vw S.exB vy, e, kk⟩
      · cases e
    | _ => cases e
  | scr ns =>
    cases dx with
    | ins c1 ns1 ds =>
      unfold eqA at e
      simp only [tyD] at e
      split at e <;> cases e
    | _ => cases e
  | exc cc zz =>
    cases dx with
    | ins c1 ns1 ds =>
      unfold eqA at e
      simp only [tyD] at e
      split at e <;> cases e
    | _ => cases e
  | non => exact deal _ rfl
  | bl b => exact deal _ rfl
  | int i => exact deal _ rfl
  | str z => exact deal _ rfl
  | lst z => exact deal _ rfl
  | tup z => exact deal _ rfl
end
theorem boolOpF {g : OF} {fa fb : EF} (hg : BoolOf g) : ∀ δ r δ', dOpF g fa fb δ = some (r, δ') → ∃ b, r = .fz (.bl b) := fun δ r δ' e => by
  unfold dOpF at e
  obtain ⟨⟨x, δ1⟩, e1, e2⟩ := Option.bind_eq_some_iff.mp e
  obtain ⟨⟨y, δ2⟩, e3, e4⟩ := Option.bind_eq_some_iff.mp e2
  cases x with
  | rf i => cases e4
  | fz dx =>
    cases y with
    | rf i => cases e4
    | fz dy => exact hg _ _ _ _ _ e4
theorem bo_eqA {c : Str} {G : GF} : BoolOf (eqA c G) := by
  intro δ x y r δ' e
  cases x with
  | ins c1 ns ds =>
    cases h : tyD y with
    | some t =>
      obtain ⟨_, b, _, hr, _⟩ := eqA_ty h e
      exact ⟨b, hr⟩
    | none =>
      unfold eqA at e
      simp only at e
      split at e
      · cases y with
        | ins c2 ns2 ds2 => exact bo_eqI _ _ _ _ _ e
        | scr z => simp [tyD] at e
        | exc z zz => simp [tyD] at e
        | _ => simp [tyD] at h
      · cases e
  | _ => cases e
theorem pdt_cmpF {X : Cx} {a b : Expr} {fa fb : EF} {pos : Pos} {op : CmpOp} {g : OF} (hg : BoolOf g) (ho : OpR X (compareOp op) (rDF X.K X.mg g)) (ha : PD X a fa) (hb : PD X b fb) (hm : behindInMarks op b = false := by rfl) : PDT X (.Compare a [op] [b] pos) (dB (dOpF g fa fb)) :=
  PT.weak (pt_cmpR ho ha hb hm) fun σ H Q h => tTest_w (fun σ H Q h => dOpF_w h) h (boolOpF hg)
end PK

namespace PK
open PySem L2 PySem.Spec PyProof.Rows
/-! ### defs that show their data: they are called while nothing is being shown -/
structure FnG (P : Program) (w : World) (K : PySem.W.Frag) (mg : Str → Option Value) (base : Heap) (k : Nat) (f : Addr) (fd : FuncData) (ps : List Str) (sp : Sp) : Prop where
  size : ∀ vs hp post ex, sp vs hp post ex → vs.length = ps.length
  go : ∀ (A : Around), Room k A → A.guards = some [] → ∀ (outer : List Env) (sh : Shared) (hp : Hp) (args : Args) (us : List Value) (vs : List V) (post : VK) (ex : XK), Env0 P w K mg base A outer sh hp → BindsTo sh fd args (ps.zip us) → Vals vs us → sp vs hp post ex →
    codeAny (model P w) A (.call (.ref f) args) (CR CX0 outer P w hp sh post ex) sh
section
variable {P : Program} {w : World} {K : PySem.W.Frag} {mg : Str → Option Value} {base : Heap}
theorem FnG.imp {k : Nat} {f : Addr} {fd : FuncData} {ps : List Str} {sp sp' : Sp} (F : FnG P w K mg base k f fd ps sp) (h : ∀ vs hp post ex, sp' vs hp post ex → sp vs hp post ex) : FnG P w K mg base k f fd ps sp' :=
  ⟨fun vs hp post ex q => F.size vs hp post ex (h _ _ _ _ q), fun A rm gd outer sh hp args us vs post ex e0 bd rv good => F.go A rm gd outer sh hp args us vs post ex e0 bd rv (h _ _ _ _ good)⟩
theorem fnG_mk {x qual : Str} {st : Stmt} {f : Addr} {fd : FuncData} {N ps : List Str} {k : Nat} {sp : Sp} (F : Fun K x qual st f fd) (S : FnScope N ps (defScope st)) (size : ∀ vs hp post ex, sp vs hp post ex → vs.length = ps.length)
    (body : ∀ (cdv : Value) (A : Around) (outer : List Env) (sh : Shared) (hp : Hp) (vs : List V) (post : VK) (ex : XK), Room k (A.deeper (envOfC qual (defScope st) sh.heap.objs.size f cdv)) → A.guards = some [] → sp vs hp post ex →
      ∃ t, PSs (cxOf CX0 P w K mg base N qual (defScope st) f cdv A outer sh hp ex).nox (defBody st) t ∧ t { nx := fun _ hq => post .non hq, rt := post } (start N vs) hp) : FnG P w K mg base (k + 1) f fd ps sp := by
  obtain ⟨oc, od, kV, doc, pm, an, cdv, ct, osl, rfl, found, coded⟩ := F.ex
  refine ⟨size, fun A rm gd outer sh hp args us vs post ex e0 bd rv good => ?_⟩
  have sizes := size _ _ _ _ good
  have frag : K.In sh.heap := e0.mod.kin.keeps fun b o got => (e0.bs b o got).1
  have free : sh.heap.NoLimit := e0.mod.nolimit.keeps fun b o got => (e0.bs b o got).1
  have kinds : ∀ y ∈ ps.zip us, (defScope st).names.lookup y.1 = some .local ∨ ((defScope st).names.lookup y.1 = some .cell ∧ ((cellsFrom (sh.heap.objs.size + 1) (defScope st).names []).lookup y.1).isSome = true) := fun ⟨nm, val⟩ among => by
    cases S.par nm (List.of_mem_zip among).1 with
    | inl one => exact .inl one
    | inr two => exact .inr ⟨two, PySem.W.cellsFrom_some _ _ _ (.inl two)⟩
  refine codeAny_call_function rm.depth (frag _ _ found) rfl S.co S.gen rfl (PySem.W.codeRec_of frag coded) (bd _ _ _ _ ?_)
  refine wpAny_newFunctionEnv_cells S.kind kinds fun env mine sh1 entered => ?_
  subst mine
  refine ⟨free.keeps entered.toInCall.keep, codeAny_func ?_⟩
  obtain ⟨t, runs, asks⟩ := body cdv A outer sh hp vs post ex (rm.deeper _) gd good
  have inv : Inv (cxOf CX0 P w K mg base N qual (defScope st) f cdv A outer sh hp ex) [] (start N vs) hp sh1 := inv_start S rm.hd e0 sizes rv entered
  refine wpAny_mono (runs.nox.run [] sh1 (start N vs) hp _ inv asks) (fun way sh2 ends => ?_) fun bad sh2 ends => ends
  cases way with
  | ret u =>
    obtain ⟨v, σ2, hp2, inv2, same, good2⟩ := ends
    exact ⟨v, hp2, inv2.os, inv2.bare, inv2.base, inv2.hok, same, good2⟩
  | next =>
    obtain ⟨σ2, hp2, inv2, good2⟩ := ends
    exact ⟨.non, hp2, inv2.os, inv2.bare, inv2.base, inv2.hok, rfl, good2⟩
  | brk => obtain ⟨_, _, _, none2⟩ := ends; exact False.elim none2
  | cont => obtain ⟨_, _, _, none2⟩ := ends; exact False.elim none2
end
section
variable {X : Cx} {k : Nat} {f : Addr} {fd : FuncData} {ps : List Str} {sp : Sp}
theorem runG {pins : List (Addr × Obj)} {σ : L2.St} {hp : Hp} {sh : Shared} {post : VK} {us : List Value} {vs : List V} (F : FnG X.prog X.w X.K X.mg X.base k f fd ps sp) (rm : Room k X.A) (gd : X.A.guards = some []) (hb : Binds X.K fd ps [])
    (inv : Inv X pins σ hp sh) (rv : Vals vs us) (good : sp vs hp post E0) : wpAny (model X.prog X.w) X.A (call (.ref f) us) (EP X pins σ post) X.xe sh := by
  have sizes : (us ++ []).length = ps.length := by rw [List.append_nil, ← rv.length]; exact F.size _ _ _ _ good
  have binds := hb sh us inv.kIn sizes
  rw [List.append_nil] at binds
  refine wpAny_call (codeAny_mono (F.go X.A rm gd X.stack sh hp ⟨us, []⟩ us vs post E0 inv.env0 binds rv good) fun res sh2 done => ?_)
  cases res with
  | error e => exact False.elim done
  | ok fl =>
    cases fl with
    | ret u => exact inv.after done
    | next => exact False.elim done
    | brk => exact False.elim done
    | cont => exact False.elim done
theorem pe_callG {x : Str} {p pos : Pos} {e : Expr} {es : List Expr} {t : TA} (F : FnG X.prog X.w X.K X.mg X.base k f fd ps sp) (rm : Room k X.A) (gd : X.A.guards = some []) (hg : Gl X x) (hm : X.mg x = some (.ref f)) (hk : PySem.W.keepIn X.K (.ref f) = true) (hb : Binds X.K fd ps [])
    (ha : PA X (e :: es) t) (hdb : (x == ("__debug__" : Str)) = false := by decide) (he : starEach (e :: es) X.env = (false, eval e X.env) :: starEach es X.env := by rfl) (hpl : (backTo pos (starEach es X.env)).any (·.1) = false := by rfl) :
    PE X (.Call (.Name x p) (e :: es) [] pos) (fun σ hp post => t σ hp fun vs hq => sp vs hq post E0) := ⟨fun pins sh σ hp post inv asks => wpAny_Call_Name_kw (ld_glob inv hg hm
    (PySem.W.callWith_K (h₀ := X.base) inv.ok.mod.kin hk (thn (ha.run pos pins sh σ hp _ inv asks) fun us sh1 got => by
      obtain ⟨vs, hp1, inv1, rv, good⟩ := got
      exact ⟨inv1.kIn, runG F rm gd hb inv1 rv good⟩) he hpl) hdb)⟩
end
end PK

namespace PK
open PySem L2 PySem.Spec PyProof.Rows
section
variable {P : Program} {w : World} {K : PySem.W.Frag} {mg : Str → Option Value} {base : Heap}
/-- a def that may show data: its body, while nothing is being shown -/
theorem fn_okDG {x qual : Str} {st : Stmt} {f : Addr} {fd : FuncData} {N ps : List Str} {k : Nat} {fs : SF} (F : Fun K x qual st f fd) (S : FnScope N ps (defScope st))
    (hbody : ∀ (cdv : Value) (A : Around) (outer : List Env) (s : Shared) (H : Hp) (E : XK), Room k (A.deeper (envOfC qual (defScope st) s.heap.objs.size f cdv)) → A.guards = some [] → PDSs (cxOf CX0 P w K mg base N qual (defScope st) f cdv A outer s H E).nox (defBody st) fs) :
    FnG P w K mg base (k + 1) f fd ps (spD K mg ps.length (fnD N.length fs)) := by
  refine fnG_mk F S (fun vs H Q E h => h.1) (fun cdv A outer s H vs Q E hr gd h => ?_)
  refine ⟨_, hbody cdv A outer s H E hr gd, ?_⟩
  obtain ⟨hlen, B, Fr, ad, rs, cs, r, cs', S0, rv, e, hl, kk⟩ := h
  unfold fnD at e
  obtain ⟨⟨fl, δ'⟩, e1, e⟩ := Option.bind_eq_some_iff.mp e
  obtain ⟨cs2, e2, e⟩ := Option.bind_eq_some_iff.mp e
  have S1 : SRep K mg B Fr ad (start N vs) ⟨rs.map some ++ List.replicate (N.length - rs.length) none, cs.map some⟩ H := rps_start (δ := ⟨[], cs.map some⟩) S0 rv
  have hadl : ad.length = cs.length := by
    have := S0.len
    simpa using this
  refine ⟨B, Fr, ad, _, fl, δ', S1, e1, fun B' ad' σ' H' sB pA S' => ?_⟩
  obtain ⟨m, rfl⟩ := pA
  have base : SRep K mg B' Fr ad [] ⟨[], cs2.map some⟩ H' := by
    have := S'.pick e2 List.nodup_range
    rw [← hadl, addrs_range] at this
    exact this
  cases fl with
  | nx =>
    cases e
    exact kk B' .non H' sB ⟨base, rfl⟩
  | bk => cases e
  | ct => cases e
  | rt v =>
    intro u hu
    cases v with
    | fz d =>
      cases e
      exact kk B' u H' sB ⟨base, hu⟩
    | rf j =>
      simp only at e
      split at e
      · rename_i hj
        split at e
        · rename_i es hes
          cases e
          obtain ⟨a, rfl, ha⟩ := hu
          refine kk B' _ H' sB ⟨a, rfl, ?_⟩
          have hnd : (List.range cs.length ++ [j]).Nodup := by
            rw [List.nodup_append]
            refine ⟨List.nodup_range, by simp, fun x hx y hy => ?_⟩
            have hy' : y = j := by simpa using hy
            have hx' : x < cs.length := by simpa using hx
            omega
          have := S'.pick (lives_app e2 hes) hnd
          rw [addrs_app _ _ _ _ ha, ← hadl, addrs_range] at this
          exact this
        · cases e
      · cases e
end
section
variable {X : Cx} {e : Expr} {es : List Expr} {fs : AF} {p pos : Pos}
theorem pd_callG {k n : Nat} {f : Addr} {fd : FuncData} {ps : List Str} {G : GF} {x : Str} (m : Bool) (Fk : FnG X.prog X.w X.K X.mg X.base k f fd ps (spD X.K X.mg n G)) (hr : Room k X.A) (gd : X.A.guards = some []) (hg : Gl X x) (hm : X.mg x = some (.ref f)) (hk : PySem.W.keepIn X.K (.ref f) = true)
    (hb : Binds X.K fd ps []) (ha : PDA X (e :: es) fs) (hdb : (x == ("__debug__" : Str)) = false := by decide) (he : starEach (e :: es) X.env = (false, eval e X.env) :: starEach es X.env := by rfl)
    (hpl : (backTo pos (starEach es X.env)).any (·.1) = false := by rfl) : PD X (.Call (.Name x p) (e :: es) [] pos) (dCallN m n G fs) :=
  PE.weak (pe_callG Fk hr gd hg hm hk hb ha hdb he hpl) fun σ H Q h => by
    obtain ⟨B, F, ad, δ, r, δ', S, e, k⟩ := h
    unfold dCallN at e
    obtain ⟨⟨rs, δ1⟩, e1, e⟩ := Option.bind_eq_some_iff.mp e
    split at e
    · rename_i hl
      refine ⟨B, F, ad, δ, rs, δ1, S, e1, fun B1 ad1 vs H1 s1 p1 S1 r1 => ?_⟩
      exact call_w S1 r1 (by rw [r1.length]; exact hl) e fun B' ad' v H' s2 p2 S' r' => k B' ad' v H' (s1.trans s2) (p1.trans p2) S' r'
    · cases e
end
/-! ### repr -/
mutual
theorem noDict_of : ∀ d : PyData, d.canLay0 = true → d.hasDict = false
  | .none, _ => rfl
  | .bool _, _ => rfl
  | .int _, _ => rfl
  | .str _, _ => rfl
  | .list xs, h => by
    rw [PyData.hasDict]
    exact noDict_all xs (by simpa [PyData.canLay0] using h)
  | .tuple xs, h => by
    rw [PyData.hasDict]
    exact noDict_all xs (by simpa [PyData.canLay0] using h)
  | .dict _, h => by simp [PyData.canLay0] at h
theorem noDict_all : ∀ ds : List PyData, PyData.canLayAll0 ds = true → PyData.hasDictAll ds = false
  | [], _ => rfl
  | d :: ds, h => by
    have h' : d.canLay0 = true ∧ PyData.canLayAll0 ds = true := by simpa [PyData.canLayAll0] using h
    rw [PyData.hasDictAll, noDict_of d h'.1, noDict_all ds h'.2]
    rfl
end
/-- plain data whose text is not too long -/
def rpOk (p : PyData) : Bool := p.canLay0 && p.showable && p.intsShort 400 && decide (p.weight ≤ 40000) && decide (p.depth ≤ 60)
theorem rpOk_len {p : PyData} (h : rpOk p = true) : p.shown.length ≤ sizeLine := by
  simp only [rpOk, Bool.and_eq_true, decide_eq_true_eq] at h
  have h2 := PyData.shown_le 400 (by decide) p (PyData.leavesShort_of_canLay0 400 p h.1.1.1.1 h.1.1.2)
  have e : sizeLine = 16777216 := by decide
  omega
def reprD : CF := g1 fun δ d => match toPy d with
  | some p => if rpOk p then some (.fz (.str p.shown), δ) else none
  | none => none
section
variable {X : Cx}
theorem oc_repr (gd : X.A.guards = some []) (hu : X.A.units + 64 < cLine) : CallR X (.builtin "repr") (rDC X.K X.mg reprD) := by
  intro pins s σ H xs us Q I r h
  obtain ⟨v, rfl, B, F, ad, σ', δ, d, r', δ', S, vw, e, k⟩ := rDC1 h
  obtain ⟨u, rfl, rel⟩ := vals1 r
  cases hp : toPy d with
  | none => rw [hp] at e; cases e
  | some p =>
    rw [hp] at e
    simp only at e
    split at e
    · rename_i ok
      cases e
      have q : Q (.str p.shown) H := here (d := .str p.shown) S rfl k
      have size := rpOk_len ok
      have dp : Dp X.K H v p := dpw_of S.exB vw hp
      obtain ⟨as, rd⟩ := Dp.reads I p v u dp rel
      simp only [rpOk, Bool.and_eq_true, decide_eq_true_eq] at ok
      have noD := noDict_of p ok.1.1.1.1
      cases rd with
      | none => exact PySem.P.repr_of_none ⟨.str _, H, I.tok _, ⟨_, rfl⟩, q⟩
      | bool b => exact PySem.P.repr_of_bool ⟨.str _, H, I.tok _, ⟨_, rfl⟩, q⟩
      | int i t =>
        have hi : i.natAbs.log2 < 1920 := by simpa [PyData.showable] using ok.1.1.1.2
        exact PySem.P.repr_of_int hi ⟨.str _, H, I.tok _, ⟨_, rfl⟩, q⟩
      | str x t => exact PySem.P.repr_of_str ⟨.str _, H, I.tok _, ⟨_, rfl⟩, q⟩ size
      | list h1 h2 h3 h4 => exact PySem.repr_of_reads' (h₀ := s.heap) (.list h1 h2 h3 h4) ok.1.1.1.2 (PyData.noDict_hsm noD) gd (by omega) (fun _ _ e => e) (fun h' u2 tk kept => ⟨.str _, H, I.kept kept, ⟨_, rfl⟩, q⟩) size
      | tuple h1 h2 h3 h4 => exact PySem.repr_of_reads' (h₀ := s.heap) (.tuple h1 h2 h3 h4) ok.1.1.1.2 (PyData.noDict_hsm noD) gd (by omega) (fun _ _ e => e) (fun h' u2 tk kept => ⟨.str _, H, I.kept kept, ⟨_, rfl⟩, q⟩) size
      | dict _ _ _ _ _ => cases noD
    · cases e
/-- two texts -/
def eqS (neg : Bool) : OF := fun δ x y => match x, y with
  | .str a, .str b => some (.fz (.bl (if neg then !decide (a = b) else decide (a = b))), δ)
  | _, _ => none
theorem eqS_w {K : PySem.W.Frag} {mg : Str → Option Value} {neg : Bool} {x y : V} {H : Hp} {Q : VK} (h : rD K mg (eqS neg) x y H Q) : scal x y = true ∧ Q (.bl (if neg then !decide (x = y) else decide (x = y))) H := by
  obtain ⟨B, F, ad, σ', δ, dx, dy, r, δ', S, vx, vy, e, k⟩ := h
  unfold eqS at e
  split at e
  · rename_i a b
    cases e
    have hx : x = .str a := vx
    have hy : y = .str b := vy
    subst hx hy
    refine ⟨rfl, ?_⟩
    have q := here (d := .bl (if neg then !decide (a = b) else decide (a = b))) S rfl k
    have hab : (V.str a = V.str b) ↔ a = b := ⟨fun z => by cases z; rfl, fun z => by rw [z]⟩
    simp only [hab]
    exact q
  · cases e
theorem od_eqS : OpR X (compareOp .Eq) (rD X.K X.mg (eqS false)) := fun pins s σ H x y v u Q I rx ry h => op_eq pins s σ H x y v u Q I rx ry (eqS_w h)
theorem od_neS : OpR X (compareOp .NotEq) (rD X.K X.mg (eqS true)) := fun pins s σ H x y v u Q I rx ry h => op_ne pins s σ H x y v u Q I rx ry (eqS_w h)
theorem bo_eqS {neg : Bool} : BoolOf (eqS neg) := by
  intro δ x y r δ' e
  unfold eqS at e
  split at e
  · cases e; exact ⟨_, rfl⟩
  · cases e
end
end PK

namespace PK
open PySem L2 PySem.Spec PyProof.Rows
/-! ### a law whose defs show data -/
theorem endG {P : Program} {w : World} {K : PySem.W.Frag} {mg mb : Str → Option Value} {k : Nat} {fa a : Addr} {fd : FuncData} {sp : Sp} {sh : Shared} {vs : List Value} {ns : List Int} (KX : K.In sh.heap) (gl : sh.heap.Ns mainGlobals mg) (bl : sh.heap.Ns builtinsNs mb)
    (bb : ∀ x : Str, x ≠ "__name__" → mb x = bootBuiltins x) (lim : sh.heap.NoLimit) (gens : sh.gens = #[]) (obj : sh.heap.get? a = some { cls := .type "list", data := .seq vs.toArray }) (nums : IntsAre vs ns) (short : ns.length ≤ sizeLine) (rm : Room k callerA)
    (F : ∀ base : Heap, K.In base → base.Ns mainGlobals mg → FnG P w K mg base k fa fd ["script"] sp) (bind : ∀ (s : Shared) (u : Value), BindsTo s fd ⟨[u], []⟩ [("script", u)])
    (asks : ∀ H : Hp, SqL K H a (ns.map V.int) → sp [.ref a] H (fun v _ => v = .bl true) fun _ _ _ => False) :
    codeAny (model P w) callerA (.call (.ref fa) ⟨[.ref a], []⟩) (fun res st => res = .ok (.ret (.bool true)) ∧ OldK sh.heap st.heap ∧ st.os = sh.os ∧ AllBare st.gens) sh := by
  have vals := vals_ints nums
  have many := nums.length
  obtain ⟨H, hH⟩ : ∃ H : Hp, H = fun b => if b = a ∧ K.lookup a = none then some (.frz { cls := .type "list", data := .seq vs.toArray } (.lst (ns.map V.int))) else none := ⟨_, rfl⟩
  have only : ∀ b u, H b = some u → b = a ∧ K.lookup a = none ∧ u = .frz { cls := .type "list", data := .seq vs.toArray } (.lst (ns.map V.int)) := fun b u e => by
    rw [hH] at e
    simp only at e
    split at e
    · rename_i c
      cases e
      exact ⟨c.1, c.2, rfl⟩
    · cases e
  have sq : SqL K H a (ns.map V.int) := by
    cases hk : K.lookup a with
    | some o =>
      have same := KX a o hk
      rw [obj] at same
      cases same
      exact .inr ⟨_, vs.toArray, _, hk, rfl, rfl, rfl, by rw [List.size_toArray, many]; exact short, by simpa using vals⟩
    | none => exact .inl (.inr ⟨{ cls := .type "list", data := .seq vs.toArray }, by rw [hH]; exact if_pos ⟨rfl, hk⟩⟩)
  have hok : HOk P w H sh.heap := fun b u e => by
    obtain ⟨rfl, _, rfl⟩ := only b u e
    exact ⟨obj, by rw [List.length_map]; exact short, vs, _, vals, obj⟩
  have bare : ∀ {b : Addr} {o : Obj} {es : Array DictEntry} {ep : Nat}, sh.heap.get? b = some o → o.data = .dict es ep → H b = none := fun {b o es ep} e d => by
    cases q : H b with
    | none => rfl
    | some u =>
      obtain ⟨rfl, _⟩ := only b u q
      rw [obj] at e
      cases e
      have d' : Data.seq vs.toArray _ = Data.dict es ep := d
      cases d'
  have names : ∀ {b : Addr} {m : Str → Option Value}, sh.heap.Ns b m → (hidT sh.heap H).Ns b m := fun {b m} h => by
    obtain ⟨o, es, ep, e, d, r⟩ := h
    exact ⟨o, es, ep, hidT_get e (bare e d), d, r⟩
  have KB : K.In (hidT sh.heap H) := fun b o e => hidT_get (KX b o e) (by
    cases q : H b with
    | none => rfl
    | some u =>
      obtain ⟨rfl, n, _⟩ := only b u q
      rw [n] at e
      cases e)
  obtain ⟨mc, free, cap⟩ := lim
  have mod : Mod K mg (hidT sh.heap H) := ⟨KB, names gl, ⟨mb, names bl, bb⟩, mc, names free, cap⟩
  have e0 : Env0 P w K mg (hidT sh.heap H) callerA [] sh H := ⟨rfl, mod, fun b o e => of_hidT e, Nat.le_of_eq (hidT_size _ _), trivial, fun b hb => (by cases hb), hok, .of_eq gens⟩
  refine codeAny_mono ((F _ KB (names gl)).go callerA rm rfl [] sh H ⟨[.ref a], []⟩ [.ref a] [.ref a] _ _ e0 (bind sh (.ref a)) (.cons rfl .nil) (asks H sq)) fun res st done => ?_
  match res, done with
  | .ok (.ret u), done =>
    obtain ⟨v, H2, os, ag, un, hok2, rel, good⟩ := done
    have good' : v = .bl true := good
    subst good'
    obtain rfl : u = Value.bool true := rel
    refine ⟨rfl, OldK.of_keep fun b o e => ?_, os, ag⟩
    cases q : H b with
    | none => exact un.keep b o e q (fun z => by cases z) (fun z => by cases z)
    | some u =>
      obtain ⟨rfl, _, rfl⟩ := only b u q
      obtain ⟨e1, _⟩ := hok b _ q
      obtain ⟨e2, _⟩ := hok2 b _ (un.frzs b _ _ q)
      rw [e] at e1
      cases e1
      exact e2
theorem walkLawG {l : PySem.W.OpenLaw} {k : Nat} {q : Program} {loose : List Str} {XP : (Str → Option Value) → Heap → Prop} {YP : World → Heap → Prop} {d : DefRec} {K : Params → PySem.W.Frag} (hn : l.most = some 63) (hdf : d.params.defaults = []) (hr : Room k callerA)
    (hY : ∀ (w : World) (h : Heap), YP w h → (K w.params).In h)
    (F : ∀ (w : World) (mg : Str → Option Value) (fa : Addr) (h : Heap), (K w.params).In h → h.Ns mainGlobals mg → mg d.name = some (.ref fa) →
      ∃ fd : FuncData, (∀ (s : Shared) (u : Value), BindsTo s fd ⟨[u], []⟩ [("script", u)]) ∧ ∀ base : Heap, (K w.params).In base → base.Ns mainGlobals mg → FnG l.prog w (K w.params) mg base k fa fd ["script"]
        (fun vs H Q _ => ∃ (a : Addr) (ns : List Int), vs = [.ref a] ∧ SqL (K w.params) H a (ns.map V.int) ∧ (ns.length ≤ 63 ∧ ∀ z ∈ ns, Builtin.Int.intBits z ≤ 1048576) ∧ ∀ H', Q (.bl true) H')) :
    PySem.W.WalkO q loose XP YP l.row.toRowW d [] (fun f vs => PySem.call f vs) := by
  refine Att.attach_callB hn hdf fun w st0 sh mg mb fa o pm cd doc a vs ns ground Y ho hd hcd named obj nums many bits gens => ?_
  obtain ⟨fd, bind, good⟩ := F w mg fa _ (hY w _ Y) ground.T.g named
  exact endG (hY w _ Y) ground.T.g ground.T.b ground.T.builtins ground.T.nolimit gens obj nums (Nat.le_trans many (by decide)) hr good bind fun H sq => ⟨a, ns, rfl, sq, ⟨many, bits⟩, fun _ => rfl⟩
end PK

namespace PK
open PySem L2 PySem.Spec PyProof.Rows
/-! ### data that may be shown, by size -/
def Shw (w k : Nat) (d : D) : Prop := ∃ p, toPy d = some p ∧ p.canLay0 = true ∧ p.showable = true ∧ p.intsShort 400 = true ∧ p.weight ≤ w ∧ p.depth ≤ k
theorem shw_int {i : Int} (h : i.natAbs < 2 ^ 390) : Shw 390 0 (.int i) := by
  have hl : i.natAbs.log2 < 390 ∨ i.natAbs = 0 := by
    rcases Nat.eq_zero_or_pos i.natAbs with e | e
    · exact .inr e
    · exact .inl ((Nat.log2_lt (by omega)).mpr h)
  have hl2 : i.natAbs.log2 < 390 := by
    rcases hl with e | e
    · exact e
    · rw [e]; decide
  refine ⟨.int i, rfl, rfl, ?_, ?_, ?_, Nat.zero_le _⟩
  · simp only [PyData.showable, decide_eq_true_eq]
    omega
  · have h2 := int_text_length_le (k := 390) (by decide) hl2
    refine decide_eq_true ?_
    show (Str.ofString (toString i)).length ≤ 400
    rw [PySem.ofString_length]
    omega
  · simp only [PyData.weight]
    split <;> omega
theorem shw_non : Shw 0 0 .non := ⟨.none, rfl, rfl, rfl, rfl, Nat.le_refl _, Nat.le_refl _⟩
theorem shw_bl {b : Bool} : Shw 0 0 (.bl b) := ⟨.bool b, rfl, rfl, rfl, rfl, Nat.le_refl _, Nat.le_refl _⟩
theorem shw_str {x : Str} (h : PyData.strOk x = true) : Shw x.cps.size 0 (.str x) := ⟨.str x, rfl, h, rfl, rfl, Nat.le_refl _, Nat.le_refl _⟩
theorem shws {w k : Nat} : ∀ {ds : List D}, (∀ d ∈ ds, Shw w k d) → ∃ ps, toPys ds = some ps ∧ PyData.canLayAll0 ps = true ∧ PyData.showableAll ps = true ∧ PyData.intsShortAll 400 ps = true ∧ PyData.weightAll ps ≤ (w + 1) * ds.length ∧ PyData.depthAll ps ≤ k
  | [], _ => ⟨[], rfl, rfl, rfl, rfl, Nat.zero_le _, Nat.zero_le _⟩
  | d :: ds, h => by
    obtain ⟨p, h1, h2, h3, h4, h5, h6⟩ := h d List.mem_cons_self
    obtain ⟨ps, g1, g2, g3, g4, g5, g6⟩ := shws (ds := ds) fun x hx => h x (List.mem_cons_of_mem _ hx)
    refine ⟨p :: ps, by simp [toPys, h1, g1], by simp [PyData.canLayAll0, h2, g2], by simp [PyData.showableAll, h3, g3], by simp [PyData.intsShortAll, h4, g4], ?_, by rw [PyData.depthAll]; exact Nat.max_le.mpr ⟨h6, g6⟩⟩
    rw [PyData.weightAll, List.length_cons, Nat.mul_succ]
    omega
theorem shw_tup {w k : Nat} {ds : List D} (h : ∀ d ∈ ds, Shw w k d) : Shw ((w + 1) * ds.length) (k + 1) (.tup ds) := by
  obtain ⟨ps, g1, g2, g3, g4, g5, g6⟩ := shws h
  exact ⟨.tuple ps, by simp [toPy, g1], by simp [PyData.canLay0, g2], by simp [PyData.showable, g3], by simp [PyData.intsShort, g4], by simpa [PyData.weight] using g5, by simp [PyData.depth, g6]⟩
theorem shw_lst {w k : Nat} {ds : List D} (h : ∀ d ∈ ds, Shw w k d) : Shw ((w + 1) * ds.length) (k + 1) (.lst ds) := by
  obtain ⟨ps, g1, g2, g3, g4, g5, g6⟩ := shws h
  exact ⟨.list ps, by simp [toPy, g1], by simp [PyData.canLay0, g2], by simp [PyData.showable, g3], by simp [PyData.intsShort, g4], by simpa [PyData.weight] using g5, by simp [PyData.depth, g6]⟩
theorem Shw.up {w k w' k' : Nat} {d : D} (h : Shw w k d) (hw : w ≤ w') (hk : k ≤ k') : Shw w' k' d := by
  obtain ⟨p, h1, h2, h3, h4, h5, h6⟩ := h
  exact ⟨p, h1, h2, h3, h4, Nat.le_trans h5 hw, Nat.le_trans h6 hk⟩
theorem Shw.rp {w k : Nat} {d : D} (h : Shw w k d) (hw : w ≤ 40000) (hk : k ≤ 60) : ∃ t, ∀ δ, reprD δ [d] = some (.fz (.str t), δ) := by
  obtain ⟨p, h1, h2, h3, h4, h5, h6⟩ := h
  have ok : rpOk p = true := by
    have a : p.weight ≤ 40000 := Nat.le_trans h5 hw
    have b : p.depth ≤ 60 := Nat.le_trans h6 hk
    simp [rpOk, h2, h3, h4, a, b]
  exact ⟨p.shown, fun δ => by simp [reprD, PK.g1, h1, ok]⟩
/-! ### reckoning with data functions, by parts -/
theorem cb1_ {g : CF} {f : EF} {δ δ1 : Dl} {r : Vl} {d : D} (e : f δ = some (r, δ1)) (hd : der δ1 r = some d) : dCB g (aCons f aNil) δ = g δ1 [d] := by
  simp [dCB, aCons, aNil, e, ders, hd]
/-- the texts of equal data are equal -/
theorem rp_same {neg : Bool} {w k : Nat} {fa fb : EF} {δ δ1 δ2 : Dl} {r1 r2 : Vl} {d : D} (h : Shw w k d) (hw : w ≤ 40000) (hk : k ≤ 60) (ea : fa δ = some (r1, δ1)) (da : der δ1 r1 = some d) (eb : fb δ1 = some (r2, δ2)) (db : der δ2 r2 = some d) :
    dOp (eqS neg) (dCB reprD (aCons fa aNil)) (dCB reprD (aCons fb aNil)) δ = some (.fz (.bl (!neg)), δ2) := by
  obtain ⟨t, ht⟩ := h.rp hw hk
  have e1 := (cb1_ (g := reprD) ea da).trans (ht δ1)
  have e2 := (cb1_ (g := reprD) eb db).trans (ht δ2)
  simp only [dOp, e1, Option.bind_some, e2, der, eqS]
  cases neg <;> simp
end PK

namespace PK
open PySem L2 PySem.Spec PyProof.Rows
theorem cl0 {G : GF} {m : Bool} {n : Nat} {fa : AF} {δ δ' : Dl} {rs : List Vl} {d : D} (ea : fa δ = some (rs, δ')) (hl : rs.length = n) (hr : refs rs = []) (eG : G (renum 0 rs) [] = some (.val d, [])) :
    dCallN m n G fa δ = some (.fz d, δ') := by
  simp [dCallN, ea, hl, callG, hr, lives, eG, PK.putAll]
theorem cl1 {G : GF} {m : Bool} {n k : Nat} {fa : AF} {δ δ' : Dl} {rs : List Vl} {p p' : List D} {d : D} (ea : fa δ = some (rs, δ')) (hl : rs.length = n) (hr : refs rs = [k]) (ek : δ'.st[k]? = some (some p)) (eG : G (renum 0 rs) [p] = some (.val d, [p'])) :
    dCallN m n G fa δ = some (.fz d, { δ' with st := δ'.st.set k (some p') }) := by
  simp [dCallN, ea, hl, callG, hr, lives, ek, eG, PK.putAll]
theorem cl2 {G : GF} {m : Bool} {n k l : Nat} {fa : AF} {δ δ' : Dl} {rs : List Vl} {p p' q q' : List D} {d : D} (ea : fa δ = some (rs, δ')) (hl : rs.length = n) (hr : refs rs = [k, l]) (hkl : k ≠ l) (ek : δ'.st[k]? = some (some p)) (el : δ'.st[l]? = some (some q)) (eG : G (renum 0 rs) [p, q] = some (.val d, [p', q'])) :
    dCallN m n G fa δ = some (.fz d, { δ' with st := (δ'.st.set k (some p')).set l (some q') }) := by
  simp [dCallN, ea, hl, callG, hr, lives, ek, el, eG, PK.putAll, hkl]
theorem cl0f {G : GF} {m : Bool} {n : Nat} {fa : AF} {δ δ' : Dl} {rs : List Vl} {es : List D} (ea : fa δ = some (rs, δ')) (hl : rs.length = n) (hr : refs rs = []) (eG : G (renum 0 rs) [] = some (.fresh es, [])) :
    dCallN m n G fa δ = some (PK.mk m es δ') := by
  simp [dCallN, ea, hl, callG, hr, lives, eG, PK.putAll]
theorem cl1f {G : GF} {m : Bool} {n k : Nat} {fa : AF} {δ δ' : Dl} {rs : List Vl} {p p' es : List D} (ea : fa δ = some (rs, δ')) (hl : rs.length = n) (hr : refs rs = [k]) (ek : δ'.st[k]? = some (some p)) (eG : G (renum 0 rs) [p] = some (.fresh es, [p'])) :
    dCallN m n G fa δ = some (PK.mk m es { δ' with st := δ'.st.set k (some p') }) := by
  simp [dCallN, ea, hl, callG, hr, lives, ek, eG, PK.putAll]
theorem sPar2 {i j : Nat} {fa : AF} {δ δ' : Dl} {x y : Vl} (h : fa δ = some ([x, y], δ')) : sPar [i, j] fa δ = some (.nx, { δ' with sl := (δ'.sl.set i (some x)).set j (some y) }) := by
  rw [sPar, h]
  rfl
theorem aC {f : EF} {g : AF} {δ δ1 δ2 : Dl} {r : Vl} {rs : List Vl} (h : f δ = some (r, δ1)) (h2 : g δ1 = some (rs, δ2)) : aCons f g δ = some (r :: rs, δ2) := by
  simp [aCons, h, h2]
theorem sSet_ {i : Nat} {f : EF} {δ δ1 : Dl} {r : Vl} (h : f δ = some (r, δ1)) : sSet i f δ = some (.nx, { δ1 with sl := δ1.sl.set i (some r) }) := by simp [sSet, h]
theorem sSeq_nx {f g : SF} {δ δ1 : Dl} (h : f δ = some (.nx, δ1)) : sSeq f g δ = g δ1 := by simp [sSeq, h]
theorem eqD_ne {k : Nat} {neg : Bool} {δ : Dl} {acc : List D} (h : acc ≠ []) (hn : ∀ x ∈ acc, Nice k x) (hk : k < 64) : eqD neg δ (.lst acc) (.lst []) = some (.fz (.bl neg), δ) := by
  cases acc with
  | nil => exact absurd rfl h
  | cons d ds => exact eqD_app hn hk
theorem dOp_ {g : OF} {fa fb : EF} {δ δ1 δ2 : Dl} {x y : Vl} {a b : D} (h1 : fa δ = some (x, δ1)) (h2 : fb δ1 = some (y, δ2)) (ha : der δ2 x = some a) (hb : der δ2 y = some b) : dOp g fa fb δ = g δ2 a b := by simp [dOp, h1, h2, ha, hb]
theorem dB_ {f : EF} {δ δ1 : Dl} {b : Bool} (h : f δ = some (.fz (.bl b), δ1)) : dB f δ = some (b, δ1) := by simp [dB, h, der, truD]
theorem sIf_ {t : BF} {f g : SF} {δ δ1 : Dl} {b : Bool} (h : t δ = some (b, δ1)) : sIf t f g δ = if b = true then f δ1 else g δ1 := by simp [sIf, h]
theorem cut_from (xs : List D) (k : Nat) : cutD xs (some (k : Int)) Option.none = xs.drop k := by
  rw [cutD, HT.sIx_nat, HT.sIx_none]
  by_cases h : k ≤ xs.length
  · rw [Nat.min_eq_left h, List.take_of_length_le (by simp)]
  · rw [Nat.min_eq_right (by omega), List.drop_eq_nil_of_le (Nat.le_refl _), List.drop_eq_nil_of_le (by omega)]
    simp
theorem cut_to (xs : List D) (k : Nat) : cutD xs Option.none (some (k : Int)) = xs.take k := by
  rw [cutD, HT.sIx_nat, HT.sIx_none]
  by_cases h : k ≤ xs.length
  · rw [Nat.min_eq_left h]
    simp
  · rw [Nat.min_eq_right (by omega), List.drop_zero, Nat.sub_zero, List.take_of_length_le (Nat.le_refl _), List.take_of_length_le (by omega)]
theorem sl_from {m : Bool} {f fl : EF} {δ δ1 δ2 : Dl} {xs : List D} {k : Nat} (e1 : f δ = some (.fz (.lst xs), δ1)) (e2 : fl δ1 = some (.fz (.int k), δ2)) : dSl m f (oSome fl) oNone δ = some (mk m (xs.drop k) δ2) := by
  simp [dSl, e1, e2, oSome, oNone, der, slD, cut_from]
theorem sl_to {m : Bool} {f fl : EF} {δ δ1 δ2 : Dl} {xs : List D} {k : Nat} (e1 : f δ = some (.fz (.lst xs), δ1)) (e2 : fl δ1 = some (.fz (.int k), δ2)) : dSl m f oNone (oSome fl) δ = some (mk m (xs.take k) δ2) := by
  simp [dSl, e1, e2, oSome, oNone, der, slD, cut_to]
theorem slt_from {m : Bool} {f fl : EF} {δ δ1 δ2 : Dl} {xs : List D} {k : Nat} (e1 : f δ = some (.fz (.tup xs), δ1)) (e2 : fl δ1 = some (.fz (.int k), δ2)) : dSl m f (oSome fl) oNone δ = some (.fz (.tup (xs.drop k)), δ2) := by
  simp [dSl, e1, e2, oSome, oNone, der, slD, cut_from]
theorem slt_to {m : Bool} {f fl : EF} {δ δ1 δ2 : Dl} {xs : List D} {k : Nat} (e1 : f δ = some (.fz (.tup xs), δ1)) (e2 : fl δ1 = some (.fz (.int k), δ2)) : dSl m f oNone (oSome fl) δ = some (.fz (.tup (xs.take k)), δ2) := by
  simp [dSl, e1, e2, oSome, oNone, der, slD, cut_to]
theorem add_t {xs ys : List D} {fa fb : EF} {δ δ1 δ2 : Dl} (e1 : fa δ = some (.fz (.tup xs), δ1)) (e2 : fb δ1 = some (.fz (.tup ys), δ2)) (hl : xs.length + ys.length ≤ 1000) : dOp (addD false) fa fb δ = some (.fz (.tup (xs ++ ys)), δ2) := by
  refine (dOp_ e1 e2 rfl rfl).trans ?_
  have : xs.length + ys.length ≤ small := by simp [small]; omega
  simp only [addD, this, if_true]
theorem lcGo_fil {α : Type} {ck : List (Nat × List D)} {own : List Nat} {test : BF} {elt : EF} {i : Nat} {sl : List (Option Vl)} {st : List (Option (List D))} {en out : α → D} {keep : α → Bool} (hck : CkOk ck ⟨sl, st⟩) : ∀ (xs : List α) (acc : List D), acc.length + xs.length ≤ small →
    (∀ x ∈ xs, ∃ sl', test ⟨sl.set i (some (.fz (en x))), st⟩ = some (keep x, ⟨sl', st⟩) ∧ (keep x = true → ∃ sl2, elt ⟨sl', st⟩ = some (.fz (out x), ⟨sl2, st⟩))) → lcGo ck (.nm i) own test elt sl (xs.map en) acc ⟨sl, st⟩ = some (acc ++ (xs.filter keep).map out, ⟨sl, st⟩)
  | [], acc, _, _ => by simp [lcGo, hck]
  | x :: xs, acc, hl, h => by
    rw [List.length_cons] at hl
    obtain ⟨sl', e, e2⟩ := h x List.mem_cons_self
    have h1 : acc.length < small := by omega
    cases hk : keep x with
    | true =>
      obtain ⟨sl2, e3⟩ := e2 hk
      have ih := lcGo_fil (own := own) hck xs (acc ++ [out x]) (by simp; omega) fun y hy => h y (List.mem_cons_of_mem _ hy)
      rw [List.append_assoc, List.singleton_append] at ih
      rw [List.map_cons, List.filter_cons, if_pos hk, List.map_cons, ← ih, lcGo]
      rw [hk] at e
      simp [h1, asgT, e, e3, frz, hck]
    | false =>
      have ih := lcGo_fil (own := own) hck xs acc (by omega) fun y hy => h y (List.mem_cons_of_mem _ hy)
      rw [List.map_cons, List.filter_cons, if_neg (by rw [hk]; exact Bool.false_ne_true), ← ih, lcGo]
      rw [hk] at e
      simp [h1, asgT, e, frz, hck]
theorem eqD_comm {neg : Bool} {δ : Dl} {a b : D} : eqD neg δ a b = eqD neg δ b a := by
  unfold eqD
  cases toPy a <;> cases toPy b <;> simp [PySem.W.eqv_comm, Bool.and_comm]
theorem eqD_val {k : Nat} {a b : D} (ha : Nice k a) (hb : Nice k b) (hk : k ≤ 64) : ∃ x, ∀ neg δ, eqD neg δ a b = some (.fz (.bl (neg != x)), δ) := by
  obtain ⟨p, h1, h2, h3⟩ := ha
  obtain ⟨q, g1, g2, g3⟩ := hb
  have hp : SeqAt.shaped p = true := by simp [SeqAt.shaped, h2, Nat.le_trans h3 hk]
  have hq : SeqAt.shaped q = true := by simp [SeqAt.shaped, g2, Nat.le_trans g3 hk]
  exact ⟨PyData.eqv p q, fun neg δ => by cases neg <;> simp [eqD, h1, g1, hp, hq]⟩
theorem nice_bl {k : Nat} {b : Bool} : Nice k (.bl b) := ⟨.bool b, rfl, rfl, Nat.zero_le _⟩
theorem eq_bl {neg x : Bool} {δ : Dl} : eqD neg δ (.bl x) (.bl x) = some (.fz (.bl (!neg)), δ) := eqD_self (k := 0) nice_bl (by decide)
theorem eq_same {k : Nat} {d : D} (h : Nice k d) (hk : k ≤ 64) (δ : Dl) (neg : Bool) : eqD neg δ d d = some (.fz (.bl (!neg)), δ) := eqD_self h hk
theorem mt0 {G : GF} {c m : Str} {mm : Bool} {n : Nat} {fo : EF} {fa : AF} {δ δ1 δ2 : Dl} {x : D} {rs : List Vl} {d : D} (e : fo δ = some (.fz x, δ1)) (hr : recvOk c m (.fz x) = true) (ea : fa δ1 = some (rs, δ2)) (hl : (Vl.fz x :: rs).length = n) (hrf : refs (Vl.fz x :: rs) = []) (eG : G (renum 0 (Vl.fz x :: rs)) [] = some (.val d, [])) :
    dMeth mm c m n G fo fa δ = some (.fz d, δ2) := by
  subst hl
  simp only [dMeth, e, Option.bind_some, hr, if_true, ea, if_pos, callG, hrf, List.nodup_nil, lives, eG, List.length_nil, PK.putAll]
theorem mt0f {G : GF} {c m : Str} {mm : Bool} {n : Nat} {fo : EF} {fa : AF} {δ δ1 δ2 : Dl} {x : D} {rs : List Vl} {es : List D} (e : fo δ = some (.fz x, δ1)) (hr : recvOk c m (.fz x) = true) (ea : fa δ1 = some (rs, δ2)) (hl : (Vl.fz x :: rs).length = n) (hrf : refs (Vl.fz x :: rs) = []) (eG : G (renum 0 (Vl.fz x :: rs)) [] = some (.fresh es, [])) :
    dMeth mm c m n G fo fa δ = some (PK.mk mm es δ2) := by
  subst hl
  simp only [dMeth, e, Option.bind_some, hr, if_true, ea, if_pos, callG, hrf, List.nodup_nil, lives, eG, List.length_nil, PK.putAll]
theorem lenI_ {c : Str} {G : GF} {f : EF} {δ δ1 : Dl} {ns : List Str} {ds : List D} {k : Nat} (h : f δ = some (.fz (.ins c ns ds), δ1)) (e : G [.fz (.ins c ns ds)] [] = some (.val (.int k), [])) (hk : k < 1000) : dLenI c G f δ = some (.fz (.int k), δ1) := by
  have h1 : (k : Int) < 2 ^ 62 := by omega
  simp only [dLenI, h, Option.bind_some, if_true, e]
  rw [if_pos ⟨by omega, h1⟩]
theorem bOr_ff {f g : BF} {δ δ1 δ2 : Dl} (h : f δ = some (false, δ1)) (h2 : g δ1 = some (false, δ2)) : bOr f g δ = some (false, δ2) := by simp [bOr, h, h2]
theorem bNot_ {f : BF} {δ δ1 : Dl} {b : Bool} (h : f δ = some (b, δ1)) : bNot f δ = some (!b, δ1) := by simp [bNot, h]
theorem forD_nm {i : Nat} {body : SF} {d : D} {ds : List D} {δ δ2 : Dl} {r : Option (Fl × Dl)} (h : body ⟨δ.sl.set i (some (.fz d)), δ.st⟩ = some (.nx, δ2)) (h2 : forD [] (.nm i) body ds δ2 = r) : forD [] (.nm i) body (d :: ds) δ = r := by
  rw [forD, if_pos (by simp)]
  simp only [asgT, Option.bind_some, h, h2]
theorem forD_nil0 {tg : Tg} {body : SF} {δ : Dl} : forD [] tg body [] δ = some (.nx, δ) := by
  rw [forD, if_pos (by simp)]
theorem bAnd_t {f g : BF} {δ δ1 : Dl} (h : f δ = some (true, δ1)) : bAnd f g δ = g δ1 := by simp [bAnd, h]
theorem bAnd_f {f g : BF} {δ δ1 : Dl} (h : f δ = some (false, δ1)) : bAnd f g δ = some (false, δ1) := by simp [bAnd, h]
theorem lcGo_map {α : Type} {own : List Nat} {elt : EF} {i : Nat} {sl : List (Option Vl)} {st : List (Option (List D))} {en out : α → D} : ∀ (xs : List α) (acc : List D), acc.length + xs.length ≤ small →
    (∀ x ∈ xs, ∃ sl', elt ⟨sl.set i (some (.fz (en x))), st⟩ = some (.fz (out x), ⟨sl', st⟩)) → lcGo [] (.nm i) own bYes elt sl (xs.map en) acc ⟨sl, st⟩ = some (acc ++ xs.map out, ⟨sl, st⟩)
  | [], acc, _, _ => by simp [lcGo]
  | x :: xs, acc, hl, h => by
    rw [List.length_cons] at hl
    obtain ⟨sl', e⟩ := h x List.mem_cons_self
    have ih := lcGo_map (own := own) xs (acc ++ [out x]) (by simp; omega) fun y hy => h y (List.mem_cons_of_mem _ hy)
    have h1 : acc.length < small := by omega
    rw [List.append_assoc, List.singleton_append] at ih
    rw [List.map_cons, List.map_cons, ← ih, lcGo]
    simp [h1, asgT, bYes, e, frz]
theorem atI_last {α : Type} (xs : List α) (x : α) : atI (xs ++ [x]) (-1) = some x := by
  unfold atI ixN
  rw [if_neg (by decide), List.length_append, List.length_singleton, if_pos (by omega), Option.bind_some, show (-1 + ((xs.length + 1 : Nat) : Int)).toNat = xs.length by omega]
  simp
end PK

namespace PK
open PySem L2 PySem.Spec PyProof.Rows
/-! ### while, by so many rounds -/
def whileN (t : BF) (f : SF) : Nat → Dl → Option (Fl × Dl)
  | 0, _ => none
  | m + 1, δ => (t δ).bind fun p => if p.1 then (f p.2).bind fun q => match q.1 with
      | .nx => whileN t f m q.2
      | .ct => whileN t f m q.2
      | .bk => some (.nx, q.2)
      | .rt r => some (.rt r, q.2)
    else some (.nx, p.2)
def sWhile (t : BF) (f : SF) : SF := whileN t f 1000000
theorem whileN_up {t : BF} {f : SF} : ∀ {m n : Nat} {δ : Dl} {r : Fl × Dl}, whileN t f m δ = some r → m ≤ n → whileN t f n δ = some r
  | 0, _, _, _, h, _ => by cases h
  | m + 1, 0, _, _, _, hn => absurd hn (by omega)
  | m + 1, n + 1, δ, r, h, hn => by
    rw [whileN] at h ⊢
    obtain ⟨⟨b, δ1⟩, e1, e⟩ := Option.bind_eq_some_iff.mp h
    rw [e1, Option.bind_some]
    cases b with
    | false => exact e
    | true =>
      rw [if_pos rfl] at e ⊢
      obtain ⟨⟨fl, δ2⟩, e2, e3⟩ := Option.bind_eq_some_iff.mp e
      rw [e2, Option.bind_some]
      cases fl with
      | nx => exact whileN_up e3 (by omega)
      | ct => exact whileN_up e3 (by omega)
      | bk => exact e3
      | rt v => exact e3
theorem sWhile_of {t : BF} {f : SF} {m : Nat} {δ : Dl} {r : Fl × Dl} (h : whileN t f m δ = some r) (hm : m ≤ 1000000) : sWhile t f δ = some r := whileN_up h hm
section
variable {X : Cx} {c : Expr} {ft : BF} {g : SF} {body : List Stmt} {pos : Pos}
theorem pds_while (hc : PDT X c ft) (hb : PDSs X body g) (hp : PassesOwn (model X.prog X.w) X.A X.env X.xe) : PDS X (.While c body [] pos) (sWhile ft g) := PS.weak (ps_while hp hc hb) fun D σ H h => by
  obtain ⟨B, F, ad, δ, r, δ', S, e, k⟩ := h
  unfold sWhile at e
  refine ⟨fun m σ2 H2 => ∃ B2 ad2 δ2, Same B B2 ∧ Pre ad ad2 ∧ SRep X.K X.mg B2 F ad2 σ2 δ2 H2 ∧ whileN ft g m δ2 = some (r, δ'), ⟨_, B, ad, δ, Same.refl _, Pre.refl _, S, e⟩, ?_⟩
  rintro m σ2 H2 ⟨B2, ad2, δ2, s2, p2, S2, e2⟩
  cases m with
  | zero => cases e2
  | succ m =>
    rw [whileN] at e2
    obtain ⟨⟨b, δ3⟩, e3, e4⟩ := Option.bind_eq_some_iff.mp e2
    refine ⟨B2, F, ad2, δ2, b, δ3, S2, e3, fun B3 ad3 H3 s3 p3 S3 => ?_⟩
    cases b with
    | false =>
      rw [if_neg Bool.false_ne_true] at e4 ⊢
      cases e4
      exact k B3 ad3 σ2 H3 (s2.trans s3) (p2.trans p3) S3
    | true =>
      rw [if_pos rfl] at e4 ⊢
      obtain ⟨⟨fl, δ4⟩, e5, e6⟩ := Option.bind_eq_some_iff.mp e4
      refine ⟨fun σ4 H4 => ∃ B4 ad4, Same B B4 ∧ Pre ad ad4 ∧ SRep X.K X.mg B4 F ad4 σ4 δ4 H4 ∧ whileN ft g m δ4 = some (r, δ'), fun σ4 H4 q => ?_, B3, F, ad3, δ3, fl, δ4, S3, e5, fun B4 ad4 σ4 H4 s4 p4 S4 => ?_⟩
      · obtain ⟨B4, ad4, s4, p4, S4, e7⟩ := q
        exact ⟨m, Nat.lt_succ_self m, B4, ad4, δ4, s4, p4, S4, e7⟩
      · cases fl with
        | nx => exact ⟨B4, ad4, (s2.trans s3).trans s4, (p2.trans p3).trans p4, S4, e6⟩
        | ct => exact ⟨B4, ad4, (s2.trans s3).trans s4, (p2.trans p3).trans p4, S4, e6⟩
        | bk =>
          cases e6
          exact k B4 ad4 σ4 H4 ((s2.trans s3).trans s4) ((p2.trans p3).trans p4) S4
        | rt v =>
          cases e6
          exact k B4 ad4 σ4 H4 ((s2.trans s3).trans s4) ((p2.trans p3).trans p4) S4
end
/-! ### gcd -/
def gcdD : CF := g2 fun δ x y => match x, y with
  | .int i, .int j => some (.fz (.int (Nat.gcd i.natAbs j.natAbs : Nat)), δ)
  | _, _ => none
section
variable {X : Cx} {e : Expr} {es : List Expr} {fs : AF} {p pos : Pos}
theorem oc_gcd : CallR X (.builtin "math.gcd") (rDC X.K X.mg gcdD) := by
  intro pins s σ H xs us Q I r h
  obtain ⟨v, w, rfl, B, F, ad, σ', δ, d, d2, r', δ', S, vw, vw2, e, k⟩ := rDC2 h
  refine cr_gcd pins s σ H _ us Q I r ?_
  cases d with
  | int i =>
    cases d2 with
    | int j =>
      cases e
      exact ⟨i, j, by rw [show v = .int i from vw, show w = .int j from vw2], here (d := .int _) S rfl k⟩
    | _ => cases e
  | _ => cases e
theorem pd_cbf {g : CF} {id : String} {x : Str} (hc : CallR X (.builtin id) (rDC X.K X.mg g)) (hg : Gl X x) (hm : X.mg x = some (.builtin id)) (ha : PDA X (e :: es) fs) (hdb : (x == ("__debug__" : Str)) = false := by decide)
    (he : starEach (e :: es) X.env = (false, eval e X.env) :: starEach es X.env := by rfl) (hpl : (backTo pos (starEach es X.env)).any (·.1) = false := by rfl) : PD X (.Call (.Name x p) (e :: es) [] pos) (dCB g fs) :=
  PE.weak (pe_callBfun hc hg hm ha hdb he hpl) fun σ H Q h => dCB_w h
end
end PK

namespace PK
open PySem L2 PySem.Spec PyProof.Rows
/-! ### the rest by a divisor of either sign -/
def modF : OF := fun δ x y => match x, y with
  | .int i, .int j => if j ≠ 0 then some (.fz (.int (i.fmod j)), δ) else none
  | _, _ => none
theorem od_modF {X : Cx} : OpR X (binaryOp .Mod) (rD X.K X.mg modF) := by
  intro pins s σ H x y v u Q I rx ry h
  obtain ⟨B, F, ad, σ', δ, dx, dy, r, δ', S, vx, vy, e, k⟩ := h
  unfold modF at e
  split at e
  · rename_i i j
    split at e
    · rename_i hm
      cases e
      exact op_modN pins s σ H x y v u Q I rx ry ⟨i, j, vx, vy, hm, here (d := .int (i.fmod j)) S rfl k⟩
    · cases e
  · cases e
end PK

namespace PK
open PySem PySem.Spec PyProof.Rows L2 RZ
/-! ### two things walked together: each one's iterator by what it keeps and gives -/
structure Itr (P : Program) (w : World) (it l : Addr) (S : Nat → Heap → Prop) (g : Nat → Option Value) : Prop where
  obj : ∀ k h, S k h → ∃ o, h.get? it = some o ∧ ∀ v, o.data ≠ .cell v
  keep : ∀ k h h', S k h → (∀ o, h.get? it = some o → h'.get? it = some o) → (∀ o, h.get? l = some o → h'.get? l = some o) → S k h'
  next : ∀ (A : Around) (E : Value → Shared → Prop) (sh : Shared) (k : Nat) (x : Value) (Q : Value → Shared → Prop), S k sh.heap → g k = some x → (∀ h', S (k + 1) h' → Heap.SameBut it sh.heap h' → Q x { sh with heap := h' }) → wpAny (model P w) A (Builtin.SmallTypes.nextOf (.ref it)) Q E sh
  stop : ∀ (A : Around) (E : Value → Shared → Prop) (sh : Shared) (k : Nat) (Q : Value → Shared → Prop), A.handled = none → S k sh.heap → g k = none → (∀ h' e, Heap.ExtBut it sh.heap h' → (∃ o, h'.get? e = some o ∧ o.cls = .type "StopIteration") → E (.ref e) { sh with heap := h' }) →
    wpAny (model P w) A (Builtin.SmallTypes.nextOf (.ref it)) Q E sh
theorem itr_list {P : Program} {w : World} {it l : Addr} {its : Array Value} (ne : l ≠ it) : Itr P w it l (fun k h => h.IsListIter it l k ∧ h.IsList l its) (fun k => its[k]?) where
  obj := fun k h a => by
    obtain ⟨⟨o, got, _, dat⟩, _⟩ := a
    exact ⟨o, got, fun v e => by rw [dat] at e; cases e⟩
  keep := fun k h h' a k1 k2 => by
    obtain ⟨⟨o, got, more⟩, o2, got2, more2⟩ := a
    exact ⟨⟨o, k1 o got, more⟩, o2, k2 o2 got2, more2⟩
  next := fun A E sh k x Q a e good => wpAny_nextOf_list_item a.1 a.2 e fun h' a1 sb => good h' ⟨a1, a.2.extBut sb.extBut ne⟩ sb
  stop := fun A E sh k Q hd a e good => wpAny_nextOf_list_end hd a.1 a.2 e good
theorem itr_tup {P : Program} {w : World} {it l : Addr} {its : Array Value} (ne : l ≠ it) : Itr P w it l (fun k h => h.IsTupleIter it l k ∧ h.IsTuple l its) (fun k => its[k]?) where
  obj := fun k h a => by
    obtain ⟨⟨o, got, _, dat⟩, _⟩ := a
    exact ⟨o, got, fun v e => by rw [dat] at e; cases e⟩
  keep := fun k h h' a k1 k2 => by
    obtain ⟨⟨o, got, more⟩, o2, got2, more2⟩ := a
    exact ⟨⟨o, k1 o got, more⟩, o2, k2 o2 got2, more2⟩
  next := fun A E sh k x Q a e good => nextOf_tuple_item a.1 a.2 e fun h' a1 sb => good h' ⟨a1, a.2.extBut sb.extBut ne⟩ sb
  stop := fun A E sh k Q hd a e good => nextOf_tuple_end hd a.1 a.2 e good
section
variable {P : Program} {w : World} {A : Around} {E : Value → Shared → Prop} {sh : Shared} {zo pi po ia ib la lb : Addr} {Sa Sb : Nat → Heap → Prop} {ga gb : Nat → Option Value} {ka kb : Nat} {a0 b0 : Value}
theorem zm_next {x y : Value} {Q : Value → Shared → Prop} (Ia : Itr P w ia la Sa ga) (Ib : Itr P w ib lb Sb gb) (D : ZipApart zo pi po ia ib la lb) (zz : IsZip sh.heap zo pi po .none) (pp : IsPair sh.heap pi (.ref ia) (.ref ib)) (qq : IsPair sh.heap po a0 b0)
    (ha : Sa ka sh.heap) (hb : Sb kb sh.heap) (ex : ga ka = some x) (ey : gb kb = some y)
    (good : ∀ h', IsZip h' zo pi po (rawInt sh.heap.objs.size) → IsPair h' po x y → Sa (ka + 1) h' → Sb (kb + 1) h' → IsPair h' sh.heap.objs.size x y → h'.objs.size = sh.heap.objs.size + 1 → (∀ c o, c ≠ zo → c ≠ po → c ≠ ia → c ≠ ib → sh.heap.get? c = some o → h'.get? c = some o) → Q (.ref sh.heap.objs.size) { sh with heap := h' }) :
    wpAny (model P w) A (Builtin.«zip.__next__» ⟨[.ref zo], []⟩) (fun fin sx => ∃ v, fin = .done (.ret v) ∧ Q v sx) E sh := by
  show wpAny _ _ (field (.ref zo) 2 >>= _) _ _ _; refine wpAny_bind (wpAny_field zz rfl (x := .bool false) rfl ?_)
  show wpAny _ _ (field (.ref zo) 3 >>= _) _ _ _; refine wpAny_bind (wpAny_field zz rfl (x := .ref pi) rfl (wpAny_bind (wpAny_seqItems pp rfl ?_)))
  show wpAny _ _ (Builtin.SmallTypes.ownedTupleIsFree (.ref zo) >>= _) _ _ _; refine wpAny_bind ?_; unfold Builtin.SmallTypes.ownedTupleIsFree
  refine wpAny_bind (wpAny_field zz rfl (x := .none) rfl (wpAny_pure ?_)); simp only [if_true]; refine wpAny_bind (wpAny_rule (wpAny_bind (wpAny_field zz rfl (x := .ref po) rfl (wpAny_bind (wpAny_setField_rec zz (by simp) fun m1 z1 c1 => ?_)))))
  replace z1 : IsZip m1 zo pi po .ellipsis := z1
  refine wpAny_bind ?_; simp only [List.forIn_cons, List.forIn_nil, List.zipIdx_cons, List.zipIdx_nil]; refine wpAny_bind (wpAny_bind (wpAny_onRaise ?_)); show wpAny _ _ (Builtin.SmallTypes.nextOf (.ref ia) >>= _) _ _ _
  have ha1 : Sa ka m1 := Ia.keep _ _ _ ha (fun o e => c1.extBut _ _ D.i1z e) fun o e => c1.extBut _ _ D.l1z e
  refine wpAny_bind (Ia.next _ _ _ _ _ _ ha1 ex fun m2 ha2 c2 => wpAny_pure ?_)
  have q2 : IsPair m2 po a0 b0 := c2.extBut _ _ D.TOi1 (c1.extBut _ _ D.TOz qq)
  refine wpAny_bind (wpAny_seqItems q2 rfl (wpAny_bind (wpAny_updateSeq_pair q2 fun m3 q3 c3 => ?_)))
  replace q3 : IsPair m3 po x b0 := q3
  refine wpAny_bind (wpAny_letGo (wpAny_pure ?_)); refine wpAny_bind (wpAny_bind (wpAny_onRaise ?_)); show wpAny _ _ (Builtin.SmallTypes.nextOf (.ref ib) >>= _) _ _ _
  have to3 : ∀ c o, c ≠ zo → c ≠ ia → c ≠ po → sh.heap.get? c = some o → m3.get? c = some o := fun c o n1 n2 n3 e => c3.extBut _ _ n3 (c2.extBut _ _ n2 (c1.extBut _ _ n1 e))
  have hb3 : Sb kb m3 := Ib.keep _ _ _ hb (fun o e => to3 _ o D.i2z D.i12.symm D.TOi2.symm e) fun o e => to3 _ o D.l2z D.l2i1 D.l2TO e
  refine wpAny_bind (Ib.next _ _ _ _ _ _ hb3 ey fun m4 hb4 c4 => wpAny_pure ?_)
  have q4 : IsPair m4 po x b0 := c4.extBut _ _ D.TOi2 q3
  refine wpAny_bind (wpAny_seqItems q4 rfl (wpAny_bind (wpAny_updateSeq_pair q4 fun m5 q5 c5 => ?_)))
  replace q5 : IsPair m5 po x y := q5
  refine wpAny_bind (wpAny_letGo (wpAny_pure (wpAny_pure (wpAny_bind (wpAny_seqItems q5 rfl (wpAny_bind (wpAny_newTuple ?_)))))))
  have same : m5.objs.size = sh.heap.objs.size := by rw [c5.1, c4.1, c3.1, c2.1, c1.1]
  have to5 : ∀ c o, c ≠ po → c ≠ ib → m3.get? c = some o → m5.get? c = some o := fun c o n1 n2 e => c5.extBut _ _ n1 (c4.extBut _ _ n2 e)
  have z3 : IsZip m3 zo pi po .ellipsis := c3.extBut _ _ D.TOz.symm (c2.extBut _ _ D.i1z.symm z1)
  have z5 : IsZip m5 zo pi po .ellipsis := to5 _ _ D.TOz.symm D.i2z.symm z3
  have ha5 : Sa (ka + 1) m5 := Ia.keep _ _ _ ha2 (fun o e => to5 _ o D.TOi1.symm D.i12 (c3.extBut _ _ D.TOi1.symm e)) fun o e => to5 _ o D.l1TO D.l1i2 (c3.extBut _ _ D.l1TO e)
  have hb5 : Sb (kb + 1) m5 := Ib.keep _ _ _ hb4 (fun o e => c5.extBut _ _ D.TOi2.symm e) fun o e => c5.extBut _ _ D.l2TO e
  have zlt : zo < m5.objs.size := Heap.lt_size z5
  show wpAny _ _ (Builtin.SmallTypes.ownedTupleHandOut (.ref zo) (.ref m5.objs.size) >>= _) _ _ _; refine wpAny_bind ?_; unfold Builtin.SmallTypes.ownedTupleHandOut
  have z6 : IsZip (m5.push { cls := .type "tuple", data := .seq #[x, y] }) zo pi po .ellipsis := Heap.get?_push_of_some _ z5
  refine wpAny_bind (wpAny_setField_rec z6 (by simp) fun m7 z7 c7 => ?_)
  replace z7 : IsZip m7 zo pi po (rawInt m5.objs.size) := z7
  refine wpAny_setField_rec z7 (by simp) fun m8 z8 c8 => ?_
  replace z8 : IsZip m8 zo pi po (rawInt m5.objs.size) := z8
  have up : ∀ c o, c ≠ zo → m5.get? c = some o → m8.get? c = some o := fun c o n e => c8.extBut _ _ n (c7.extBut _ _ n (Heap.get?_push_of_some _ e))
  have t8 : IsPair m8 m5.objs.size x y := c8.extBut _ _ (Nat.ne_of_gt zlt) (c7.extBut _ _ (Nat.ne_of_gt zlt) (Heap.get?_push_size _ rfl))
  have s8 : m8.objs.size = m5.objs.size + 1 := by rw [c8.1, c7.1, Heap.size_push]
  rw [same] at z8 t8 s8
  refine wpAny_pure ⟨_, rfl, ?_⟩; show Q (.ref m5.objs.size) _; rw [same]
  exact good m8 z8 (up _ _ D.TOz q5) (Ia.keep _ _ _ ha5 (fun o e => up _ o D.i1z e) fun o e => up _ o D.l1z e) (Ib.keep _ _ _ hb5 (fun o e => up _ o D.i2z e) fun o e => up _ o D.l2z e) t8 s8 fun c o n1 n2 n3 n4 e => up c o n1 (to5 c o n2 n4 (to3 c o n1 n3 n2 e))
theorem zm_stop {Q : Fin → Shared → Prop} (hd : A.handled = none) (Ia : Itr P w ia la Sa ga) (Ib : Itr P w ib lb Sb gb) (D : ZipApart zo pi po ia ib la lb) (zz : IsZip sh.heap zo pi po .none) (pp : IsPair sh.heap pi (.ref ia) (.ref ib)) (qq : IsPair sh.heap po a0 b0)
    (ha : Sa ka sh.heap) (hb : Sb kb sh.heap) (over : ga ka = none ∨ gb kb = none)
    (good : ∀ h' e, (∀ c o, c ≠ zo → c ≠ po → c ≠ ia → c ≠ ib → sh.heap.get? c = some o → h'.get? c = some o) → (∃ o, h'.get? e = some o ∧ o.cls = .type "StopIteration") → E (.ref e) { sh with heap := h' }) : wpAny (model P w) A (Builtin.«zip.__next__» ⟨[.ref zo], []⟩) Q E sh := by
  show wpAny _ _ (field (.ref zo) 2 >>= _) _ _ _; refine wpAny_bind (wpAny_field zz rfl (x := .bool false) rfl ?_)
  show wpAny _ _ (field (.ref zo) 3 >>= _) _ _ _; refine wpAny_bind (wpAny_field zz rfl (x := .ref pi) rfl (wpAny_bind (wpAny_seqItems pp rfl ?_)))
  show wpAny _ _ (Builtin.SmallTypes.ownedTupleIsFree (.ref zo) >>= _) _ _ _; refine wpAny_bind ?_; unfold Builtin.SmallTypes.ownedTupleIsFree
  refine wpAny_bind (wpAny_field zz rfl (x := .none) rfl (wpAny_pure ?_)); simp only [if_true]; refine wpAny_bind (wpAny_rule (wpAny_bind (wpAny_field zz rfl (x := .ref po) rfl (wpAny_bind (wpAny_setField_rec zz (by simp) fun m1 z1 c1 => ?_)))))
  replace z1 : IsZip m1 zo pi po .ellipsis := z1
  refine wpAny_bind ?_; simp only [List.forIn_cons, List.forIn_nil, List.zipIdx_cons, List.zipIdx_nil]; refine wpAny_bind (wpAny_bind (wpAny_onRaise ?_)); show wpAny _ _ (Builtin.SmallTypes.nextOf (.ref ia) >>= _) _ _ _
  have ha1 : Sa ka m1 := Ia.keep _ _ _ ha (fun o e => c1.extBut _ _ D.i1z e) fun o e => c1.extBut _ _ D.l1z e
  cases ex : ga ka with
  | none =>
    refine wpAny_bind (Ia.stop _ _ _ _ _ hd ha1 ex fun m2 e c2 stops => ?_)
    obtain ⟨oe, goe, cle⟩ := stops
    have z2 : IsZip m2 zo pi po .ellipsis := c2 _ _ D.i1z.symm z1
    have other : e ≠ zo := fun q => by subst q; rw [z2] at goe; cases goe; simp at cle
    refine wpAny_setField_rec z2 (by simp) fun m3 _ c3 => good m3 e (fun c o n1 _ n3 _ q => c3.extBut _ _ n1 (c2 _ _ n3 (c1.extBut _ _ n1 q))) ⟨oe, c3.extBut _ _ other goe, cle⟩
  | some x =>
    have ey : gb kb = none := by
      rcases over with q | q
      · rw [ex] at q; cases q
      · exact q
    refine wpAny_bind (Ia.next _ _ _ _ _ _ ha1 ex fun m2 ha2 c2 => wpAny_pure ?_)
    have q2 : IsPair m2 po a0 b0 := c2.extBut _ _ D.TOi1 (c1.extBut _ _ D.TOz qq)
    refine wpAny_bind (wpAny_seqItems q2 rfl (wpAny_bind (wpAny_updateSeq_pair q2 fun m3 q3 c3 => ?_)))
    refine wpAny_bind (wpAny_letGo (wpAny_pure ?_)); refine wpAny_bind (wpAny_bind (wpAny_onRaise ?_)); show wpAny _ _ (Builtin.SmallTypes.nextOf (.ref ib) >>= _) _ _ _
    have to3 : ∀ c o, c ≠ zo → c ≠ ia → c ≠ po → sh.heap.get? c = some o → m3.get? c = some o := fun c o n1 n2 n3 e => c3.extBut _ _ n3 (c2.extBut _ _ n2 (c1.extBut _ _ n1 e))
    have hb3 : Sb kb m3 := Ib.keep _ _ _ hb (fun o e => to3 _ o D.i2z D.i12.symm D.TOi2.symm e) fun o e => to3 _ o D.l2z D.l2i1 D.l2TO e
    refine wpAny_bind (Ib.stop _ _ _ _ _ hd hb3 ey fun m4 e c4 stops => ?_)
    obtain ⟨oe, goe, cle⟩ := stops
    have z4 : IsZip m4 zo pi po .ellipsis := c4 _ _ D.i2z.symm (c3.extBut _ _ D.TOz.symm (c2.extBut _ _ D.i1z.symm z1))
    have other : e ≠ zo := fun q => by subst q; rw [z4] at goe; cases goe; simp at cle
    refine wpAny_setField_rec z4 (by simp) fun m5 _ c5 => good m5 e (fun c o n1 n2 n3 n4 q => c5.extBut _ _ n1 (c4 _ _ n4 (to3 c o n1 n3 n2 q))) ⟨oe, c5.extBut _ _ other goe, cle⟩
theorem zm_item {x y : Value} {Q : Option Value → Shared → Prop} (Ia : Itr P w ia la Sa ga) (Ib : Itr P w ib lb Sb gb) (D : ZipApart zo pi po ia ib la lb) (zz : IsZip sh.heap zo pi po .none) (pp : IsPair sh.heap pi (.ref ia) (.ref ib)) (qq : IsPair sh.heap po a0 b0)
    (ha : Sa ka sh.heap) (hb : Sb kb sh.heap) (ex : ga ka = some x) (ey : gb kb = some y)
    (good : ∀ h', IsZip h' zo pi po (rawInt sh.heap.objs.size) → IsPair h' po x y → Sa (ka + 1) h' → Sb (kb + 1) h' → IsPair h' sh.heap.objs.size x y → h'.objs.size = sh.heap.objs.size + 1 → (∀ c o, c ≠ zo → c ≠ po → c ≠ ia → c ≠ ib → sh.heap.get? c = some o → h'.get? c = some o) → Q (some (.ref sh.heap.objs.size)) { sh with heap := h' }) :
    wpAny (model P w) A (pyNext (.ref zo)) Q E sh := by
  have ty : sh.TypeIs (.ref zo) "zip" := ⟨_, zz, rfl⟩
  unfold pyNext; exact wpAny_bind (wpAny_attempt (wpAny_callSpecial?_slot (name := Str.ofString "__next__") ty F.slot_zip_next (wpAny_call_entry F.slot_zip_next ty F.entry_zip_next (zm_next Ia Ib D zz pp qq ha hb ex ey fun h' r1 r2 r3 r4 r5 r6 r7 => wpAny_pure (good h' r1 r2 r3 r4 r5 r6 r7)) (F.args_zip_next_1 _))))
theorem zm_end {Q : Option Value → Shared → Prop} (hd : A.handled = none) (Ia : Itr P w ia la Sa ga) (Ib : Itr P w ib lb Sb gb) (D : ZipApart zo pi po ia ib la lb) (zz : IsZip sh.heap zo pi po .none) (pp : IsPair sh.heap pi (.ref ia) (.ref ib)) (qq : IsPair sh.heap po a0 b0)
    (ha : Sa ka sh.heap) (hb : Sb kb sh.heap) (over : ga ka = none ∨ gb kb = none) (good : ∀ h', (∀ c o, c ≠ zo → c ≠ po → c ≠ ia → c ≠ ib → sh.heap.get? c = some o → h'.get? c = some o) → Q none { sh with heap := h' }) : wpAny (model P w) A (pyNext (.ref zo)) Q E sh := by
  have ty : sh.TypeIs (.ref zo) "zip" := ⟨_, zz, rfl⟩
  unfold pyNext; refine wpAny_bind (wpAny_attempt (wpAny_callSpecial?_slot (name := Str.ofString "__next__") ty F.slot_zip_next (wpAny_call_entry F.slot_zip_next ty F.entry_zip_next (zm_stop hd Ia Ib D zz pp qq ha hb over fun h' e kept stops => ?_) (F.args_zip_next_1 _))))
  obtain ⟨oe, goe, cle⟩ := stops
  exact wpAny_bind (wpAny_isInstance (T := "StopIteration") (b := true) ⟨oe, goe, cle⟩ isSubtype_stop (wpAny_pure (good _ kept)))
end
end PK

namespace PK
open PySem PySem.Spec PyProof.Rows L2 RZ
/-- a list and a tuple, turn by turn, the items in new pairs -/
def ItM (K : PySem.W.Frag) (la lb : Addr) : It :=
  ⟨fun k hp => ∃ (xs ys : List V) (x y : V), SqL K hp la xs ∧ SqT K hp lb ys ∧ xs[k]? = some x ∧ ys[k]? = some y,
    fun k hp v hq => ∃ T x y, v = .ref T ∧ hp T = none ∧ hq = upd hp T (.tup [x, y]) ∧ (∀ xs, SqL K hp la xs → xs[k]? = some x) ∧ ∀ ys, SqT K hp lb ys → ys[k]? = some y,
    fun k hp => ∃ xs ys : List V, SqL K hp la xs ∧ SqT K hp lb ys ∧ (xs.length ≤ k ∨ ys.length ≤ k)⟩
def TnM (zo pi po ia ib la lb : Addr) (k : Nat) (h : Heap) : Prop := IsZip h zo pi po .none ∧ IsPair h pi (.ref ia) (.ref ib) ∧ (∃ x y, IsPair h po x y) ∧ h.IsListIter ia la k ∧ h.IsTupleIter ib lb k
theorem fiveM {zo pi po ia ib c : Addr} (h : c ∈ [zo, pi, po, ia, ib]) : c = zo ∨ c = pi ∨ c = po ∨ c = ia ∨ c = ib := by simpa using h
theorem TnM.here {zo pi po ia ib la lb : Addr} {k : Nat} {h : Heap} (t : TnM zo pi po ia ib la lb k h) : ∀ c ∈ [zo, pi, po, ia, ib], ∃ o, h.get? c = some o ∧ ∀ v, o.data ≠ .cell v := by
  obtain ⟨t1, t2, ⟨x, y, t3⟩, ⟨o1, t4, _, d1⟩, o2, t5, _, d2⟩ := t
  intro c hc
  rcases fiveM hc with q | q | q | q | q <;> rw [q]
  · exact ⟨_, t1, fun v e => nomatch e⟩
  · exact ⟨_, t2, fun v e => nomatch e⟩
  · exact ⟨_, t3, fun v e => nomatch e⟩
  · exact ⟨o1, t4, fun v e => by rw [d1] at e; cases e⟩
  · exact ⟨o2, t5, fun v e => by rw [d2] at e; cases e⟩
theorem turnM {P : Program} {w : World} {K : PySem.W.Frag} {elts : List Expr} {kk : Nat} {tpos : Pos} {zo pi po ia ib la lb : Addr} (D : ZipApart zo pi po ia ib la lb) : Turn P w K (.Tuple elts kk tpos) (ItM K la lb) [zo, pi, po, ia, ib] zo (TnM zo pi po ia ib la lb) where
  mem := List.mem_cons_self
  obj := fun k h t => t.here
  keep := fun k h h' t kept => by
    obtain ⟨t1, t2, ⟨x, y, t3⟩, ⟨o1, t4, r4⟩, o2, t5, r5⟩ := t
    exact ⟨kept zo (by simp) _ t1, kept pi (by simp) _ t2, ⟨x, y, kept po (by simp) _ t3⟩, ⟨o1, kept ia (by simp) o1 t4, r4⟩, o2, kept ib (by simp) o2 t5, r5⟩
  item := by
    rintro X rfl rfl rfl calm k pins sh σ hp E inv fps t ⟨xs, ys, x, y, q1, q2, g1, g2⟩
    have here := t.here
    obtain ⟨t1, t2, ⟨x0, y0, t3⟩, t4, t5⟩ := t
    obtain ⟨us, r1, p1, _⟩ := inv.list q1
    obtain ⟨vs, r2, p2, _⟩ := inv.tuple q2
    obtain ⟨u, gu, ru⟩ := r1.get g1
    obtain ⟨v, gv, rv⟩ := r2.get g2
    have low : zo < sh.heap.objs.size := Heap.lt_size t1
    refine zm_item (itr_list (its := us.toArray) D.l1i1) (itr_tup (its := vs.toArray) D.l2i2) D t1 t2 t3 ⟨t4, p1.isList⟩ ⟨t5, p2⟩ (x := u) (y := v) (by simpa using gu) (by simpa using gv) fun h' n1 n2 n3 n4 n5 n6 n7 => ⟨_, rfl, wpAny_letOwnedTupleGo_zip (s := { sh with heap := h' }) n1 fun h2 n8 sb => ?_⟩
    have up : ∀ c o, c ≠ zo → c ≠ po → c ≠ ia → c ≠ ib → sh.heap.get? c = some o → h2.get? c = some o := fun c o a1 a2 a3 a4 e => (sb.2 _ a1).trans (n7 c o a1 a2 a3 a4 e)
    have pair : h2.get? sh.heap.objs.size = some { cls := .type "tuple", data := .seq #[u, v] } := (sb.2 _ (Nat.ne_of_gt low)).trans n5
    have made : ObjOk X.prog X.w (upd hp sh.heap.objs.size (.tup [x, y])) h2 sh.heap.objs.size (.tup [x, y]) := ⟨by show 2 ≤ sizeLine; decide, [u, v], .cons ru (.cons rv .nil), ⟨_, pair, rfl, _, rfl⟩⟩
    have inv2 : Inv X pins σ (upd hp sh.heap.objs.size (.tup [x, y])) { sh with heap := h2 } := inv.turnedNew (t' := sh.toks) (ch := [zo, pi, po, ia, ib]) (fun c o out e => up c o (fun a => out (by simp [a])) (fun a => out (by simp [a])) (fun a => out (by simp [a])) (fun a => out (by simp [a])) e) fps (Nat.le_refl _) made
    refine ⟨.ref sh.heap.objs.size, _, inv2, rfl, ⟨_, x, y, rfl, inv.hok.fresh (Nat.le_refl _), rfl, fun l hl => by rw [inv.list_inj hl q1]; exact g1, fun l hl => by rw [inv.tuple_inj hl q2]; exact g2⟩, ⟨n8, up _ _ D.TIz D.TITO D.TIi1 D.TIi2 t2, ⟨u, v, (sb.2 _ D.TOz).trans n2⟩, ?_, ?_⟩, fun c hc => ?_⟩
    · obtain ⟨⟨o1, e1, m1⟩, _⟩ := n3
      exact ⟨o1, (sb.2 _ D.i1z).trans e1, m1⟩
    · obtain ⟨⟨o2, e2, m2⟩, _⟩ := n4
      exact ⟨o2, (sb.2 _ D.i2z).trans e2, m2⟩
    · obtain ⟨o, e, _⟩ := here c hc
      rw [upd_ne (Nat.ne_of_lt (Heap.lt_size e))]
      exact (fps c hc).1
  done := by
    rintro X rfl rfl rfl calm k pins sh σ hp E inv fps ⟨t1, t2, ⟨x0, y0, t3⟩, t4, t5⟩ ⟨xs, ys, q1, q2, over⟩
    obtain ⟨us, r1, p1, _⟩ := inv.list q1
    obtain ⟨vs, r2, p2, _⟩ := inv.tuple q2
    have n1 := r1.length
    have n2 := r2.length
    have out : us.toArray[k]? = none ∨ vs.toArray[k]? = none := by
      rcases over with a | a
      · exact .inl (by simp; omega)
      · exact .inr (by simp; omega)
    exact zm_end (inv.ok.hd calm) (itr_list (its := us.toArray) D.l1i1) (itr_tup (its := vs.toArray) D.l2i2) D t1 t2 t3 ⟨t4, p1.isList⟩ ⟨t5, p2⟩ out fun h' kept => ⟨rfl, inv.turnedL (t' := sh.toks) (ch := [zo, pi, po, ia, ib]) (fun c o no e => kept c o (fun a => no (by simp [a])) (fun a => no (by simp [a])) (fun a => no (by simp [a])) (fun a => no (by simp [a])) e) fps⟩
  self := fun A k sh Q E t good => wpAny_pyIter_zip t.1 good
/-! zip(xs, ys) is called -/
abbrev hM1 (h : Heap) (la : Addr) : Heap := h.push { cls := .type "list_iterator", data := .fields #[.ref la, .int 0 0] }
abbrev hM2 (h : Heap) (la lb : Addr) : Heap := (hM1 h la).push { cls := .type "tuple_iterator", data := .fields #[.ref lb, .int 0 0] }
abbrev hM3 (h : Heap) (la lb : Addr) : Heap := (hM2 h la lb).push { cls := .type "tuple", data := .seq #[.ref h.objs.size, .ref (hM1 h la).objs.size] }
abbrev hM4 (h : Heap) (la lb : Addr) : Heap := (hM3 h la lb).push { cls := .type "tuple", data := .seq #[.none, .none] }
abbrev hM5 (h : Heap) (la lb : Addr) : Heap := (hM4 h la lb).push { cls := .type "zip", data := .fields #[.none, .bool false, .bool false, .ref (hM2 h la lb).objs.size, .ref (hM3 h la lb).objs.size] }
theorem meetsM (la lb : Addr) (xs ys : Array Value) : Meets (Builtin.«zip.__new__» ⟨[.type "zip", .ref la, .ref lb], []⟩) (fun _ R sh => sh.heap.IsList la xs ∧ sh.heap.IsTuple lb ys ∧ R (.ok (.ret (.ref (hM4 sh.heap la lb).objs.size))) { sh with heap := hM5 sh.heap la lb }) :=
  .of_wp fun prog w A R sh h => by
    obtain ⟨m, g, d, tk, os⟩ := sh; obtain ⟨ia, ib, h⟩ := h
    have sub := sub_zip
    have fst : Heap.IsList (Shared.heap ⟨m, g, d, tk, os⟩) la xs := ia
    have snd : Heap.IsTuple (Shared.heap ⟨m.push { cls := .type "list_iterator", data := .fields #[.ref la, .int 0 0] }, g, d, tk, os⟩) lb ys := Heap.IsTuple.push ib _
    wp_walk using wpAny_pyIter_list fst, wpAny_pyIter_tuple snd
    exact ⟨_, rfl, h⟩
section
variable {P : Program} {w : World} {A : Around} {E : Value → Shared → Prop} {sh : Shared}
theorem callM {la lb : Addr} {xs ys : Array Value} {Q : Value → Shared → Prop} (fst : sh.heap.IsList la xs) (snd : sh.heap.IsTuple lb ys)
    (good : ∀ h', TnM (sh.heap.objs.size + 4) (sh.heap.objs.size + 2) (sh.heap.objs.size + 3) sh.heap.objs.size (sh.heap.objs.size + 1) la lb 0 h' → (∀ c o, sh.heap.get? c = some o → h'.get? c = some o) → Q (.ref (sh.heap.objs.size + 4)) { sh with heap := h' }) :
    wpAny (model P w) A (call (.type "zip") [.ref la, .ref lb]) Q E sh := by
  refine callType_new F.called_zip (by decide) (F.typeCall_zip_2 _ _) (F.newCall_zip_2 _ _) (fun ob => F.args_object_init_3 ob _ _) F.entry_zip_new (meetsM la lb xs ys) ⟨fst, snd, ?_⟩
  have n1 : (hM1 sh.heap la).objs.size = sh.heap.objs.size + 1 := Heap.size_push ..
  have n2 : (hM2 sh.heap la lb).objs.size = sh.heap.objs.size + 2 := by rw [Heap.size_push, n1]
  have n3 : (hM3 sh.heap la lb).objs.size = sh.heap.objs.size + 3 := by rw [Heap.size_push, n2]
  have n4 : (hM4 sh.heap la lb).objs.size = sh.heap.objs.size + 4 := by rw [Heap.size_push, n3]
  have up2 : ∀ c o, (hM3 sh.heap la lb).get? c = some o → (hM5 sh.heap la lb).get? c = some o := fun c o e => Heap.get?_push_of_some _ (Heap.get?_push_of_some _ e)
  have w5 : (hM5 sh.heap la lb).get? (hM4 sh.heap la lb).objs.size = some _ := Heap.get?_push_size _ rfl
  have w4 : (hM5 sh.heap la lb).get? (hM3 sh.heap la lb).objs.size = some _ := Heap.get?_push_of_some _ (Heap.get?_push_size _ rfl)
  have w3 : (hM5 sh.heap la lb).get? (hM2 sh.heap la lb).objs.size = some _ := up2 _ _ (Heap.get?_push_size _ rfl)
  have w2 : (hM5 sh.heap la lb).get? (hM1 sh.heap la).objs.size = some _ := up2 _ _ (Heap.get?_push_of_some _ (Heap.get?_push_size _ rfl))
  have w1 : (hM5 sh.heap la lb).get? sh.heap.objs.size = some _ := up2 _ _ (Heap.get?_push_of_some _ (Heap.get?_push_of_some _ (Heap.get?_push_size _ rfl)))
  rw [n2, n3, n4] at w5
  rw [n1, n2] at w3
  rw [n3] at w4
  rw [n1] at w2
  show _ ∧ _
  rw [n4]
  exact ⟨⟨_, w5, rfl⟩, good _ ⟨w5, w3, ⟨_, _, w4⟩, ⟨_, w1, rfl, rfl⟩, _, w2, rfl, rfl⟩ fun c o e => up2 c o (Heap.get?_push_of_some _ (Heap.get?_push_of_some _ (Heap.get?_push_of_some _ e)))⟩
end
def iZipM (K : PySem.W.Frag) (ta : TA) : TI := fun σ hp R => ta σ hp fun vs hq => ∃ la lb xs ys, vs = [.ref la, .ref lb] ∧ SqL K hq la xs ∧ SqT K hq lb ys ∧ R (ItM K la lb) hq
theorem pi_zipM {X : Cx} {e e2 : Expr} {ta : TA} {p pos tpos : Pos} {elts : List Expr} {kk : Nat} (hg : Gl X "zip") (hm : X.mg "zip" = none) (ha : PA X [e, e2] ta)
    (hs : starEach [e, e2] X.env = (false, eval e X.env) :: starEach [e2] X.env := by rfl) (hpl : (backTo pos (starEach [e2] X.env)).any (·.1) = false := by rfl) : PI X (.Tuple elts kk tpos) (.Call (.Name "zip" p) [e, e2] [] pos) (iZipM X.K ta) :=
  ⟨fun pins sh σ hp R inv asks => Call_ (ld_blt inv hg hm PyProof.Rows.boot_zip (PyProof.Rows.callWith_type1 (thn (ha.run pos pins sh σ hp _ inv asks) fun us s1 got => by
    obtain ⟨vs, hq, inv1, rel, la, lb, xs, ys, rfl, q1, q2, goes⟩ := got
    match us, rel with
    | [_, _], .cons ra (.cons rb .nil) =>
      cases ra
      cases rb
      obtain ⟨us, r1, p1, _⟩ := inv1.list q1
      obtain ⟨ws, r2, p2, _⟩ := inv1.tuple q2
      obtain ⟨o2, got2, _⟩ := id p2
      refine callM p1.isList (show s1.heap.IsTuple lb ws.toArray from p2) fun h' t kept => wpAny_pyIter_zip t.1 ?_
      have inv2 : Inv X pins σ hq { s1 with heap := h' } := inv1.kept (t' := s1.toks) kept
      refine ⟨s1.heap.objs.size + 4, _, _, _, hq, rfl, inv2, turnM (PySem.W.ktu_apart s1.heap.objs.size la lb p1.lt (Heap.lt_size got2)), t, fun c hc => ?_, goes⟩
      have far : s1.heap.objs.size ≤ c := by
        rcases fiveM hc with a | a | a | a | a <;> rw [a] <;> first | exact Nat.le_refl _ | exact Nat.le_add_right _ _
      exact inv1.fpOk far (inv1.hok.fresh far)) hs hpl))⟩
theorem walkM {K : PySem.W.Frag} {la lb : Addr} {xs ys : List V} {n : Nat} (hn : n = min xs.length ys.length) : Walk (ItM K la lb) n (fun hp => SqL K hp la xs ∧ SqT K hp lb ys) (YPair (fun k => xs[k]?) (fun k => ys[k]?)) := by
  subst hn
  refine ⟨fun k _ hk q => ?_, fun _ q => ⟨xs, ys, q.1, q.2, by omega⟩, fun k hp v hq _ q y => ?_⟩
  · have a1 : k < xs.length := by omega
    have a2 : k < ys.length := by omega
    exact ⟨xs, ys, xs[k], ys[k], q.1, q.2, by simp [a1], by simp [a2]⟩
  · obtain ⟨T, x, z, b1, b2, b3, b4, b5⟩ := y
    exact ⟨T, x, z, b1, b2, b3, b4 xs q.1, b5 ys q.2⟩
def iZipMD (f g : EF) : IF := fun δ => (f δ).bind fun p => (g p.2).bind fun q => match q.1 with
  | .fz (.tup ys) => (srcOf q.2 p.1).map fun z => (zipD z.1 ys, z.2, q.2)
  | _ => none
theorem pdi_zipM {X : Cx} {e e2 : Expr} {f g : EF} {p pos tpos : Pos} {elts : List Expr} {kk : Nat} (hg : Gl X "zip") (hm : X.mg "zip" = none) (ha : PD X e f) (hb : PD X e2 g)
    (hs : starEach [e, e2] X.env = (false, eval e X.env) :: starEach [e2] X.env := by rfl) (hs2 : starEach [e2] X.env = (false, eval e2 X.env) :: starEach [] X.env := by rfl) (hpl : (backTo pos (starEach [e2] X.env)).any (·.1) = false := by rfl) :
    PDI X (.Tuple elts kk tpos) (.Call (.Name "zip" p) [e, e2] [] pos) (iZipMD f g) := PI.weak (pi_zipM hg hm (pa_cons ha (pa_cons hb pa_nil hs2) hs) hs hpl) fun σ H R h => by
  obtain ⟨B, F, ad, δ, it, ck, δ', S, e, hck, k⟩ := h
  unfold iZipMD at e
  obtain ⟨⟨r, δ1⟩, e1, e⟩ := Option.bind_eq_some_iff.mp e
  obtain ⟨⟨q, δ2⟩, e2, e⟩ := Option.bind_eq_some_iff.mp e
  refine ⟨B, F, ad, δ, r, δ1, S, e1, fun B1 ad1 v H1 s1 p1 S1 r1 => ?_⟩
  refine ⟨B1, F, ad1, δ1, q, δ2, S1, e2, fun B2 ad2 w H2 s2 p2 S2 r2 => ?_⟩
  have r1' := r1.mono s2 p2
  simp only at e
  split at e
  · rename_i ys
    obtain ⟨⟨xs, c⟩, e3, e4⟩ := Option.map_eq_some_iff.mp e
    cases e4
    obtain ⟨a, as, h1, h2, h3, h4, h5⟩ := src_at S2 r1' e3
    obtain ⟨b, bs, g1, g2, g3⟩ := r2
    subst h1 g1
    refine ⟨a, b, as, bs, rfl, SqL.of h2, SqT.of (S2.exB _ _ g2), ?_⟩
    refine k B2 ad2 H2 (ItM X.K a b) (fun H => ∃ as, as.length = xs.length ∧ H a = some (.lst as) ∧ SqT X.K H b bs) (fun i H v H' => ∃ as, as.length = xs.length ∧ (H a = some (.lst as) ∧ SqT X.K H b bs) ∧ YPair (fun i => as[i]?) (fun i => bs[i]?) i H v H') (s1.trans s2) (p1.trans p2) S2 ?_ ?_ ?_
    · have hw : ∀ as : List V, as.length = xs.length → Walk (ItM X.K a b) (zipD xs ys).length (fun H => H a = some (.lst as) ∧ SqT X.K H b bs) (YPair (fun i => as[i]?) (fun i => bs[i]?)) := fun as hl =>
        (walkM (K := X.K) (la := a) (lb := b) (xs := as) (ys := bs) (by rw [zipD_len, hl, Rps.length g3])).mono (fun H q => ⟨SqL.of q.1, q.2⟩) fun _ _ _ _ _ _ y => y
      exact ⟨fun i H hi ⟨as, hl, q⟩ => (hw as hl).goes i H hi q, fun H ⟨as, hl, q⟩ => (hw as hl).stops H q, fun i H x H' hi ⟨as, hl, q⟩ y => ⟨as, hl, q, (hw as hl).yields i H x H' hi q y⟩⟩
    · intro B3 F3 ad3 σ3 δ3 H3 s3 p3 S3 cc
      obtain ⟨as', q1, q2⟩ := h5 B3 F3 ad3 σ3 δ3 H3 s3 p3 S3 cc
      exact ⟨as', Rps.length q2, q1, SqT.of (S3.exB _ _ (s3 _ _ g2))⟩
    · rintro i x B3 F3 ad3 σ3 δ3 H3 H4 s3 p3 S3 cc hi ⟨as1, hl, ⟨w1, w2⟩, T, y, z, rfl, hT, rfl, hy, hz⟩
      obtain ⟨as', q1, q2⟩ := h5 B3 F3 ad3 σ3 δ3 H3 s3 p3 S3 cc
      rw [q1] at w1
      cases w1
      obtain ⟨d, d1, d2⟩ := Rps.back q2 hy
      obtain ⟨d', d3, d4⟩ := Rps.back g3 hz
      obtain ⟨B4, s4, S4, r4⟩ := pair_new S3 hT d2 (Rp.mono s3 _ _ d4)
      exact ⟨B4, s4, S4, _, zipD_get d1 d3, r4⟩
  · cases e
end PK

namespace PK
open PySem PySem.Spec PyProof.Rows L2 RZ
/-! ### zip of two lists, of two tuples, of a list and a tuple -/
def iZipX (K : PySem.W.Frag) (ta : TA) : TI := fun σ hp R => ta σ hp fun vs hq => ∃ la lb xs ys, vs = [.ref la, .ref lb] ∧ ((SqL K hq la xs ∧ SqL K hq lb ys ∧ R (Itz K la lb) hq) ∨ (SqT K hq la xs ∧ SqT K hq lb ys ∧ R (ItzT K la lb) hq) ∨ (SqL K hq la xs ∧ SqT K hq lb ys ∧ R (ItM K la lb) hq))
theorem pi_zipX {X : Cx} {e e2 : Expr} {ta : TA} {p pos tpos : Pos} {elts : List Expr} {kk : Nat} (hg : Gl X "zip") (hm : X.mg "zip" = none) (ha : PA X [e, e2] ta)
    (hs : starEach [e, e2] X.env = (false, eval e X.env) :: starEach [e2] X.env := by rfl) (hpl : (backTo pos (starEach [e2] X.env)).any (·.1) = false := by rfl) : PI X (.Tuple elts kk tpos) (.Call (.Name "zip" p) [e, e2] [] pos) (iZipX X.K ta) :=
  ⟨fun pins sh σ hp R inv asks => Call_ (ld_blt inv hg hm PyProof.Rows.boot_zip (PyProof.Rows.callWith_type1 (thn (ha.run pos pins sh σ hp _ inv asks) fun us s1 got => by
    obtain ⟨vs, hq, inv1, rel, la, lb, xs, ys, rfl, ways⟩ := got
    match us, rel with
    | [_, _], .cons ra (.cons rb .nil) =>
      cases ra
      cases rb
      have far : ∀ c ∈ [s1.heap.objs.size + 4, s1.heap.objs.size + 2, s1.heap.objs.size + 3, s1.heap.objs.size, s1.heap.objs.size + 1], FpOk X pins hq c := fun c hc => by
        have low : s1.heap.objs.size ≤ c := by
          rcases fiveM hc with a | a | a | a | a <;> rw [a] <;> first | exact Nat.le_refl _ | exact Nat.le_add_right _ _
        exact inv1.fpOk low (inv1.hok.fresh low)
      rcases ways with ⟨q1, q2, goes⟩ | ⟨q1, q2, goes⟩ | ⟨q1, q2, goes⟩
      · obtain ⟨us, r1, p1, _⟩ := inv1.list q1
        obtain ⟨ws, r2, p2, _⟩ := inv1.list q2
        exact call_zip_2 p1.isList p2.isList fun h' t1 t2 t3 t4 t5 _ kept => wpAny_pyIter_zip t1 ⟨s1.heap.objs.size + 4, _, _, _, hq, rfl, inv1.kept (t' := s1.toks) kept, turn_zip (PySem.W.ktu_apart s1.heap.objs.size la lb p1.lt p2.lt), ⟨t1, t2, ⟨_, _, t3⟩, t4, t5⟩, far, goes⟩
      · obtain ⟨us, r1, p1, _⟩ := inv1.tuple q1
        obtain ⟨ws, r2, p2, _⟩ := inv1.tuple q2
        obtain ⟨o1, got1, _⟩ := id p1
        obtain ⟨o2, got2, _⟩ := id p2
        exact call_zipT (show s1.heap.IsTuple la us.toArray from p1) (show s1.heap.IsTuple lb ws.toArray from p2) fun h' t1 t2 t3 t4 t5 _ kept => wpAny_pyIter_zip t1 ⟨s1.heap.objs.size + 4, _, _, _, hq, rfl, inv1.kept (t' := s1.toks) kept, turn_zipT (PySem.W.ktu_apart s1.heap.objs.size la lb (Heap.lt_size got1) (Heap.lt_size got2)), ⟨t1, t2, ⟨_, _, t3⟩, t4, t5⟩, far, goes⟩
      · obtain ⟨us, r1, p1, _⟩ := inv1.list q1
        obtain ⟨ws, r2, p2, _⟩ := inv1.tuple q2
        obtain ⟨o2, got2, _⟩ := id p2
        exact callM p1.isList (show s1.heap.IsTuple lb ws.toArray from p2) fun h' t kept => wpAny_pyIter_zip t.1 ⟨s1.heap.objs.size + 4, _, _, _, hq, rfl, inv1.kept (t' := s1.toks) kept, turnM (PySem.W.ktu_apart s1.heap.objs.size la lb p1.lt (Heap.lt_size got2)), t, far, goes⟩) hs hpl))⟩
def iZipXD (f g : EF) : IF := fun δ => (f δ).bind fun p => (g p.2).bind fun q => match p.1, q.1 with
  | .fz (.tup xs), .fz (.tup ys) => some (zipD xs ys, [], q.2)
  | a, .fz (.tup ys) => (srcOf q.2 a).map fun z => (zipD z.1 ys, z.2, q.2)
  | a, b => match srcOf q.2 a, srcOf q.2 b with
    | some (xs, c), some (ys, d) => some (zipD xs ys, c ++ d, q.2)
    | _, _ => none
theorem pdi_zipX {X : Cx} {e e2 : Expr} {f g : EF} {p pos tpos : Pos} {elts : List Expr} {kk : Nat} (hg : Gl X "zip") (hm : X.mg "zip" = none) (ha : PD X e f) (hb : PD X e2 g)
    (hs : starEach [e, e2] X.env = (false, eval e X.env) :: starEach [e2] X.env := by rfl) (hs2 : starEach [e2] X.env = (false, eval e2 X.env) :: starEach [] X.env := by rfl) (hpl : (backTo pos (starEach [e2] X.env)).any (·.1) = false := by rfl) :
    PDI X (.Tuple elts kk tpos) (.Call (.Name "zip" p) [e, e2] [] pos) (iZipXD f g) := PI.weak (pi_zipX hg hm (pa_cons ha (pa_cons hb pa_nil hs2) hs) hs hpl) fun σ H R h => by
  obtain ⟨B, F, ad, δ, it, ck, δ', S, e, hck, k⟩ := h
  unfold iZipXD at e
  obtain ⟨⟨r, δ1⟩, e1, e⟩ := Option.bind_eq_some_iff.mp e
  obtain ⟨⟨q, δ2⟩, e2, e⟩ := Option.bind_eq_some_iff.mp e
  refine ⟨B, F, ad, δ, r, δ1, S, e1, fun B1 ad1 v H1 s1 p1 S1 r1 => ?_⟩
  refine ⟨B1, F, ad1, δ1, q, δ2, S1, e2, fun B2 ad2 w H2 s2 p2 S2 r2 => ?_⟩
  have r1' := r1.mono s2 p2
  simp only at e
  split at e
  · rename_i xs ys
    cases e
    obtain ⟨a, as, h1, h2, h3⟩ := r1'
    obtain ⟨b, bs, g1, g2, g3⟩ := r2
    subst h1 g1
    refine ⟨a, b, as, bs, rfl, .inr (.inl ⟨SqT.of (S2.exB _ _ h2), SqT.of (S2.exB _ _ g2), ?_⟩)⟩
    refine k B2 ad2 H2 (RZ.ItzT X.K a b) (fun H => SqT X.K H a as ∧ SqT X.K H b bs) _ (s1.trans s2) (p1.trans p2) S2 (walk_zipT (by rw [zipD_len, Rps.length h3, Rps.length g3])) ?_ ?_
    · intro B3 F3 ad3 σ3 δ3 H3 s3 p3 S3 c
      exact ⟨SqT.of (S3.exB _ _ (s3 _ _ h2)), SqT.of (S3.exB _ _ (s3 _ _ g2))⟩
    · rintro i x B3 F3 ad3 σ3 δ3 H3 H4 s3 p3 S3 c hi ⟨T, y, z, rfl, hT, rfl, hy, hz⟩
      obtain ⟨d, d1, d2⟩ := Rps.back h3 hy
      obtain ⟨d', d3, d4⟩ := Rps.back g3 hz
      obtain ⟨B4, s4, S4, r4⟩ := pair_new S3 hT (Rp.mono s3 _ _ d2) (Rp.mono s3 _ _ d4)
      exact ⟨B4, s4, S4, _, zipD_get d1 d3, r4⟩
  · rename_i r0 ys hne
    obtain ⟨⟨xs, c⟩, e3, e4⟩ := Option.map_eq_some_iff.mp e
    cases e4
    obtain ⟨a, as, h1, h2, h3, h4, h5⟩ := src_at S2 r1' e3
    obtain ⟨b, bs, g1, g2, g3⟩ := r2
    subst h1 g1
    refine ⟨a, b, as, bs, rfl, .inr (.inr ⟨SqL.of h2, SqT.of (S2.exB _ _ g2), ?_⟩)⟩
    refine k B2 ad2 H2 (ItM X.K a b) (fun H => ∃ as, as.length = xs.length ∧ H a = some (.lst as) ∧ SqT X.K H b bs) (fun i H v H' => ∃ as, as.length = xs.length ∧ (H a = some (.lst as) ∧ SqT X.K H b bs) ∧ YPair (fun i => as[i]?) (fun i => bs[i]?) i H v H') (s1.trans s2) (p1.trans p2) S2 ?_ ?_ ?_
    · have hw : ∀ as : List V, as.length = xs.length → Walk (ItM X.K a b) (zipD xs ys).length (fun H => H a = some (.lst as) ∧ SqT X.K H b bs) (YPair (fun i => as[i]?) (fun i => bs[i]?)) := fun as hl =>
        (walkM (K := X.K) (la := a) (lb := b) (xs := as) (ys := bs) (by rw [zipD_len, hl, Rps.length g3])).mono (fun H q => ⟨SqL.of q.1, q.2⟩) fun _ _ _ _ _ _ y => y
      exact ⟨fun i H hi ⟨as, hl, q⟩ => (hw as hl).goes i H hi q, fun H ⟨as, hl, q⟩ => (hw as hl).stops H q, fun i H x H' hi ⟨as, hl, q⟩ y => ⟨as, hl, q, (hw as hl).yields i H x H' hi q y⟩⟩
    · intro B3 F3 ad3 σ3 δ3 H3 s3 p3 S3 cc
      obtain ⟨as', q1, q2⟩ := h5 B3 F3 ad3 σ3 δ3 H3 s3 p3 S3 cc
      exact ⟨as', Rps.length q2, q1, SqT.of (S3.exB _ _ (s3 _ _ g2))⟩
    · rintro i x B3 F3 ad3 σ3 δ3 H3 H4 s3 p3 S3 cc hi ⟨as1, hl, ⟨w1, w2⟩, T, y, z, rfl, hT, rfl, hy, hz⟩
      obtain ⟨as', q1, q2⟩ := h5 B3 F3 ad3 σ3 δ3 H3 s3 p3 S3 cc
      rw [q1] at w1
      cases w1
      obtain ⟨d, d1, d2⟩ := Rps.back q2 hy
      obtain ⟨d', d3, d4⟩ := Rps.back g3 hz
      obtain ⟨B4, s4, S4, r4⟩ := pair_new S3 hT d2 (Rp.mono s3 _ _ d4)
      exact ⟨B4, s4, S4, _, zipD_get d1 d3, r4⟩
  · split at e
    · rename_i xs c ys d e3 e4
      cases e
      obtain ⟨a, as, h1, h2, h3, h4, h5⟩ := src_at S2 r1' e3
      obtain ⟨b, bs, g1, g2, g3, g4, g5⟩ := src_at S2 r2 e4
      subst h1 g1
      refine ⟨a, b, as, bs, rfl, .inl ⟨SqL.of h2, SqL.of g2, ?_⟩⟩
      refine k B2 ad2 H2 (Itz X.K a b) (fun H => ∃ as bs, (as.length = xs.length ∧ bs.length = ys.length) ∧ H a = some (.lst as) ∧ H b = some (.lst bs)) (fun i H v H' => ∃ as bs, (as.length = xs.length ∧ bs.length = ys.length) ∧ (H a = some (.lst as) ∧ H b = some (.lst bs)) ∧ YPair (fun i => as[i]?) (fun i => bs[i]?) i H v H') (s1.trans s2) (p1.trans p2) S2 ?_ ?_ ?_
      · have hw : ∀ as bs : List V, as.length = xs.length ∧ bs.length = ys.length → Walk (Itz X.K a b) (zipD xs ys).length (fun H => H a = some (.lst as) ∧ H b = some (.lst bs)) (YPair (fun i => as[i]?) (fun i => bs[i]?)) := fun as bs hl =>
          (walk_zip (K := X.K) (a := a) (b := b) (xs := as) (ys := bs) (by rw [zipD_len, hl.1, hl.2])).mono (fun H q => ⟨SqL.of q.1, SqL.of q.2⟩) fun _ _ _ _ _ _ y => y
        exact ⟨fun i H hi ⟨as, bs, hl, q⟩ => (hw as bs hl).goes i H hi q, fun H ⟨as, bs, hl, q⟩ => (hw as bs hl).stops H q, fun i H x H' hi ⟨as, bs, hl, q⟩ y => ⟨as, bs, hl, q, (hw as bs hl).yields i H x H' hi q y⟩⟩
      · intro B3 F3 ad3 σ3 δ3 H3 s3 p3 S3 cc
        obtain ⟨as', q1, q2⟩ := h5 B3 F3 ad3 σ3 δ3 H3 s3 p3 S3 (ck_app cc).1
        obtain ⟨bs', q3, q4⟩ := g5 B3 F3 ad3 σ3 δ3 H3 s3 p3 S3 (ck_app cc).2
        exact ⟨as', bs', ⟨Rps.length q2, Rps.length q4⟩, q1, q3⟩
      · rintro i x B3 F3 ad3 σ3 δ3 H3 H4 s3 p3 S3 cc hi ⟨as1, bs1, hl, ⟨w1, w2⟩, T, y, z, rfl, hT, rfl, hy, hz⟩
        obtain ⟨as', q1, q2⟩ := h5 B3 F3 ad3 σ3 δ3 H3 s3 p3 S3 (ck_app cc).1
        obtain ⟨bs', q3, q4⟩ := g5 B3 F3 ad3 σ3 δ3 H3 s3 p3 S3 (ck_app cc).2
        rw [q1] at w1
        rw [q3] at w2
        cases w1; cases w2
        obtain ⟨d, d1, d2⟩ := Rps.back q2 hy
        obtain ⟨d', d3, d4⟩ := Rps.back q4 hz
        obtain ⟨B4, s4, S4, r4⟩ := pair_new S3 hT d2 d4
        exact ⟨B4, s4, S4, _, zipD_get d1 d3, r4⟩
    · cases e
end PK

namespace PK
open PySem L2 PySem.Spec PyProof.Rows
/-! ### the floor by a divisor of either sign -/
def divF : OF := fun δ x y => match x, y with
  | .int i, .int j => if j ≠ 0 ∧ j.natAbs.log2 < 9000 then some (.fz (.int (i.fdiv j)), δ) else none
  | _, _ => none
def wideF (_ j : Int) : Prop := j ≠ 0 ∧ j.natAbs.log2 < 9000
theorem op_divF {X : Cx} : OpR X (binaryOp .FloorDiv) (rI wideF fun i j => .int (i.fdiv j)) := opI fun i j _ _ _ _ _ hc q => floordiv_int hc.1 q (.inl (PyProof.noPylong_of_log2 hc.2))
theorem od_divF {X : Cx} : OpR X (binaryOp .FloorDiv) (rD X.K X.mg divF) := by
  intro pins s σ H x y v u Q I rx ry h
  obtain ⟨B, F, ad, σ', δ, dx, dy, r, δ', S, vx, vy, e, k⟩ := h
  unfold divF at e
  split at e
  · rename_i i j
    split at e
    · rename_i hm
      cases e
      exact op_divF pins s σ H x y v u Q I rx ry ⟨i, j, vx, vy, hm, here (d := .int (i.fdiv j)) S rfl k⟩
    · cases e
  · cases e
end PK

namespace PK
open PySem L2 PySem.Spec PyProof.Rows
/-! ### names from a list -/
def hUnl (n : Nat) (g : HsF) : HF := fun d δ => match d with
  | .lst ds => if ds.length = n then g ds δ else none
  | _ => none
section
variable {X : Cx} {es : List Expr} {pos : Pos} {g : HsF}
theorem pgd_unl {k n : Nat} (hc : X.calm = true) (hg : PGs X es (gDs X.K X.mg g)) (hn : (assignEach es X.env).length = n := by rfl) (hst : (assignEach es X.env).findIdx? (·.1) = none := by rfl) : PG X (.Tuple es k pos) (gD X.K X.mg (hUnl n g)) :=
  PG.weak (pg_unl hc hg hn hst) fun v σ H Q h => by
  obtain ⟨B, F, ad, δ, d, δ', S, r, e, k⟩ := h
  cases d with
  | lst ds =>
    have e' : (if ds.length = n then g ds δ else none) = some δ' := e
    split at e'
    · rename_i hl
      obtain ⟨a, xs, rfl, h2, h3⟩ := r
      exact ⟨a, xs, rfl, SqL.of (S.exB _ _ h2), by rw [Rps.length h3]; exact hl, B, F, ad, δ, ds, δ', S, h3, e', k⟩
    · cases e'
  | _ => cases e
end
end PK

namespace PK
open PySem L2 PySem.Spec PyProof.Rows

/-! ### defs called with names, in any order -/
def pick {α : Type} (ix : List Nat) (xs : List α) : List α := ix.filterMap fun i => xs[i]?
theorem vals_get : ∀ {vs : List V} {us : List Value} (i : Nat), Vals vs us → (∃ v u, vs[i]? = some v ∧ us[i]? = some u ∧ RelV v u) ∨ (vs[i]? = none ∧ us[i]? = none) := fun {vs us} i r => by
  cases e : vs[i]? with
  | none => exact .inr ⟨rfl, r.none_of e⟩
  | some v =>
    obtain ⟨u, hu, ru⟩ := r.get e
    exact .inl ⟨v, u, rfl, hu, ru⟩
theorem pick_vals {vs : List V} {us : List Value} (r : Vals vs us) : ∀ ix : List Nat, Vals (pick ix vs) (pick ix us)
  | [] => .nil
  | i :: ix => by
    unfold pick
    rcases vals_get i r with ⟨v, u, e1, e2, ru⟩ | ⟨e1, e2⟩
    · rw [List.filterMap_cons_some e1, List.filterMap_cons_some e2]
      exact .cons ru (pick_vals r ix)
    · rw [List.filterMap_cons_none e1, List.filterMap_cons_none e2]
      exact pick_vals r ix
section
variable {K : PySem.W.Frag} {mg : Str → Option Value} {B : Hp} {ad : List Addr}
theorem rpvs_get : ∀ {rs : List Vl} {vs : List V} (i : Nat), RpVs K mg B ad rs vs → (∃ r v, rs[i]? = some r ∧ vs[i]? = some v ∧ RpV K mg B ad r v) ∨ (rs[i]? = none ∧ vs[i]? = none)
  | [], vs, i, h => by
    have h' : vs = [] := h
    subst h'
    exact .inr ⟨by simp, by simp⟩
  | r :: rs, vs, i, h => by
    obtain ⟨v, ws, rfl, h2, h3⟩ := h
    cases i with
    | zero => exact .inl ⟨r, v, rfl, rfl, h2⟩
    | succ i => simpa using rpvs_get i h3
theorem pick_rpvs {rs : List Vl} {vs : List V} (h : RpVs K mg B ad rs vs) : ∀ ix : List Nat, RpVs K mg B ad (pick ix rs) (pick ix vs)
  | [] => rfl
  | i :: ix => by
    unfold pick
    rcases rpvs_get i h with ⟨r, v, e1, e2, h2⟩ | ⟨e1, e2⟩
    · rw [List.filterMap_cons_some e1, List.filterMap_cons_some e2]
      exact ⟨v, _, rfl, h2, pick_rpvs h ix⟩
    · rw [List.filterMap_cons_none e1, List.filterMap_cons_none e2]
      exact pick_rpvs h ix
theorem rpvs_app : ∀ {rs ss : List Vl} {vs ws : List V}, RpVs K mg B ad rs vs → RpVs K mg B ad ss ws → RpVs K mg B ad (rs ++ ss) (vs ++ ws)
  | [], ss, vs, ws, h, g => by
    have h' : vs = [] := h
    subst h'
    exact g
  | r :: rs, ss, vs, ws, h, g => by
    obtain ⟨v, us, rfl, h2, h3⟩ := h
    exact ⟨v, us ++ ws, rfl, h2, rpvs_app h3 g⟩
end
/-- the values ahead are np, those by names nk; ix tells each parameter's -/
def dCallK (m : Bool) (n np nk : Nat) (ix : List Nat) (G : GF) (fa fk : AF) : EF := fun δ => (fa δ).bind fun p => (fk p.2).bind fun q =>
  if p.1.length = np ∧ q.1.length = nk ∧ (pick ix (p.1 ++ q.1)).length = n then callG m G (pick ix (p.1 ++ q.1)) q.2 else none
abbrev pk2 {α : Type} (ix : List Nat) : List α → List α → List α := fun us ws => pick ix (us ++ ws)
section
variable {X : Cx} {x : Str} {p pos : Pos} {e : Expr} {es : List Expr} {kws : List Keyword} {fa fk : AF}
/-- f(k = v, ..) -/
theorem pe_callN0 {CX : CXT} {k : Nat} {f : Addr} {fd : FuncData} {ps ks : List Str} {sp : Sp} {E : XK} {tk : TA} {g : List Value → List Value → List Value} {gV : List V → List V → List V} (F : FnOk X.prog X.w X.K X.mg X.base CX k f fd ps sp) (hr : Room k X.A) (hg : Gl X x) (hm : X.mg x = some (.ref f)) (hk : PySem.W.keepIn X.K (.ref f) = true) (hb : KBn X.K fd ps 0 ks g gV) (hx : Passes CX X E)
    (hkw : L2.PK X kws tk) (hall : (backToKw pos (keywordEach kws X.env)).all (·.1.isSome) = true := by rfl) (hks : (backToKw pos (keywordEach kws X.env)).filterMap (·.1) = ks := by rfl)
    (hdb : (x == ("__debug__" : Str)) = false := by decide)
    (hpl : ((backTo pos (starEach [] X.env)).any (·.1) || (backToKw pos (keywordEach kws X.env)).any (·.1.isNone)) = false := by rfl) :
    PE X (.Call (.Name x p) [] kws pos) (fun σ H Q => tk σ H fun zs H2 => zs.length = ks.length ∧ sp (gV [] zs) H2 Q E) := by
  refine ⟨fun pins s σ H Q I h => ?_⟩
  refine wpAny_Call_Name_kw (ld_glob I hg hm ?_ hdb)
  refine PySem.W.callWith_KW0 (first := []) (h₀ := X.base) I.ok.mod.kin hk hall ?_ hpl
  refine thn (hkw.run pos pins s σ H _ I h) fun ws s2 ⟨zs, H2, I2, rz, l2, q2⟩ => ⟨I2.kIn, ?_⟩
  rw [hks]
  exact run_fnN (us := []) (vs := []) F hr hb hx I2 .nil rz rfl l2 q2
theorem pd_callK0 {k n nk : Nat} {f : Addr} {fd : FuncData} {ps ks : List Str} {ix : List Nat} {G : GF} (m : Bool) (Fk : FnOk X.prog X.w X.K X.mg X.base CX0 k f fd ps (spD X.K X.mg n G)) (hr : Room k X.A) (hg : Gl X x) (hm : X.mg x = some (.ref f)) (hk : PySem.W.keepIn X.K (.ref f) = true)
    (hb : KBn X.K fd ps 0 ks (pk2 ix) (pk2 ix)) (hl : ks.length = nk) (ha : PDK X kws fk) (hall : (backToKw pos (keywordEach kws X.env)).all (·.1.isSome) = true := by rfl) (hks : (backToKw pos (keywordEach kws X.env)).filterMap (·.1) = ks := by rfl)
    (hdb : (x == ("__debug__" : Str)) = false := by decide)
    (hpl : ((backTo pos (starEach [] X.env)).any (·.1) || (backToKw pos (keywordEach kws X.env)).any (·.1.isNone)) = false := by rfl) :
    PD X (.Call (.Name x p) [] kws pos) (dCallK m n 0 nk ix G aNil fk) := PE.weak (pe_callN0 Fk hr hg hm hk hb pass0 ha hall hks hdb hpl) fun σ H Q h => by
  obtain ⟨B, F, ad, δ, r, δ', S, e, k⟩ := h
  unfold dCallK at e
  obtain ⟨⟨rs, δ1⟩, e1, e⟩ := Option.bind_eq_some_iff.mp e
  unfold aNil at e1
  cases e1
  obtain ⟨⟨ss, δ2⟩, e2, e⟩ := Option.bind_eq_some_iff.mp e
  split at e
  · rename_i hl2
    obtain ⟨h0, h1, h2⟩ := hl2
    refine ⟨B, F, ad, δ, ss, δ2, S, e2, fun B1 ad1 vs H1 s1 p1 S1 r1 => ?_⟩
    have hlen := r1.length
    refine ⟨by rw [hlen]; exact h1.trans hl.symm, ?_⟩
    have rr : RpVs X.K X.mg B1 ad1 (pick ix ([] ++ ss)) (pick ix ([] ++ vs)) := pick_rpvs (by simpa using r1) ix
    exact call_w S1 rr (by rw [rr.length]; exact h2) e fun B' ad' v H' s2 p2 S' r' => k B' ad' v H' (s1.trans s2) (p1.trans p2) S' r'
  · cases e
/-- f(e, .., k = v, ..) -/
theorem pd_callKN {k n np nk : Nat} {f : Addr} {fd : FuncData} {ps ks : List Str} {ix : List Nat} {G : GF} (m : Bool) (Fk : FnOk X.prog X.w X.K X.mg X.base CX0 k f fd ps (spD X.K X.mg n G)) (hr : Room k X.A) (hg : Gl X x) (hm : X.mg x = some (.ref f)) (hk : PySem.W.keepIn X.K (.ref f) = true)
    (hb : KBn X.K fd ps np ks (pk2 ix) (pk2 ix)) (hl : ks.length = nk) (ha : PDA X (e :: es) fa) (hkw : PDK X kws fk) (hall : (backToKw pos (keywordEach kws X.env)).all (·.1.isSome) = true := by rfl) (hks : (backToKw pos (keywordEach kws X.env)).filterMap (·.1) = ks := by rfl)
    (hdb : (x == ("__debug__" : Str)) = false := by decide) (he : starEach (e :: es) X.env = (false, eval e X.env) :: starEach es X.env := by rfl)
    (hpl : ((backTo pos (starEach (e :: es) X.env)).any (·.1) || (backToKw pos (keywordEach kws X.env)).any (·.1.isNone)) = false := by rfl) :
    PD X (.Call (.Name x p) (e :: es) kws pos) (dCallK m n np nk ix G fa fk) := PE.weak (pe_callN (E := E0) Fk hr hg hm hk hb pass0 ha hkw hall hks hdb he hpl) fun σ H Q h => by
  obtain ⟨B, F, ad, δ, r, δ', S, e, k⟩ := h
  unfold dCallK at e
  obtain ⟨⟨rs, δ1⟩, e1, e⟩ := Option.bind_eq_some_iff.mp e
  obtain ⟨⟨ss, δ2⟩, e2, e⟩ := Option.bind_eq_some_iff.mp e
  split at e
  · rename_i hl2
    obtain ⟨h0, h1, h2⟩ := hl2
    refine ⟨B, F, ad, δ, rs, δ1, S, e1, fun B1 ad1 vs H1 s1 p1 S1 r1 => ?_⟩
    refine ⟨B1, F, ad1, δ1, ss, δ2, S1, e2, fun B2 ad2 ws H2 s2 p2 S2 r2 => ?_⟩
    refine ⟨by rw [r1.length]; exact h0, by rw [r2.length]; exact h1.trans hl.symm, ?_⟩
    have rr : RpVs X.K X.mg B2 ad2 (pick ix (rs ++ ss)) (pick ix (vs ++ ws)) := pick_rpvs (rpvs_app (r1.mono s2 p2) r2) ix
    exact call_w S2 rr (by rw [rr.length]; exact h2) e fun B' ad' v H' s3 p3 S' r' => k B' ad' v H' ((s1.trans s2).trans s3) ((p1.trans p2).trans p3) S' r'
  · cases e
end

/-! ### an item of a displayed dict of written texts -/
def kvD : List (Str × EF) → Dl → Option (List (Str × D) × Dl)
  | [], δ => some ([], δ)
  | (x, f) :: r, δ => (f δ).bind fun p => match p.1 with
    | .fz d => (kvD r p.2).map fun q => ((x, d) :: q.1, q.2)
    | _ => none
def dDix (kfs : List (Str × EF)) (fi : EF) : EF := fun δ => (kvD kfs δ).bind fun p => (fi p.2).bind fun q => match q.1 with
  | .fz (.str x) => (p.1.lookup x).map fun d => (.fz d, q.2)
  | _ => none
section
variable {X : Cx} {pos : Pos}
def tKvs (K : PySem.W.Frag) (mg : Str → Option Value) : List (Str × EF) → List (TE × TE)
  | [] => []
  | (x, f) :: r => (tD K mg (dC (.str x)), tD K mg f) :: tKvs K mg r
theorem ppd_nil : PPs X pos [] [] (tKvs X.K X.mg []) := pps_nil
theorem ppd_cons {k v : Expr} {ks : List (Option Expr)} {vs : List Expr} {x : Str} {f : EF} {r : List (Str × EF)} (hk : PD X k (dC (.str x))) (hv : PD X v f) (hr : PPs X pos ks vs (tKvs X.K X.mg r)) : PPs X pos (some k :: ks) (v :: vs) (tKvs X.K X.mg ((x, f) :: r)) := pps_cons hk hv hr
inductive RKv (K : PySem.W.Frag) (mg : Str → Option Value) (B : Hp) : List (Str × D) → List (Key × V) → Prop
  | nil : RKv K mg B [] []
  | cons {x : Str} {d : D} {v : V} {r : List (Str × D)} {s : List (Key × V)} (h : Rp K mg B d v) (t : RKv K mg B r s) : RKv K mg B ((x, d) :: r) ((.inr x, v) :: s)
theorem RKv.mono {K : PySem.W.Frag} {mg : Str → Option Value} {B B' : Hp} (e : Same B B') {r : List (Str × D)} {s : List (Key × V)} (h : RKv K mg B r s) : RKv K mg B' r s := by
  induction h with
  | nil => exact .nil
  | cons h t ih => exact .cons (Rp.mono e _ _ h) ih
theorem RKv.length {K : PySem.W.Frag} {mg : Str → Option Value} {B : Hp} {r : List (Str × D)} {s : List (Key × V)} (h : RKv K mg B r s) : s.length = r.length := by
  induction h with
  | nil => rfl
  | cons h t ih => rw [List.length_cons, List.length_cons, ih]
theorem RKv.keys {K : PySem.W.Frag} {mg : Str → Option Value} {B : Hp} {r : List (Str × D)} {s : List (Key × V)} (h : RKv K mg B r s) : s.map (·.1) = r.map fun p => Sum.inr p.1 := by
  induction h with
  | nil => rfl
  | cons h t ih => rw [List.map_cons, List.map_cons, ih]
theorem RKv.get {K : PySem.W.Frag} {mg : Str → Option Value} {B : Hp} {r : List (Str × D)} {s : List (Key × V)} {x : Str} {d : D} (h : RKv K mg B r s) (e : r.lookup x = some d) : ∃ v, valV s (Sum.inr x : Key) = some v ∧ Rp K mg B d v := by
  induction h with
  | nil => cases e
  | @cons y d2 v r s h t ih =>
    rw [List.lookup_cons] at e
    by_cases q : x = y
    · subst q
      simp at e
      subst e
      exact ⟨v, valV_pos rfl, h⟩
    · have q2 : (x == y) = false := by simpa using q
      rw [q2] at e
      obtain ⟨w, h1, h2⟩ := ih e
      refine ⟨w, ?_, h2⟩
      unfold valV at h1 ⊢
      rw [List.find?_cons]
      have : decide ((Sum.inr y : Key) = Sum.inr x) = false := by
        simp
        exact fun z => q z.symm
      simp only [this]
      exact h1
theorem merge_app : ∀ (s acc : List (Key × V)), ((acc ++ s).map (·.1)).Nodup → mergeK acc s = acc ++ s
  | [], acc, _ => by simp [mergeK]
  | kv :: s, acc, h => by
    have h1 : putK acc kv.1 kv.2 = acc ++ [kv] := by
      unfold putK
      rw [if_neg]
      intro z
      rw [List.any_eq_true] at z
      obtain ⟨y, hy, e⟩ := z
      rw [List.map_append, List.map_cons, List.nodup_append] at h
      exact h.2.2 _ (List.mem_map_of_mem hy) _ List.mem_cons_self (of_decide_eq_true e)
    show mergeK (putK acc kv.1 kv.2) s = _
    rw [h1, merge_app s (acc ++ [kv]) (by simpa using h)]
    simp
theorem kvs_w {K : PySem.W.Frag} {mg : Str → Option Value} {Q : List (V × V) → Hp → Prop} {σ : L2.St} {F : Hp} : ∀ {kfs : List (Str × EF)} {B : Hp} {ad : List Addr} {δ δ' : Dl} {H : Hp} {kds : List (Str × D)}, SRep K mg B F ad σ δ H → kvD kfs δ = some (kds, δ') →
    (∀ B' ad' kvs H', Same B B' → Pre ad ad' → SRep K mg B' F ad' σ δ' H' → RKv K mg B' kds kvs → Q (kvs.map fun kv => (kV kv.1, kv.2)) H') → tPairs (tKvs K mg kfs) σ H Q
  | [], B, ad, δ, δ', H, kds, S, e, k => by
    unfold kvD at e
    cases e
    exact k B ad [] H (Same.refl _) (Pre.refl _) S .nil
  | (x, f) :: r, B, ad, δ, δ', H, kds, S, e, k => by
    unfold kvD at e
    obtain ⟨⟨v, δ1⟩, e1, e⟩ := Option.bind_eq_some_iff.mp e
    dsimp only at e
    split at e
    · rename_i d
      obtain ⟨⟨ks, δ2⟩, e2, e3⟩ := Option.map_eq_some_iff.mp e
      cases e3
      refine ⟨B, F, ad, δ, .fz (.str x), δ, S, rfl, fun B1 ad1 u H1 s1 p1 S1 r1 => ?_⟩
      have r1' : u = .str x := r1
      subst r1'
      refine ⟨B1, F, ad1, δ, .fz d, δ1, S1, e1, fun B2 ad2 w H2 s2 p2 S2 r2 => ?_⟩
      refine kvs_w S2 e2 fun B3 ad3 kvs H3 s3 p3 S3 r3 => ?_
      exact k B3 ad3 ((.inr x, w) :: kvs) H3 ((s1.trans s2).trans s3) ((p1.trans p2).trans p3) S3 (.cons (Rp.mono s3 _ _ r2) r3)
    · cases e
theorem pd_dix {keys : List (Option Expr)} {values : List Expr} {kfs : List (Str × EF)} {i : Expr} {fi : EF} {pos2 : Pos} (hu : X.A.units + 1 < cLine) (h : PPs X pos keys values (tKvs X.K X.mg kfs)) (hi : PD X i fi) (hnd : (kfs.map (·.1)).Nodup) (h15k : kfs.length ≤ 15) (hall : keys.all (·.isSome) = true := by rfl) (hl : keys.length = values.length := by rfl) (h0 : keys ≠ [] := by simp)
    (h15 : keys.length ≤ 15 := by decide) (hs : NoSl i := by exact fun _ _ => rfl) : PD X (.Subscript (.Dict keys values pos) i pos2) (dDix kfs fi) := PE.weak (pe_dget hu (pe_disp h hall hl h0 h15) hi hs) fun σ H Q h => by
  obtain ⟨B, F, ad, δ, r, δ', S, e, k⟩ := h
  unfold dDix at e
  obtain ⟨⟨kds, δ1⟩, e1, e⟩ := Option.bind_eq_some_iff.mp e
  obtain ⟨⟨y, δ2⟩, e2, e⟩ := Option.bind_eq_some_iff.mp e
  dsimp only at e
  split at e
  · rename_i x
    obtain ⟨d, e3, e4⟩ := Option.map_eq_some_iff.mp e
    cases e4
    intro p hp
    have hF : F p = none := S.exF.free hp
    refine kvs_w (S.allocF (o := .dK []) hp) e1 fun B1 ad1 kvs H1 s1 p1 S1 r1 => ?_
    have hkn : kds.map (·.1) = kfs.map (·.1) := by
      have go : ∀ (kfs : List (Str × EF)) (δ δ' : Dl) (kds : List (Str × D)), kvD kfs δ = some (kds, δ') → kds.map (·.1) = kfs.map (·.1) := by
        intro kfs
        induction kfs with
        | nil =>
          intro δ δ' kds e
          unfold kvD at e
          cases e
          rfl
        | cons kf r ih =>
          intro δ δ' kds e
          obtain ⟨x, f⟩ := kf
          unfold kvD at e
          obtain ⟨⟨v, δ1⟩, e1, e⟩ := Option.bind_eq_some_iff.mp e
          dsimp only at e
          split at e
          · obtain ⟨⟨ks, δ2⟩, e2, e3⟩ := Option.map_eq_some_iff.mp e
            cases e3
            rw [List.map_cons, List.map_cons, ih _ _ _ e2]
          · cases e
      exact go _ _ _ _ e1
    have hnd2 : (kvs.map (·.1)).Nodup := by
      rw [r1.keys, show (kds.map fun p => (Sum.inr p.1 : Key)) = (kds.map (·.1)).map Sum.inr by simp, hkn]
      exact List.Pairwise.map _ (fun a b hab z => hab (Sum.inr.inj z)) hnd
    have hkl : kvs.length ≤ 15 := by
      rw [r1.length]
      have := congrArg List.length hkn
      simp at this
      omega
    refine ⟨S1.exF p _ upd_same, kvs, rfl, hkl, ?_⟩
    rw [merge_app kvs [] (by simpa using hnd2), List.nil_append]
    have S2 := S1.setF (u := .dK kvs)
    refine ⟨B1, upd F p (.dK kvs), ad1, δ1, .fz (.str x), _, S2, e2, fun B2 ad2 u H2 s2 p2 S3 r2 => ?_⟩
    have r2' : u = .str x := r2
    subst r2'
    obtain ⟨v, g1, g2⟩ := r1.get e3
    refine ⟨p, v, rfl, ?_, ?_⟩
    · have h1 : H2 p = some (.dK kvs) := S3.exF p _ upd_same
      have h2 := DGet.k (k := Sum.inr x) h1
      rw [g1] at h2
      exact h2
    · exact k B2 ad2 v H2 (s1.trans s2) (p1.trans p2) (S3.weakF (same_new hF)) (Rp.mono s2 _ _ g2)
  · cases e
end
/-- an integer of less than a hundred and twenty-eight weighs little -/
theorem shw_few {i : Int} (h : i.natAbs < 128) : Shw 8 0 (.int i) := by
  obtain ⟨p, h1, h2, h3, h4, _, h6⟩ := shw_int (i := i) (Nat.lt_of_lt_of_le h (by decide))
  cases h1
  refine ⟨.int i, rfl, h2, h3, h4, ?_, h6⟩
  have hl : i.natAbs.log2 < 7 := by
    rcases Nat.eq_zero_or_pos i.natAbs with e | e
    · rw [e]; decide
    · exact (Nat.log2_lt (by omega)).mpr h
  simp only [PyData.weight]
  split <;> omega
theorem u1_of {k : Nat} {A : Around} (hr : Room k A) : A.units + 1 < cLine := by have := hr.units; omega
end PK

namespace PK
open PySem PySem.Spec PyProof.Rows L2 RZ
/-! ### zip of any number of things: its call -/
theorem zn1 : builtinKind "zip.__new__" = some .builtinFn := by decide +kernel
theorem zn2 : splitId "zip.__new__" = some ("zip", "__new__") := by decide +kernel
theorem zn_check (f sh full short : String) (r : Manifest.Receiver) (n : Nat) : Bind.check ⟨.keywordsApart, f, sh, r, [⟨"iterables", .varPos, false⟩, ⟨"strict", .kwOnly, false⟩]⟩ full short n [] = pure () := by
  have h1 : Bind.checkCount short [⟨"iterables", .varPos, false⟩, ⟨"strict", .kwOnly, false⟩] n = pure () := by
    unfold Bind.checkCount
    simp [Bind.isPositional]
    intro _ h
    exact absurd h (by decide)
  have h2 : Bind.checkKeywords short [⟨"strict", .kwOnly, false⟩] 0 [] = pure () := by kernel_rfl
  unfold Bind.check
  dsimp only
  rw [h1]
  show Bind.checkKeywords short [⟨"strict", .kwOnly, false⟩] 0 [] = _
  exact h2
theorem zn_sig : Manifest.signature? "zip.__new__" = some ⟨.keywordsApart, "zip", "zip", .cls, [⟨"iterables", .varPos, false⟩, ⟨"strict", .kwOnly, false⟩]⟩ := by
  kernel_rfl
theorem zn_init (obj : Value) (args : List Value) : argsOk "object.__init__" ⟨obj :: args, []⟩ := by
  unfold argsOk; rw [signature?_of (id := "object.__init__") (n := ['_', '_', 't', 'i', 'n', 'i', '_', '_']) (o := ['t', 'c', 'e', 'j', 'b', 'o']) (by kernel_rfl) F.owner_object]; kernel_rfl
theorem zn_args (args : List Value) : Bind.checkArgs "zip.__new__" ⟨.keywordsApart, "zip", "zip", .cls, [⟨"iterables", .varPos, false⟩, ⟨"strict", .kwOnly, false⟩]⟩ ⟨.type "zip" :: args, []⟩ = pure () := by
  unfold Bind.checkArgs
  simp only [List.map_nil, zn_check]
  kernel_rfl
theorem zn_call (args : List Value) : checkBuiltinCall "zip.__new__" ⟨.type "zip" :: args, []⟩ = pure () := by
  unfold checkBuiltinCall
  rw [zn1, zn2, zn_sig]
  dsimp only
  rw [zn_args]
  kernel_rfl
theorem zn_type (args : List Value) : checkTypeCall "zip" ⟨args, []⟩ = pure () := by kernel_rfl
/-! ### a loop over a list, within the model -/
theorem forIn_wp {α β : Type} {M : Model} {A : Around} {E : Value → Shared → Prop} {f : α → β → Sem (ForInStep β)} {Q : β → Shared → Prop} (P : List α → β → Shared → Prop)
    (hs : ∀ x xs b s, P (x :: xs) b s → wpAny M A (f x b) (fun r s' => match r with | .done b' => Q b' s' | .yield b' => P xs b' s') E s) (h0 : ∀ b s, P [] b s → Q b s) : ∀ (xs : List α) (b : β) (s : Shared), P xs b s → wpAny M A (forIn xs b f) Q E s
  | [], b, s, h => by
    rw [List.forIn_nil]
    exact wpAny_pure (h0 b s h)
  | x :: xs, b, s, h => by
    rw [List.forIn_cons]
    refine wpAny_bind (wpAny_mono (hs x xs b s h) (fun r s' h' => ?_) fun _ _ z => z)
    cases r with
    | done b' => exact wpAny_pure h'
    | yield b' => exact forIn_wp P hs h0 xs b' s' h'
/-! ### the things that are walked -/
structure Ent (P : Program) (w : World) where
  it : Nat
  l : Nat
  S : Nat → Heap → Prop
  g : Nat → Option Value
  I : Itr P w it l S g
section
variable {P : Program} {w : World} {A : Around} {E : Value → Shared → Prop} {sh : Shared} {z TI TO : Nat} {es : List (Ent P w)} {k : Nat} {f0 : Value} {f1 : Bool}
abbrev zObj (TI TO : Nat) (f0 : Value) (f1 : Bool) : Obj := { cls := .type "zip", dict := none, data := .fields #[f0, .bool f1, .bool false, .ref TI, .ref TO], slots := #[] }
abbrev tObj (xs : List Value) : Obj := { cls := .type "tuple", data := .seq xs.toArray }
abbrev refsE (es : List (Ent P w)) : List Value := es.map fun e => .ref e.it
structure ZAp (z TI TO : Nat) (es : List (Ent P w)) : Prop where
  nd : (z :: TI :: TO :: es.map (·.it)).Nodup
  ls : ∀ e ∈ es, e.l ∉ (z :: TI :: TO :: es.map (·.it))
/-- the items of the turn -/
def ItemsOf (es : List (Ent P w)) (k : Nat) (xs : List Value) : Prop := es.map (fun e => e.g k) = xs.map some
theorem ItemsOf.len {xs : List Value} (h : ItemsOf es k xs) : xs.length = es.length := by
  have := congrArg List.length h
  simpa using this.symm
/-- what one thing keeps while another place turns -/
theorem ZAp.keepS (D : ZAp z TI TO es) {e : Ent P w} (he : e ∈ es) {j : Nat} {h h' : Heap} {a : Nat} (ha : a ∈ (z :: TI :: TO :: es.map (·.it))) (hne : e.it ≠ a) (hk : ∀ c o, c ≠ a → h.get? c = some o → h'.get? c = some o) (hS : e.S j h) : e.S j h' :=
  e.I.keep _ _ _ hS (fun o q => hk _ o hne q) fun o q => hk _ o (fun y => D.ls e he (by rw [y]; exact ha)) q
theorem ZAp.it_ne (D : ZAp z TI TO es) {e : Ent P w} (he : e ∈ es) : e.it ≠ z ∧ e.it ≠ TI ∧ e.it ≠ TO := by
  have h := D.nd
  have hm : e.it ∈ es.map (·.it) := List.mem_map_of_mem he
  simp only [List.nodup_cons, List.mem_cons, not_or] at h
  exact ⟨fun y => h.1.2.2 (y ▸ hm), fun y => h.2.1.2 (y ▸ hm), fun y => h.2.2.1 (y ▸ hm)⟩
/-- in the middle of a turn -/
structure Mid (es done todo : List (Ent P w)) (k : Nat) (ys zs : List Value) (ex : Nat → Prop) (h₁ h : Heap) : Prop where
  eq : es = done ++ todo
  yd : ItemsOf done k ys
  zd : ItemsOf todo k zs
  sd : ∀ e ∈ done, e.S (k + 1) h
  st : ∀ e ∈ todo, e.S k h
  sz : h.objs.size = h₁.objs.size
  kp : ∀ c o, ¬ ex c → c ∉ es.map (·.it) → h₁.get? c = some o → h.get? c = some o
theorem Mid.next {ex : Nat → Prop} {done todo : List (Ent P w)} {e : Ent P w} {ys zs : List Value} {h₁ h h' : Heap} {x : Value} (D : ZAp z TI TO es) (m : Mid es done (e :: todo) k ys zs ex h₁ h) (hx : e.g k = some x) (hS : e.S (k + 1) h') (sb : Heap.SameBut e.it h h') : Mid es (done ++ [e]) todo k (ys ++ [x]) zs.tail ex h₁ h' := by
  have hnd : (done.map (·.it) ++ e.it :: todo.map (·.it)).Nodup := by
    have h1 := D.nd
    rw [m.eq] at h1
    simp only [List.map_append, List.map_cons, List.nodup_cons] at h1
    exact h1.2.2.2
  rw [List.nodup_append] at hnd
  obtain ⟨_, n2, n3⟩ := hnd
  have he : e ∈ es := by rw [m.eq]; simp
  have hfp : e.it ∈ (z :: TI :: TO :: es.map (·.it)) := by
    have : e.it ∈ es.map (·.it) := List.mem_map_of_mem he
    simp [this]
  have hkp : ∀ c o, c ≠ e.it → h.get? c = some o → h'.get? c = some o := fun c o hc q => sb.extBut _ _ hc q
  refine ⟨by rw [m.eq]; simp, ?_, ?_, fun e' h1 => ?_, fun e' h1 => ?_, sb.1.trans m.sz, fun c o hx hc q => hkp c o (fun y => hc (y ▸ List.mem_map_of_mem he)) (m.kp c o hx hc q)⟩
  · have := m.yd
    unfold ItemsOf at this ⊢
    rw [List.map_append, this, List.map_append]
    simp [hx]
  · have := m.zd
    unfold ItemsOf at this ⊢
    cases zs with
    | nil => simp at this
    | cons a b =>
      simp at this
      simpa using this.2
  · rcases List.mem_append.mp h1 with h2 | h2
    · exact D.keepS (by rw [m.eq]; exact List.mem_append_left _ h2) hfp (fun y => n3 _ (List.mem_map_of_mem h2) _ List.mem_cons_self y) hkp (m.sd e' h2)
    · rw [List.mem_singleton.mp h2]; exact hS
  · refine D.keepS (by rw [m.eq]; exact List.mem_append_right _ (List.mem_cons_of_mem _ h1)) hfp (fun y => ?_) hkp (m.st e' (List.mem_cons_of_mem _ h1))
    rw [List.nodup_cons] at n2
    exact n2.1 (y ▸ List.mem_map_of_mem h1)
theorem Mid.item {ex : Nat → Prop} {done todo : List (Ent P w)} {e : Ent P w} {ys zs : List Value} {h₁ h : Heap} (m : Mid es done (e :: todo) k ys zs ex h₁ h) : ∃ x r, zs = x :: r ∧ e.g k = some x := by
  have := m.zd
  unfold ItemsOf at this
  cases zs with
  | nil => simp at this
  | cons a b =>
    simp at this
    exact ⟨a, b, rfl, this.1⟩
theorem zn_held {T : Nat} {oT : Obj} {xs : List Value} {Q : Value → Shared → Prop} (D : ZAp z TI TO es) (hne : es ≠ []) (hl : es.length ≤ sizeLine) (hz : sh.heap.get? z = some (zObj TI TO (rawInt T) f1)) (hT : sh.heap.get? T = some oT) (hTI : sh.heap.get? TI = some (tObj (refsE es)))
    (hS : ∀ e ∈ es, e.S k sh.heap) (hx : ItemsOf es k xs)
    (good : ∀ h', h'.get? z = some (zObj TI TO (rawInt T) true) → (∀ e ∈ es, e.S (k + 1) h') → h'.get? sh.heap.objs.size = some (tObj xs) → h'.objs.size = sh.heap.objs.size + 1 → (∀ c o, c ≠ z → c ∉ es.map (·.it) → sh.heap.get? c = some o → h'.get? c = some o) → Q (.ref sh.heap.objs.size) { sh with heap := h' }) :
    wpAny (model P w) A (Builtin.«zip.__next__» ⟨[.ref z], []⟩) (fun fin sx => ∃ v, fin = .done (.ret v) ∧ Q v sx) E sh := by
  show wpAny _ _ (field (.ref z) 2 >>= _) _ _ _
  refine wpAny_bind (wpAny_field hz rfl (x := .bool false) rfl ?_)
  show wpAny _ _ (field (.ref z) 3 >>= _) _ _ _
  refine wpAny_bind (wpAny_field hz rfl (x := .ref TI) rfl ?_)
  refine wpAny_bind (wpAny_seqItems hTI rfl ?_)
  have he : (refsE es).toArray.isEmpty = false := by
    cases es with
    | nil => exact absurd rfl hne
    | cons _ _ => rfl
  simp only [he, Bool.false_eq_true, if_false]
  show wpAny _ _ (Builtin.SmallTypes.ownedTupleIsFree (.ref z) >>= _) _ _ _
  refine wpAny_bind (wpAny_tupleHeld_zip hz hT fun h₁ hz₁ hs₁ => ?_)
  simp only [Bool.false_eq_true, if_false]
  refine wpAny_bind ?_
  rw [← Array.forIn_toList]
  have hz1n : z ∉ es.map (·.it) := fun hm => by
    obtain ⟨e, h1, h2⟩ := List.mem_map.mp hm
    exact (D.it_ne h1).1 h2
  refine forIn_wp (P := fun rest b s => ∃ done todo ys zs h', rest = refsE todo ∧ b = (Option.none, ys.toArray) ∧ s = { sh with heap := h' } ∧ ys ++ zs = xs ∧ Mid es done todo k ys zs (fun _ => False) h₁ h') ?_ ?_ _ _ _ ?_
  · rintro x rest b s ⟨done, todo, ys, zs, h', e1, rfl, rfl, e4, m⟩
    cases todo with
    | nil => cases e1
    | cons e todo =>
      obtain ⟨rfl, rfl⟩ := List.cons.inj e1
      obtain ⟨x, r, rfl, hx⟩ := m.item
      refine wpAny_bind (wpAny_holding ?_)
      show wpAny _ _ (Builtin.SmallTypes.nextOf (.ref e.it) >>= _) _ _ _
      refine wpAny_bind (e.I.next _ _ _ _ _ _ (m.st e List.mem_cons_self) hx fun h2 hS2 sb => wpAny_pure ?_)
      refine wpAny_pure ⟨done ++ [e], todo, ys ++ [x], r, h2, rfl, by simp, rfl, by simpa using e4, m.next D hx hS2 sb⟩
  · rintro b s ⟨done, todo, ys, zs, h', e1, rfl, rfl, e4, m⟩
    have ht : todo = [] := by
      cases todo with
      | nil => rfl
      | cons _ _ => cases e1
    subst ht
    have hzs : zs = [] := by
      have := m.zd.len
      exact List.length_eq_zero_iff.mp (by simpa using this)
    subst hzs
    rw [List.append_nil] at e4
    subst e4
    have hd : es = done := by rw [m.eq, List.append_nil]
    show wpAny _ _ (newTuple ys.toArray.toList >>= _) _ _ _
    have hsz : h'.objs.size = sh.heap.objs.size := m.sz.trans hs₁.1
    refine wpAny_bind (wpAny_newTuple (wpAny_pure ⟨_, rfl, ?_⟩) (by rw [List.toList_toArray, m.yd.len, ← hd]; exact hl))
    show Q (.ref h'.objs.size) _
    rw [hsz]
    have up : ∀ c o, h'.get? c = some o → (h'.push { cls := .type "tuple", data := .seq ys.toArray }).get? c = some o := fun c o q => Heap.get?_push_of_some _ q
    have zk : h'.get? z = some (zObj TI TO (rawInt T) true) := m.kp _ _ id hz1n hz₁
    have hp : (h'.push { cls := .type "tuple", data := .seq ys.toArray }).get? h'.objs.size = some (tObj ys) := Heap.get?_push_size _ rfl
    rw [hsz] at hp
    refine good _ (up _ _ zk) (fun e h1 => ?_) hp (by rw [Heap.size_push, hsz]) fun c o c1 c2 q => up _ _ (m.kp c o id c2 (hs₁.extBut _ _ c1 q))
    have := m.sd e (hd ▸ h1)
    exact e.I.keep _ _ _ this (fun o q => up _ _ q) fun o q => up _ _ q
  · refine ⟨[], es, [], xs, h₁, by simp, rfl, rfl, rfl, ⟨rfl, rfl, hx, fun _ h => (by cases h), fun e h1 => ?_, rfl, fun _ _ _ _ q => q⟩⟩
    exact D.keepS h1 (a := z) (by simp) (D.it_ne h1).1 (fun c o hc q => hs₁.extBut _ _ hc q) (hS e h1)

theorem zn_held_stop {T : Nat} {oT : Obj} {e : Ent P w} {Q : Fin → Shared → Prop} (hd : A.handled = Option.none) (D : ZAp z TI TO (e :: es)) (hz : sh.heap.get? z = some (zObj TI TO (rawInt T) f1)) (hT : sh.heap.get? T = some oT) (hTI : sh.heap.get? TI = some (tObj (refsE (e :: es))))
    (hS : e.S k sh.heap) (hx : e.g k = Option.none)
    (good : ∀ h' x, (∀ c o, c ≠ z → c ∉ (e :: es).map (·.it) → sh.heap.get? c = some o → h'.get? c = some o) → (∃ o, h'.get? x = some o ∧ o.cls = .type "StopIteration") → E (.ref x) { sh with heap := h' }) :
    wpAny (model P w) A (Builtin.«zip.__next__» ⟨[.ref z], []⟩) Q E sh := by
  show wpAny _ _ (field (.ref z) 2 >>= _) _ _ _
  refine wpAny_bind (wpAny_field hz rfl (x := .bool false) rfl ?_)
  show wpAny _ _ (field (.ref z) 3 >>= _) _ _ _
  refine wpAny_bind (wpAny_field hz rfl (x := .ref TI) rfl ?_)
  refine wpAny_bind (wpAny_seqItems hTI rfl ?_)
  have he : (refsE (e :: es)).toArray.isEmpty = false := rfl
  simp only [he, Bool.false_eq_true, if_false]
  show wpAny _ _ (Builtin.SmallTypes.ownedTupleIsFree (.ref z) >>= _) _ _ _
  refine wpAny_bind (wpAny_tupleHeld_zip hz hT fun h₁ hz₁ hs₁ => ?_)
  simp only [Bool.false_eq_true, if_false]
  refine wpAny_bind ?_
  rw [← Array.forIn_toList]
  show wpAny _ _ (forIn (Value.ref e.it :: refsE es) _ _) _ _ _
  rw [List.forIn_cons]
  have hS1 : e.S k h₁ := D.keepS List.mem_cons_self (a := z) (by simp) (D.it_ne List.mem_cons_self).1 (fun c o hc q => hs₁.extBut _ _ hc q) hS
  refine wpAny_bind (wpAny_bind (wpAny_holding ?_))
  show wpAny _ _ (Builtin.SmallTypes.nextOf (.ref e.it) >>= _) _ _ _
  refine wpAny_bind (e.I.stop _ _ _ _ _ hd hS1 hx fun h2 x sb hc => ?_)
  exact good h2 x (fun c o c1 c2 q => sb _ _ (fun y => c2 (by rw [y]; simp)) (hs₁.extBut _ _ c1 q)) hc
/-- its own tuple is free: it was never out, or it is gone -/
def FreeF (h : Heap) (f0 : Value) : Prop := f0 = .none ∨ ∃ T : Nat, f0 = rawInt T ∧ h.get? T = Option.none
theorem zn_isFree {Q : Bool → Shared → Prop} (hz : sh.heap.get? z = some (zObj TI TO f0 f1)) (hf : FreeF sh.heap f0) (h : Q true sh) : wpAny (model P w) A (Builtin.SmallTypes.ownedTupleIsFree (.ref z)) Q E sh := by
  unfold Builtin.SmallTypes.ownedTupleIsFree
  rcases hf with rfl | ⟨T, rfl, hT⟩
  · exact wpAny_bind (wpAny_field hz rfl (x := .none) rfl (wpAny_pure h))
  · refine wpAny_bind (wpAny_field hz rfl (x := rawInt T) rfl ?_)
    show wpAny _ _ (loadIfAlive ((T : Int).toNat) >>= _) _ _ _
    rw [Int.toNat_natCast]
    have hl : wpAny (model P w) A (loadIfAlive T) (fun o s => o = Option.none ∧ s = sh) E sh := by
      have h' : (fun (o : Option Obj) (s : Shared) => o = Option.none ∧ s = sh) (sh.heap.get? T) sh := ⟨hT, rfl⟩
      exact fun _ _ _ => h'
    refine wpAny_bind (wpAny_mono hl (fun o s hh => ?_) fun _ _ y => y)
    obtain ⟨rfl, rfl⟩ := hh
    simp only [Option.isNone_none, if_true]
    exact wpAny_pure h
theorem zn_free {xs us : List Value} {Q : Value → Shared → Prop} (D : ZAp z TI TO es) (hne : es ≠ []) (hl : es.length ≤ sizeLine) (hf : FreeF sh.heap f0) (hz : sh.heap.get? z = some (zObj TI TO f0 f1)) (hTI : sh.heap.get? TI = some (tObj (refsE es))) (hTO : sh.heap.get? TO = some (tObj us)) (hul : us.length = es.length)
    (hS : ∀ e ∈ es, e.S k sh.heap) (hx : ItemsOf es k xs)
    (good : ∀ h', h'.get? z = some (zObj TI TO (rawInt sh.heap.objs.size) false) → h'.get? TO = some (tObj xs) → (∀ e ∈ es, e.S (k + 1) h') → h'.get? sh.heap.objs.size = some (tObj xs) → h'.objs.size = sh.heap.objs.size + 1 → (∀ c o, c ≠ z → c ≠ TO → c ∉ es.map (·.it) → sh.heap.get? c = some o → h'.get? c = some o) → Q (.ref sh.heap.objs.size) { sh with heap := h' }) :
    wpAny (model P w) A (Builtin.«zip.__next__» ⟨[.ref z], []⟩) (fun fin sx => ∃ v, fin = .done (.ret v) ∧ Q v sx) E sh := by
  show wpAny _ _ (field (.ref z) 2 >>= _) _ _ _
  refine wpAny_bind (wpAny_field hz rfl (x := .bool false) rfl ?_)
  show wpAny _ _ (field (.ref z) 3 >>= _) _ _ _
  refine wpAny_bind (wpAny_field hz rfl (x := .ref TI) rfl ?_)
  refine wpAny_bind (wpAny_seqItems hTI rfl ?_)
  have he : (refsE es).toArray.isEmpty = false := by
    cases es with
    | nil => exact absurd rfl hne
    | cons _ _ => rfl
  simp only [he, Bool.false_eq_true, if_false]
  show wpAny _ _ (Builtin.SmallTypes.ownedTupleIsFree (.ref z) >>= _) _ _ _
  refine wpAny_bind (zn_isFree hz hf ?_)
  simp only [if_true]
  refine wpAny_bind (wpAny_rule (wpAny_bind (wpAny_field hz rfl (x := .ref TO) rfl (wpAny_bind (wpAny_setField_rec hz (by simp) fun m1 z1 c1 => ?_)))))
  replace z1 : m1.get? z = some (zObj TI TO .ellipsis f1) := z1
  refine wpAny_bind ?_
  have hz1n : z ∉ es.map (·.it) := fun hm => by
    obtain ⟨e, h1, h2⟩ := List.mem_map.mp hm
    exact (D.it_ne h1).1 h2
  have hTOz : TO ≠ z := fun y => by
    have := D.nd
    simp only [List.nodup_cons, List.mem_cons, not_or] at this
    exact this.1.2.1 y.symm
  have hTOn : TO ∉ es.map (·.it) := fun hm => by
    obtain ⟨e, h1, h2⟩ := List.mem_map.mp hm
    exact (D.it_ne h1).2.2 h2
  refine forIn_wp (P := fun rest b s => ∃ done todo ys zs ws h', rest = (refsE todo).zipIdx done.length ∧ b = (Option.none, ()) ∧ s = { sh with heap := h' } ∧ ys ++ zs = xs ∧ Mid es done todo k ys zs (· = TO) m1 h' ∧ h'.get? TO = some (tObj (ys ++ ws)) ∧ ws.length = todo.length) ?_ ?_ _ _ _ ?_
  · rintro x rest b s ⟨done, todo, ys, zs, ws, h', e1, rfl, rfl, e4, m, hto, hw⟩
    cases todo with
    | nil => cases e1
    | cons e todo =>
      have e1' : x = (Value.ref e.it, done.length) ∧ rest = (refsE todo).zipIdx (done.length + 1) := by
        have h1 : (refsE (e :: todo)).zipIdx done.length = (Value.ref e.it, done.length) :: (refsE todo).zipIdx (done.length + 1) := by simp [refsE, List.zipIdx_cons]
        rw [h1] at e1
        exact List.cons.inj e1
      obtain ⟨rfl, rfl⟩ := e1'
      obtain ⟨x, r, rfl, hx⟩ := m.item
      cases ws with
      | nil => cases hw
      | cons u ws =>
        have heo := D.it_ne (show e ∈ es by rw [m.eq]; simp)
        refine wpAny_bind (wpAny_onRaise ?_)
        show wpAny _ _ (Builtin.SmallTypes.nextOf (.ref e.it) >>= _) _ _ _
        refine wpAny_bind (e.I.next _ _ _ _ _ _ (m.st e List.mem_cons_self) hx fun h2 hS2 sb => wpAny_pure ?_)
        have m2 := m.next D hx hS2 sb
        have q2 : h2.get? TO = some (tObj (ys ++ u :: ws)) := sb.extBut _ _ heo.2.2.symm hto
        have hl2 : ys.length = done.length := m.yd.len
        have hlen : ys.length + (ws.length + 1) = es.length := by
          rw [hl2, m.eq]
          have : ws.length + 1 = todo.length + 1 := hw
          simp
          omega
        have hset : (ys ++ u :: ws).toArray.setIfInBounds done.length x = (ys ++ [x] ++ ws).toArray := by
          rw [← hl2]
          simp [List.set_append]
        have hto3 : (h2.update TO (Obj.mapSeq fun y => y.setIfInBounds done.length x)).get? TO = some (tObj (ys ++ [x] ++ ws)) := by
          rw [Heap.get?_update_self _ q2 rfl]
          unfold Obj.mapSeq tObj
          dsimp only
          rw [hset]
          simp
        have sb2 : Heap.SameBut TO h2 (h2.update TO (Obj.mapSeq fun y => y.setIfInBounds done.length x)) := Heap.SameBut.update ..
        refine wpAny_bind (wpAny_seqItems q2 rfl (wpAny_bind (wpAny_updateSeq q2 rfl ?_ (by rw [List.size_toArray, List.length_append, List.length_cons]; omega) (by rw [Array.size_setIfInBounds, List.size_toArray, List.length_append, List.length_cons]; omega))))
        refine wpAny_bind (wpAny_letGo (wpAny_pure ⟨done ++ [e], todo, ys ++ [x], r, ws, _, by simp, rfl, rfl, by simpa using e4, ?_, hto3, by simpa using hw⟩))
        have hfp : TO ∈ (z :: TI :: TO :: es.map (·.it)) := by simp
        exact ⟨m2.eq, m2.yd, m2.zd, fun e' h1 => D.keepS (by rw [m2.eq]; exact List.mem_append_left _ h1) hfp (D.it_ne (by rw [m2.eq]; exact List.mem_append_left _ h1)).2.2 (fun c o hc q => sb2.extBut _ _ hc q) (m2.sd e' h1),
          fun e' h1 => D.keepS (by rw [m2.eq]; exact List.mem_append_right _ h1) hfp (D.it_ne (by rw [m2.eq]; exact List.mem_append_right _ h1)).2.2 (fun c o hc q => sb2.extBut _ _ hc q) (m2.st e' h1), sb2.1.trans m2.sz, fun c o hx hc q => sb2.extBut _ _ hx (m2.kp c o hx hc q)⟩
  · rintro b s ⟨done, todo, ys, zs, ws, h', e1, rfl, rfl, e4, m, hto, hw⟩
    have ht : todo = [] := by
      cases todo with
      | nil => rfl
      | cons _ _ =>
        have := congrArg List.length e1
        simp [refsE] at this
    subst ht
    have hzs : zs = [] := by
      have := m.zd.len
      exact List.length_eq_zero_iff.mp (by simpa using this)
    subst hzs
    have hws : ws = [] := List.length_eq_zero_iff.mp (by simpa using hw)
    subst hws
    rw [List.append_nil] at e4 hto
    subst e4
    have hd : es = done := by rw [m.eq, List.append_nil]
    have hsz : h'.objs.size = sh.heap.objs.size := m.sz.trans c1.1
    have hyl : ys.length ≤ sizeLine := by rw [m.yd.len, ← hd]; exact hl
    show wpAny _ _ (seqItems? (.ref TO) >>= _) _ _ _
    refine wpAny_bind (wpAny_seqItems hto rfl ?_)
    show wpAny _ _ (newTuple ys.toArray.toList >>= _) _ _ _
    refine wpAny_bind (wpAny_newTuple ?_ (by rw [List.toList_toArray]; exact hyl))
    have zk : h'.get? z = some (zObj TI TO .ellipsis f1) := m.kp _ _ (fun y => hTOz y.symm) hz1n z1
    have zlt : z < h'.objs.size := Heap.lt_size zk
    have up0 : ∀ c o, h'.get? c = some o → (h'.push { cls := .type "tuple", data := .seq ys.toArray }).get? c = some o := fun c o q => Heap.get?_push_of_some _ q
    show wpAny _ _ (Builtin.SmallTypes.ownedTupleHandOut (.ref z) (.ref h'.objs.size) >>= _) _ _ _
    refine wpAny_bind ?_
    unfold Builtin.SmallTypes.ownedTupleHandOut
    refine wpAny_bind (wpAny_setField_rec (up0 _ _ zk) (by simp) fun m7 z7 c7 => ?_)
    replace z7 : m7.get? z = some (zObj TI TO (rawInt h'.objs.size) f1) := z7
    refine wpAny_setField_rec z7 (by simp) fun m8 z8 c8 => ?_
    replace z8 : m8.get? z = some (zObj TI TO (rawInt h'.objs.size) false) := z8
    have up : ∀ c o, c ≠ z → h'.get? c = some o → m8.get? c = some o := fun c o n q => c8.extBut _ _ n (c7.extBut _ _ n (up0 c o q))
    have t8 : m8.get? h'.objs.size = some (tObj ys) := c8.extBut _ _ (Nat.ne_of_gt zlt) (c7.extBut _ _ (Nat.ne_of_gt zlt) (Heap.get?_push_size _ rfl))
    have s8 : m8.objs.size = h'.objs.size + 1 := by rw [c8.1, c7.1, Heap.size_push]
    refine wpAny_pure ⟨_, rfl, ?_⟩
    show Q (.ref h'.objs.size) _
    rw [hsz] at z8 t8 s8 ⊢
    refine good m8 z8 (up _ _ hTOz hto) (fun e h1 => ?_) t8 s8 fun c o c1' c2 c3 q => up c o c1' (m.kp c o c2 c3 (c1.extBut _ _ c1' q))
    have := m.sd e (hd ▸ h1)
    have h9 := D.it_ne h1
    exact e.I.keep _ _ _ this (fun o q => up _ o h9.1 q) fun o q => up _ o (fun y => D.ls e h1 (by rw [y]; simp)) q
  · refine ⟨[], es, [], xs, us, m1, by simp, rfl, rfl, rfl, ⟨rfl, rfl, hx, fun _ h => (by cases h), fun e h1 => ?_, rfl, fun _ _ _ _ q => q⟩, c1.extBut _ _ hTOz hTO, hul⟩
    exact D.keepS h1 (a := z) (by simp) (D.it_ne h1).1 (fun c o hc q => c1.extBut _ _ hc q) (hS e h1)
theorem zn_free_stop {e : Ent P w} {Q : Fin → Shared → Prop} (hd : A.handled = Option.none) (D : ZAp z TI TO (e :: es)) (hf : FreeF sh.heap f0) (hz : sh.heap.get? z = some (zObj TI TO f0 f1)) (hTI : sh.heap.get? TI = some (tObj (refsE (e :: es)))) 
    (hS : e.S k sh.heap) (hx : e.g k = Option.none)
    (good : ∀ h' x, (∀ c o, c ≠ z → c ∉ (e :: es).map (·.it) → sh.heap.get? c = some o → h'.get? c = some o) → (∃ o, h'.get? x = some o ∧ o.cls = .type "StopIteration") → E (.ref x) { sh with heap := h' }) :
    wpAny (model P w) A (Builtin.«zip.__next__» ⟨[.ref z], []⟩) Q E sh := by
  show wpAny _ _ (field (.ref z) 2 >>= _) _ _ _
  refine wpAny_bind (wpAny_field hz rfl (x := .bool false) rfl ?_)
  show wpAny _ _ (field (.ref z) 3 >>= _) _ _ _
  refine wpAny_bind (wpAny_field hz rfl (x := .ref TI) rfl ?_)
  refine wpAny_bind (wpAny_seqItems hTI rfl ?_)
  have he : (refsE (e :: es)).toArray.isEmpty = false := rfl
  simp only [he, Bool.false_eq_true, if_false]
  show wpAny _ _ (Builtin.SmallTypes.ownedTupleIsFree (.ref z) >>= _) _ _ _
  refine wpAny_bind (zn_isFree hz hf ?_)
  simp only [if_true]
  refine wpAny_bind (wpAny_rule (wpAny_bind (wpAny_field hz rfl (x := .ref TO) rfl (wpAny_bind (wpAny_setField_rec hz (by simp) fun m1 z1 c1 => ?_)))))
  replace z1 : m1.get? z = some (zObj TI TO .ellipsis f1) := z1
  refine wpAny_bind ?_
  show wpAny _ _ (forIn ((Value.ref e.it, 0) :: (refsE es).zipIdx 1) _ _) _ _ _
  rw [List.forIn_cons]
  have heo := D.it_ne (show e ∈ e :: es by simp)
  have hS1 : e.S k m1 := D.keepS List.mem_cons_self (a := z) (by simp) heo.1 (fun c o hc q => c1.extBut _ _ hc q) hS
  refine wpAny_bind (wpAny_bind (wpAny_onRaise ?_))
  show wpAny _ _ (Builtin.SmallTypes.nextOf (.ref e.it) >>= _) _ _ _
  refine wpAny_bind (e.I.stop _ _ _ _ _ hd hS1 hx fun h2 x sb hc => ?_)
  have z2 : h2.get? z = some (zObj TI TO .ellipsis f1) := sb _ _ heo.1.symm z1
  obtain ⟨oe, goe, cle⟩ := hc
  have other : x ≠ z := fun q => by subst q; rw [z2] at goe; cases goe; simp at cle
  refine wpAny_setField_rec z2 (by simp) fun m3 _ c3 => good m3 x (fun c o n1 n2 q => c3.extBut _ _ n1 (sb _ _ (fun y => n2 (by rw [y]; simp)) (c1.extBut _ _ n1 q))) ⟨oe, c3.extBut _ _ other goe, cle⟩
end
end PK

namespace PK
open PySem PySem.Spec PyProof.Rows L2 RZ
section
variable {P : Program} {w : World} {A : Around} {E : Value → Shared → Prop} {sh : Shared} {z TI TO : Nat} {es : List (Ent P w)} {k : Nat}
structure ZSt (z TI TO : Nat) (es : List (Ent P w)) (k : Nat) (h : Heap) : Prop where
  zz : ∃ f0 f1, h.get? z = some (zObj TI TO f0 f1) ∧ (f0 = .none ∨ ∃ T : Nat, f0 = rawInt T)
  ti : h.get? TI = some (tObj (refsE es))
  to : ∃ us, us.length = es.length ∧ h.get? TO = some (tObj us)
  ss : ∀ e ∈ es, e.S k h
theorem zn_item {xs : List Value} {Q : Option Value → Shared → Prop} (D : ZAp z TI TO es) (hne : es ≠ []) (hl : es.length ≤ sizeLine) (st : ZSt z TI TO es k sh.heap) (hx : ItemsOf es k xs)
    (good : ∀ h', ZSt z TI TO es (k + 1) h' → h'.get? sh.heap.objs.size = some (tObj xs) → h'.objs.size = sh.heap.objs.size + 1 → (∀ c o, c ≠ z → c ≠ TO → c ∉ es.map (·.it) → sh.heap.get? c = some o → h'.get? c = some o) → Q (some (.ref sh.heap.objs.size)) { sh with heap := h' }) :
    wpAny (model P w) A (pyNext (.ref z)) Q E sh := by
  obtain ⟨⟨f0, f1, hz, hf⟩, hTI, ⟨us, hul, hTO⟩, hS⟩ := st
  have ty : sh.TypeIs (.ref z) "zip" := ⟨_, hz, rfl⟩
  have hxl : xs.length = es.length := hx.len
  have hz1n : z ∉ es.map (·.it) := fun hm => by
    obtain ⟨e, h1, h2⟩ := List.mem_map.mp hm
    exact (D.it_ne h1).1 h2
  have nd := D.nd
  simp only [List.nodup_cons, List.mem_cons, not_or] at nd
  obtain ⟨⟨n1, n2, n3⟩, ⟨n4, n5⟩, n6, n7⟩ := nd
  unfold pyNext
  by_cases hd : FreeF sh.heap f0
  · exact wpAny_bind (wpAny_attempt (wpAny_callSpecial?_slot (name := Str.ofString "__next__") ty F.slot_zip_next (wpAny_call_entry F.slot_zip_next ty F.entry_zip_next (zn_free D hne hl hd hz hTI hTO hul hS hx fun h' r1 r2 r3 r4 r5 r6 =>
      wpAny_pure (good h' ⟨⟨_, _, r1, .inr ⟨_, rfl⟩⟩, r6 _ _ (Ne.symm n1) n4 n5 hTI, ⟨xs, hxl, r2⟩, r3⟩ r4 r5 r6)) (F.args_zip_next_1 _))))
  · obtain ⟨T, rfl⟩ : ∃ T : Nat, f0 = rawInt T := by
      rcases hf with rfl | h
      · exact absurd (.inl rfl) hd
      · exact h
    cases e : sh.heap.get? T with
    | none => exact absurd (.inr ⟨T, rfl, e⟩) hd
    | some oT =>
      exact wpAny_bind (wpAny_attempt (wpAny_callSpecial?_slot (name := Str.ofString "__next__") ty F.slot_zip_next (wpAny_call_entry F.slot_zip_next ty F.entry_zip_next (zn_held D hne hl hz e hTI hS hx fun h' r1 r2 r3 r4 r5 =>
        wpAny_pure (good h' ⟨⟨_, _, r1, .inr ⟨_, rfl⟩⟩, r5 _ _ (Ne.symm n1) n5 hTI, ⟨us, hul, r5 _ _ (Ne.symm n2) n6 hTO⟩, r2⟩ r3 r4 fun c o c1 c2 c3 => r5 c o c1 c3)) (F.args_zip_next_1 _))))
theorem zn_end {e : Ent P w} {Q : Option Value → Shared → Prop} (hd : A.handled = Option.none) (D : ZAp z TI TO (e :: es)) (st : ZSt z TI TO (e :: es) k sh.heap) (hx : e.g k = Option.none)
    (good : ∀ h', (∀ c o, c ≠ z → c ∉ (e :: es).map (·.it) → sh.heap.get? c = some o → h'.get? c = some o) → Q Option.none { sh with heap := h' }) : wpAny (model P w) A (pyNext (.ref z)) Q E sh := by
  obtain ⟨⟨f0, f1, hz, hf⟩, hTI, ⟨us, hul, hTO⟩, hS⟩ := st
  have ty : sh.TypeIs (.ref z) "zip" := ⟨_, hz, rfl⟩
  have fin : ∀ (h' : Heap) (x : Nat), (∀ c o, c ≠ z → c ∉ (e :: es).map (·.it) → sh.heap.get? c = some o → h'.get? c = some o) → (∃ o, h'.get? x = some o ∧ o.cls = .type "StopIteration") →
      wpAny (model P w) A (isInstance (.ref x) (.type "StopIteration") >>= fun b => if b = true then pure Option.none else throw (.ref x)) Q E { sh with heap := h' } := fun h' x kept stops => by
    obtain ⟨oe, goe, cle⟩ := stops
    exact wpAny_bind (wpAny_isInstance (T := "StopIteration") (b := true) ⟨oe, goe, cle⟩ isSubtype_stop (wpAny_pure (good _ kept)))
  unfold pyNext
  by_cases hfr : FreeF sh.heap f0
  · refine wpAny_bind (wpAny_attempt (wpAny_callSpecial?_slot (name := Str.ofString "__next__") ty F.slot_zip_next (wpAny_call_entry F.slot_zip_next ty F.entry_zip_next (zn_free_stop hd D hfr hz hTI (hS e List.mem_cons_self) hx fun h' x kept stops => ?_) (F.args_zip_next_1 _))))
    obtain ⟨oe, goe, cle⟩ := stops
    exact wpAny_bind (wpAny_isInstance (T := "StopIteration") (b := true) ⟨oe, goe, cle⟩ isSubtype_stop (wpAny_pure (good _ kept)))
  · obtain ⟨T, rfl⟩ : ∃ T : Nat, f0 = rawInt T := by
      rcases hf with rfl | h
      · exact absurd (.inl rfl) hfr
      · exact h
    cases e' : sh.heap.get? T with
    | none => exact absurd (.inr ⟨T, rfl, e'⟩) hfr
    | some oT =>
      refine wpAny_bind (wpAny_attempt (wpAny_callSpecial?_slot (name := Str.ofString "__next__") ty F.slot_zip_next (wpAny_call_entry F.slot_zip_next ty F.entry_zip_next (zn_held_stop hd D hz e' hTI (hS e List.mem_cons_self) hx fun h' x kept stops => ?_) (F.args_zip_next_1 _))))
      obtain ⟨oe, goe, cle⟩ := stops
      exact wpAny_bind (wpAny_isInstance (T := "StopIteration") (b := true) ⟨oe, goe, cle⟩ isSubtype_stop (wpAny_pure (good _ kept)))
end
/-! ### the things that are zipped: lists and tuples -/
structure Src where
  l : Nat
  tp : Bool
  its : Array Value
def SrcOk (s : Src) (h : Heap) : Prop := if s.tp = true then h.IsTuple s.l s.its else h.IsList s.l s.its
def itObj (s : Src) : Obj := { cls := .type (if s.tp = true then "tuple_iterator" else "list_iterator"), data := .fields #[.ref s.l, .int 0 0] }
def srcS (s : Src) (it : Nat) (k : Nat) (h : Heap) : Prop := s.l ≠ it ∧ SrcOk s h ∧ (if s.tp = true then h.IsTupleIter it s.l k else h.IsListIter it s.l k)
theorem src_itr {P : Program} {w : World} (s : Src) (it : Nat) : Itr P w it s.l (srcS s it) (fun k => s.its[k]?) := by
  obtain ⟨l, tp, its⟩ := s
  cases tp with
  | true =>
    exact ⟨fun k h a => (itr_tup (P := P) (w := w) (its := its) a.1).obj k h ⟨a.2.2, a.2.1⟩, fun k h h' a k1 k2 => by
        have := (itr_tup (P := P) (w := w) (its := its) a.1).keep k h h' ⟨a.2.2, a.2.1⟩ k1 k2
        exact ⟨a.1, this.2, this.1⟩,
      fun A E sh k x Q a e good => (itr_tup (P := P) (w := w) (its := its) a.1).next A E sh k x Q ⟨a.2.2, a.2.1⟩ e fun h' b sb => good h' ⟨a.1, b.2, b.1⟩ sb,
      fun A E sh k Q hd a e good => (itr_tup (P := P) (w := w) (its := its) a.1).stop A E sh k Q hd ⟨a.2.2, a.2.1⟩ e good⟩
  | false =>
    exact ⟨fun k h a => (itr_list (P := P) (w := w) (its := its) a.1).obj k h ⟨a.2.2, a.2.1⟩, fun k h h' a k1 k2 => by
        have := (itr_list (P := P) (w := w) (its := its) a.1).keep k h h' ⟨a.2.2, a.2.1⟩ k1 k2
        exact ⟨a.1, this.2, this.1⟩,
      fun A E sh k x Q a e good => (itr_list (P := P) (w := w) (its := its) a.1).next A E sh k x Q ⟨a.2.2, a.2.1⟩ e fun h' b sb => good h' ⟨a.1, b.2, b.1⟩ sb,
      fun A E sh k Q hd a e good => (itr_list (P := P) (w := w) (its := its) a.1).stop A E sh k Q hd ⟨a.2.2, a.2.1⟩ e good⟩
def entOf (P : Program) (w : World) (s : Src) (it : Nat) : Ent P w := ⟨it, s.l, srcS s it, fun k => s.its[k]?, src_itr s it⟩
def entsOf (P : Program) (w : World) : List Src → Nat → List (Ent P w)
  | [], _ => []
  | s :: r, a => entOf P w s a :: entsOf P w r (a + 1)
theorem entsOf_len {P : Program} {w : World} : ∀ (ss : List Src) (a : Nat), (entsOf P w ss a).length = ss.length
  | [], _ => rfl
  | _ :: r, a => by rw [entsOf, List.length_cons, List.length_cons, entsOf_len r]
theorem entsOf_it {P : Program} {w : World} : ∀ (ss : List Src) (a : Nat) (c : Nat), c ∈ (entsOf P w ss a).map (·.it) ↔ a ≤ c ∧ c < a + ss.length
  | [], a, c => by simp [entsOf]
  | s :: r, a, c => by
    rw [entsOf, List.map_cons, List.mem_cons, entsOf_it r (a + 1) c, List.length_cons]
    show c = a ∨ _ ↔ _
    constructor
    · rintro (h | h)
      · rw [h]; exact ⟨Nat.le_refl _, by omega⟩
      · omega
    · intro h
      rcases Nat.lt_or_ge a c with h2 | h2
      · right; omega
      · left; exact Nat.le_antisymm h2 h.1
theorem entsOf_nd {P : Program} {w : World} : ∀ (ss : List Src) (a : Nat), ((entsOf P w ss a).map (·.it)).Nodup
  | [], _ => List.nodup_nil
  | s :: r, a => by
    rw [entsOf, List.map_cons, List.nodup_cons]
    refine ⟨fun h => ?_, entsOf_nd r (a + 1)⟩
    have := (entsOf_it r (a + 1) a).mp h
    omega
theorem entsOf_l {P : Program} {w : World} {B : Nat} : ∀ (ss : List Src) (a : Nat), (∀ s ∈ ss, s.l < B) → ∀ e ∈ entsOf P w ss a, e.l < B
  | [], _, _, e, he => by cases he
  | s :: r, a, h, e, he => by
    rcases List.mem_cons.mp he with q | q
    · rw [q]; exact h s List.mem_cons_self
    · exact entsOf_l r (a + 1) (fun x hx => h x (List.mem_cons_of_mem _ hx)) e q
theorem entsOf_zap {P : Program} {w : World} {ss : List Src} {a : Nat} (h : ∀ s ∈ ss, s.l < a) : ZAp (a + ss.length + 2) (a + ss.length) (a + ss.length + 1) (entsOf P w ss a) where
  nd := by
    have n0 := entsOf_nd (P := P) (w := w) ss a
    simp only [List.nodup_cons, List.mem_cons, not_or, entsOf_it]
    exact ⟨⟨by omega, by omega, by omega⟩, ⟨by omega, by omega⟩, by omega, n0⟩
  ls := fun e he => by
    have := entsOf_l ss a h e he
    simp only [List.mem_cons, not_or, entsOf_it]
    omega
theorem SrcOk.lt {s : Src} {h : Heap} (a : SrcOk s h) : s.l < h.objs.size := by
  unfold SrcOk at a
  split at a
  · obtain ⟨o, e, _⟩ := a
    exact Heap.lt_size e
  · obtain ⟨o, e, _⟩ := a
    exact Heap.lt_size e
theorem SrcOk.keep {s : Src} {h h' : Heap} (a : SrcOk s h) (k : ∀ c o, h.get? c = some o → h'.get? c = some o) : SrcOk s h' := by
  unfold SrcOk at a ⊢
  split at a
  · rename_i q
    rw [if_pos q]
    obtain ⟨o, e, m⟩ := a
    exact ⟨o, k _ _ e, m⟩
  · rename_i q
    rw [if_neg q]
    obtain ⟨o, e, m⟩ := a
    exact ⟨o, k _ _ e, m⟩
/-- the heap behind the making of the iterators -/
def pushI : Heap → List Src → Heap
  | h, [] => h
  | h, s :: r => pushI (h.push (itObj s)) r
theorem pushI_keep : ∀ (ss : List Src) (h : Heap) c o, h.get? c = some o → (pushI h ss).get? c = some o
  | [], h, c, o, e => e
  | s :: r, h, c, o, e => pushI_keep r _ c o (Heap.get?_push_of_some _ e)
theorem pushI_size : ∀ (ss : List Src) (h : Heap), (pushI h ss).objs.size = h.objs.size + ss.length
  | [], h => rfl
  | s :: r, h => by
    rw [pushI, pushI_size r, Heap.size_push, List.length_cons]
    omega
theorem itObj_get {s : Src} {h : Heap} : (h.push (itObj s)).get? h.objs.size = some (itObj s) := by
  obtain ⟨l, tp, its⟩ := s
  cases tp <;> exact Heap.get?_push_size _ rfl
theorem pushI_st {P : Program} {w : World} : ∀ (ss : List Src) (h : Heap), (∀ s ∈ ss, SrcOk s h) → ∀ e ∈ entsOf P w ss h.objs.size, e.S 0 (pushI h ss)
  | [], h, _, e, he => by cases he
  | s :: r, h, hs, e, he => by
    have hk : ∀ c o, h.get? c = some o → (h.push (itObj s)).get? c = some o := fun c o q => Heap.get?_push_of_some _ q
    rcases List.mem_cons.mp he with q | q
    · subst q
      have h1 := hs s List.mem_cons_self
      have e1 : (pushI h (s :: r)).get? h.objs.size = some (itObj s) := pushI_keep r _ _ _ itObj_get
      refine ⟨Nat.ne_of_lt h1.lt, h1.keep fun c o z => pushI_keep r _ c o (hk c o z), ?_⟩
      show if s.tp = true then _ else _
      obtain ⟨l, tp, its⟩ := s
      cases tp
      · exact ⟨_, e1, rfl, rfl⟩
      · exact ⟨_, e1, rfl, rfl⟩
    · have z : (h.push (itObj s)).objs.size = h.objs.size + 1 := Heap.size_push ..
      rw [← z] at q
      exact pushI_st r (h.push (itObj s)) (fun x hx => (hs x (List.mem_cons_of_mem _ hx)).keep hk) e q
theorem refs_ents {P : Program} {w : World} : ∀ (ss : List Src) (a : Nat), refsE (entsOf P w ss a) = (List.range ss.length).map fun i => Value.ref (a + i)
  | [], _ => rfl
  | s :: r, a => by
    show Value.ref a :: refsE (entsOf P w r (a + 1)) = _
    rw [refs_ents r (a + 1), List.length_cons, List.range_succ_eq_map, List.map_cons, List.map_map]
    congr 1
    refine List.map_congr_left fun i _ => ?_
    show Value.ref (a + 1 + i) = Value.ref (a + (i + 1))
    rw [Nat.add_assoc, Nat.add_comm 1 i]
/-- zip(*srcs) is made -/
def NewZ (P : Program) (w : World) (ss : List Src) (h h' : Heap) : Prop := ZSt (h.objs.size + ss.length + 2) (h.objs.size + ss.length) (h.objs.size + ss.length + 1) (entsOf P w ss h.objs.size) 0 h' ∧ ∀ c o, h.get? c = some o → h'.get? c = some o
theorem meetsN (P : Program) (w : World) (ss : List Src) : Meets (Builtin.«zip.__new__» ⟨.type "zip" :: ss.map fun s => .ref s.l, []⟩) (fun _ R sh => (∀ s ∈ ss, SrcOk s sh.heap) ∧ ss.length ≤ sizeLine ∧ ∀ h', NewZ P w ss sh.heap h' → R (.ok (.ret (.ref (sh.heap.objs.size + ss.length + 2)))) { sh with heap := h' }) :=
  .of_wp fun prog w' A R sh h => by
    obtain ⟨hs, hl, hR⟩ := h
    have sub := sub_zip
    have main : wpAny (model prog w') A.in1 (forIn (ss.map fun s => Value.ref s.l) (#[] : Array Value) fun x its => do let d ← holding its.toList (pyIter x); pure (ForInStep.yield (its.push d)))
        (fun its s' => its.toList = refsE (entsOf P w ss sh.heap.objs.size) ∧ s' = { sh with heap := pushI sh.heap ss }) (fun e s' => R (Except.error e) s') sh := by
      refine forIn_wp (P := fun rest its s' => ∃ done todo h', ss = done ++ todo ∧ rest = (todo.map fun s => Value.ref s.l) ∧ its.toList = (List.range done.length).map (fun i => Value.ref (sh.heap.objs.size + i)) ∧ s' = { sh with heap := h' } ∧ pushI h' todo = pushI sh.heap ss ∧ (∀ c o, sh.heap.get? c = some o → h'.get? c = some o) ∧ h'.objs.size = sh.heap.objs.size + done.length) ?_ ?_ _ _ _ ?_
      · rintro x rest its s' ⟨done, todo, h', e1, e2, e3, rfl, e5, e6, e7⟩
        cases todo with
        | nil => cases e2
        | cons s todo =>
          obtain ⟨rfl, rfl⟩ := List.cons.inj e2
          have hso : SrcOk s h' := (hs s (by rw [e1]; simp)).keep e6
          have goal : ∀ (h2 : Heap), h2 = h'.push (itObj s) → ∃ done' todo' h3, ss = done' ++ todo' ∧ (todo.map fun s => Value.ref s.l) = (todo'.map fun s => Value.ref s.l) ∧ (its.push (.ref h'.objs.size)).toList = (List.range done'.length).map (fun i => Value.ref (sh.heap.objs.size + i)) ∧ ({ sh with heap := h2 } : Shared) = { sh with heap := h3 } ∧ pushI h3 todo' = pushI sh.heap ss ∧ (∀ c o, sh.heap.get? c = some o → h3.get? c = some o) ∧ h3.objs.size = sh.heap.objs.size + done'.length := by
            rintro h2 rfl
            refine ⟨done ++ [s], todo, _, by rw [e1]; simp, rfl, ?_, rfl, e5, fun c o q => Heap.get?_push_of_some _ (e6 c o q), by rw [Heap.size_push, e7, List.length_append]; rfl⟩
            rw [Array.toList_push, e3, e7, List.length_append, List.length_singleton, List.range_succ, List.map_append]
            rfl
          obtain ⟨l, tp, itsv⟩ := s
          cases tp with
          | true => exact wpAny_bind (wpAny_holding (wpAny_pyIter_tuple (show Heap.IsTuple h' l itsv from hso) (wpAny_pure (goal _ rfl))))
          | false => exact wpAny_bind (wpAny_holding (wpAny_pyIter_list (show Heap.IsList h' l itsv from hso) (wpAny_pure (goal _ rfl))))
      · rintro its s' ⟨done, todo, h', e1, e2, e3, rfl, e5, e6, e7⟩
        have ht : todo = [] := by
          cases todo with
          | nil => rfl
          | cons _ _ => cases e2
        subst ht
        rw [List.append_nil] at e1
        refine ⟨by rw [e3, refs_ents, e1], ?_⟩
        rw [← e5]
        rfl
      · exact ⟨[], ss, sh.heap, rfl, rfl, rfl, rfl, rfl, fun _ _ q => q, rfl⟩
    obtain ⟨m, g, d, tk, os⟩ := sh
    wp_walk
    show wpAny _ _ (forIn (ss.map fun s => Value.ref s.l) (#[] : Array Value) fun x its => do let d ← holding its.toList (pyIter x); pure (ForInStep.yield (its.push d))) _ _ _
    refine wpAny_mono main (fun its s' hh => ?_) fun _ _ q => q
    obtain ⟨e1, rfl⟩ := hh
    refine wpAny_pure ?_
    rw [e1]
    have hln : (refsE (entsOf P w ss m.objs.size)).length = ss.length := by rw [refs_ents]; simp
    refine wpAny_bind (wpAny_newTuple ?_ (by rw [hln]; exact hl))
    refine wpAny_bind (wpAny_newTuple ?_ (by rw [List.length_map, hln]; exact hl))
    have sz1 : (pushI m ss).objs.size = m.objs.size + ss.length := pushI_size ss m
    unfold Builtin.SmallTypes.newRecord
    wp_walk
    refine ⟨_, rfl, ?_⟩
    have sz3 : ((pushI m ss).push (tObj (refsE (entsOf P w ss m.objs.size)))).objs.size = m.objs.size + ss.length + 1 := by rw [Heap.size_push, sz1]
    have sz4 : (((pushI m ss).push (tObj (refsE (entsOf P w ss m.objs.size)))).push (tObj ((refsE (entsOf P w ss m.objs.size)).map fun _ => Value.none))).objs.size = m.objs.size + ss.length + 2 := by rw [Heap.size_push, sz3]
    have fin := hR ((((pushI m ss).push (tObj (refsE (entsOf P w ss m.objs.size)))).push (tObj ((refsE (entsOf P w ss m.objs.size)).map fun _ => Value.none))).push (zObj (pushI m ss).objs.size ((pushI m ss).push (tObj (refsE (entsOf P w ss m.objs.size)))).objs.size .none false)) ?_
    · have z : R (.ok (.ret (.ref (((pushI m ss).push (tObj (refsE (entsOf P w ss m.objs.size)))).push (tObj ((refsE (entsOf P w ss m.objs.size)).map fun _ => Value.none))).objs.size))) ⟨(((pushI m ss).push (tObj (refsE (entsOf P w ss m.objs.size)))).push (tObj ((refsE (entsOf P w ss m.objs.size)).map fun _ => Value.none))).push (zObj (pushI m ss).objs.size ((pushI m ss).push (tObj (refsE (entsOf P w ss m.objs.size)))).objs.size .none false), g, d, tk, os⟩ := by
        rw [sz4]
        exact fin
      exact z
    · have up5 : ∀ c o, (((pushI m ss).push (tObj (refsE (entsOf P w ss m.objs.size)))).push (tObj ((refsE (entsOf P w ss m.objs.size)).map fun _ => Value.none))).get? c = some o → ((((pushI m ss).push (tObj (refsE (entsOf P w ss m.objs.size)))).push (tObj ((refsE (entsOf P w ss m.objs.size)).map fun _ => Value.none))).push (zObj (pushI m ss).objs.size ((pushI m ss).push (tObj (refsE (entsOf P w ss m.objs.size)))).objs.size .none false)).get? c = some o := fun c o q => Heap.get?_push_of_some _ q
      have up4 : ∀ c o, ((pushI m ss).push (tObj (refsE (entsOf P w ss m.objs.size)))).get? c = some o → _ := fun c o q => up5 c o (Heap.get?_push_of_some _ q)
      have up3 : ∀ c o, (pushI m ss).get? c = some o → _ := fun c o q => up4 c o (Heap.get?_push_of_some _ q)
      have g5 := Heap.get?_push_size (((pushI m ss).push (tObj (refsE (entsOf P w ss m.objs.size)))).push (tObj ((refsE (entsOf P w ss m.objs.size)).map fun _ => Value.none))) (o := zObj (pushI m ss).objs.size ((pushI m ss).push (tObj (refsE (entsOf P w ss m.objs.size)))).objs.size .none false) rfl
      have g4 := up5 _ _ (Heap.get?_push_size ((pushI m ss).push (tObj (refsE (entsOf P w ss m.objs.size)))) (o := tObj ((refsE (entsOf P w ss m.objs.size)).map fun _ => Value.none)) rfl)
      have g3 := up4 _ _ (Heap.get?_push_size (pushI m ss) (o := tObj (refsE (entsOf P w ss m.objs.size))) rfl)
      have hst := pushI_st (P := P) (w := w) ss m hs
      refine ⟨⟨⟨.none, false, ?_, .inl rfl⟩, ?_, ⟨(refsE (entsOf P w ss m.objs.size)).map fun _ => Value.none, by rw [List.length_map, hln, entsOf_len], ?_⟩, fun e he => e.I.keep _ _ _ (hst e he) (fun o q => up3 _ o q) fun o q => up3 _ o q⟩, fun c o q => up3 c o (pushI_keep ss m c o q)⟩
      · rw [sz4, sz3, sz1] at g5
        rw [sz1, sz3]
        exact g5
      · show Heap.get? _ (m.objs.size + ss.length) = _
        rw [← sz1]
        exact g3
      · show Heap.get? _ (m.objs.size + ss.length + 1) = _
        rw [← sz3]
        exact g4
section
variable {P : Program} {w : World} {A : Around} {E : Value → Shared → Prop} {sh : Shared}
theorem callN {ss : List Src} {Q : Value → Shared → Prop} (hs : ∀ s ∈ ss, SrcOk s sh.heap) (hl : ss.length ≤ sizeLine)
    (good : ∀ h', NewZ P w ss sh.heap h' → Q (.ref (sh.heap.objs.size + ss.length + 2)) { sh with heap := h' }) : wpAny (model P w) A (call (.type "zip") (ss.map fun s => .ref s.l)) Q E sh := by
  refine callType_new F.called_zip (by decide) (zn_type _) (zn_call _) (fun ob => zn_init ob _) F.entry_zip_new (meetsN P w ss) ⟨hs, hl, fun h' n => ?_⟩
  obtain ⟨f0, f1, hz, _⟩ := n.1.zz
  exact ⟨⟨_, hz, rfl⟩, good h' n⟩
end
end PK

namespace PK
open PySem PySem.Spec PyProof.Rows L2 RZ
/-! ### zip of any number of things: its turns -/
def itsN : Nat → Nat → List Nat
  | 0, _ => []
  | n + 1, a => a :: itsN n (a + 1)
theorem entsOf_its {P : Program} {w : World} : ∀ (ss : List Src) (a : Nat), (entsOf P w ss a).map (·.it) = itsN ss.length a
  | [], _ => rfl
  | s :: r, a => by
    rw [entsOf, List.map_cons, entsOf_its r]
    rfl
def posOk : List (Nat × Bool) → Nat → Nat → Heap → Prop
  | [], _, _, _ => True
  | k :: r, a, i, h => (k.1 ≠ a ∧ (if k.2 = true then h.IsTupleIter a k.1 i else h.IsListIter a k.1 i)) ∧ posOk r (a + 1) i h
theorem posOk_to {P : Program} {w : World} : ∀ (ss : List Src) (a i : Nat) (h : Heap), (∀ s ∈ ss, SrcOk s h) → posOk (ss.map fun s => (s.l, s.tp)) a i h → ∀ e ∈ entsOf P w ss a, e.S i h
  | [], _, _, _, _, _, e, he => by cases he
  | s :: r, a, i, h, hs, hp, e, he => by
    rcases List.mem_cons.mp he with q | q
    · subst q
      exact ⟨hp.1.1, hs s List.mem_cons_self, hp.1.2⟩
    · exact posOk_to r (a + 1) i h (fun x hx => hs x (List.mem_cons_of_mem _ hx)) hp.2 e q
theorem posOk_of {P : Program} {w : World} : ∀ (ss : List Src) (a i : Nat) (h : Heap), (∀ e ∈ entsOf P w ss a, e.S i h) → posOk (ss.map fun s => (s.l, s.tp)) a i h
  | [], _, _, _, _ => trivial
  | s :: r, a, i, h, hs => by
    have h1 : srcS s a i h := hs _ List.mem_cons_self
    exact ⟨⟨h1.1, h1.2.2⟩, posOk_of r (a + 1) i h fun e he => hs e (List.mem_cons_of_mem _ he)⟩
theorem posOk_obj : ∀ (ks : List (Nat × Bool)) (a i : Nat) (h : Heap), posOk ks a i h → ∀ c ∈ itsN ks.length a, ∃ o, h.get? c = some o ∧ ∀ v, o.data ≠ .cell v
  | [], _, _, _, _, c, hc => by cases hc
  | k :: r, a, i, h, hp, c, hc => by
    rcases List.mem_cons.mp hc with q | q
    · subst q
      have h2 := hp.1.2
      split at h2
      · obtain ⟨o, e, _, d⟩ := h2
        exact ⟨o, e, fun v z => by rw [d] at z; cases z⟩
      · obtain ⟨o, e, _, d⟩ := h2
        exact ⟨o, e, fun v z => by rw [d] at z; cases z⟩
    · exact posOk_obj r (a + 1) i h hp.2 c q
theorem posOk_keep : ∀ (ks : List (Nat × Bool)) (a i : Nat) (h h' : Heap), posOk ks a i h → (∀ c ∈ itsN ks.length a, ∀ o, h.get? c = some o → h'.get? c = some o) → posOk ks a i h'
  | [], _, _, _, _, _, _ => trivial
  | k :: r, a, i, h, h', hp, kk => by
    refine ⟨⟨hp.1.1, ?_⟩, posOk_keep r (a + 1) i h h' hp.2 fun c hc => kk c (List.mem_cons_of_mem _ hc)⟩
    have h2 := hp.1.2
    split at h2
    · rename_i q
      rw [if_pos q]
      obtain ⟨o, e, m⟩ := h2
      exact ⟨o, kk a List.mem_cons_self o e, m⟩
    · rename_i q
      rw [if_neg q]
      obtain ⟨o, e, m⟩ := h2
      exact ⟨o, kk a List.mem_cons_self o e, m⟩
/-- what stands in the things -/
def SrcV (K : PySem.W.Frag) (H : Hp) : List (Nat × Bool) → List (List V) → Prop
  | [], vss => vss = []
  | k :: r, vss => ∃ vs q, vss = vs :: q ∧ (if k.2 = true then SqT K H k.1 vs else SqL K H k.1 vs) ∧ SrcV K H r q
def RelS : List (List V) → List Src → Prop
  | [], ss => ss = []
  | vs :: r, ss => ∃ s q, ss = s :: q ∧ Vals vs s.its.toList ∧ RelS r q
section
variable {X : Cx} {pins : List (Nat × Obj)} {σ : L2.St} {H : Hp} {s : Shared}
theorem srcV_src (I : Inv X pins σ H s) : ∀ (ks : List (Nat × Bool)) (vss : List (List V)), SrcV X.K H ks vss → ∃ ss : List Src, (ss.map fun s => (s.l, s.tp)) = ks ∧ (∀ q ∈ ss, SrcOk q s.heap) ∧ RelS vss ss
  | [], vss, h => by
    have h' : vss = [] := h
    subst h'
    exact ⟨[], rfl, fun _ h => (by cases h), rfl⟩
  | k :: r, vss, h => by
    obtain ⟨vs, q, rfl, h1, h2⟩ := h
    obtain ⟨ss, e1, e2, e3⟩ := srcV_src I r q h2
    obtain ⟨l, tp⟩ := k
    cases tp with
    | true =>
      obtain ⟨its, rv, p, _⟩ := I.tuple (show SqT X.K H l vs from h1)
      exact ⟨⟨l, true, its.toArray⟩ :: ss, by rw [List.map_cons, e1], fun x hx => by
        rcases List.mem_cons.mp hx with z | z
        · rw [z]; exact p
        · exact e2 x z, _, _, rfl, by simpa using rv, e3⟩
    | false =>
      obtain ⟨its, rv, p, _⟩ := I.list (show SqL X.K H l vs from h1)
      exact ⟨⟨l, false, its.toArray⟩ :: ss, by rw [List.map_cons, e1], fun x hx => by
        rcases List.mem_cons.mp hx with z | z
        · rw [z]; exact p.isList
        · exact e2 x z, _, _, rfl, by simpa using rv, e3⟩
theorem srcV_inj (I : Inv X pins σ H s) : ∀ (ks : List (Nat × Bool)) (vss wss : List (List V)), SrcV X.K H ks vss → SrcV X.K H ks wss → vss = wss
  | [], vss, wss, h, g => by
    have h' : vss = [] := h
    have g' : wss = [] := g
    rw [h', g']
  | k :: r, vss, wss, h, g => by
    obtain ⟨vs, q, rfl, h1, h2⟩ := h
    obtain ⟨ws, q', rfl, g1, g2⟩ := g
    rw [srcV_inj I r q q' h2 g2]
    obtain ⟨l, tp⟩ := k
    cases tp with
    | true => rw [I.tuple_inj (show SqT X.K H l vs from h1) (show SqT X.K H l ws from g1)]
    | false => rw [I.list_inj (show SqL X.K H l vs from h1) (show SqL X.K H l ws from g1)]
end
theorem relS_items {P : Program} {w : World} {i : Nat} : ∀ (vss : List (List V)) (ss : List Src) (a : Nat), RelS vss ss → (∀ vs ∈ vss, i < vs.length) → ∃ (xs : List V) (us : List Value), vss.map (·[i]?) = xs.map some ∧ ItemsOf (entsOf P w ss a) i us ∧ Vals xs us
  | [], ss, a, h, _ => by
    have h' : ss = [] := h
    subst h'
    exact ⟨[], [], rfl, rfl, .nil⟩
  | vs :: r, ss, a, h, hl => by
    obtain ⟨s, q, rfl, h1, h2⟩ := h
    obtain ⟨xs, us, e1, e2, e3⟩ := relS_items (P := P) (w := w) r q (a + 1) h2 fun x hx => hl x (List.mem_cons_of_mem _ hx)
    have hi := hl vs List.mem_cons_self
    obtain ⟨u, hu, ru⟩ := h1.get (List.getElem?_eq_getElem hi)
    refine ⟨vs[i] :: xs, u :: us, by rw [List.map_cons, e1, List.getElem?_eq_getElem hi]; rfl, ?_, .cons ru e3⟩
    unfold ItemsOf at e2 ⊢
    rw [entsOf, List.map_cons, e2, List.map_cons]
    congr 1
    show s.its[i]? = some u
    rw [← Array.getElem?_toList]
    exact hu
theorem relS_len : ∀ (vss : List (List V)) (ss : List Src), RelS vss ss → vss.length = ss.length
  | [], ss, h => by
    have h' : ss = [] := h
    subst h'
    rfl
  | vs :: r, ss, h => by
    obtain ⟨s, q, rfl, _, h2⟩ := h
    rw [List.length_cons, List.length_cons, relS_len r q h2]
/-- the things that are walked together, given by where they are -/
def ItN (K : PySem.W.Frag) (ks : List (Nat × Bool)) : It :=
  ⟨fun i H => ∃ vss, SrcV K H ks vss ∧ ∀ vs ∈ vss, i < vs.length,
    fun i H v H' => ∃ T xs, v = .ref T ∧ H T = none ∧ H' = upd H T (.tup xs) ∧ ∀ vss, SrcV K H ks vss → vss.map (·[i]?) = xs.map some,
    fun i H => ∃ vss, SrcV K H ks vss ∧ ∀ vs ∈ vss, vs.length ≤ i⟩
def TnN (ks : List (Nat × Bool)) (a : Nat) (i : Nat) (h : Heap) : Prop :=
  (∃ f0 f1, h.get? (a + ks.length + 2) = some (zObj (a + ks.length) (a + ks.length + 1) f0 f1) ∧ (f0 = .none ∨ ∃ T : Nat, f0 = rawInt T)) ∧ h.get? (a + ks.length) = some (tObj ((itsN ks.length a).map Value.ref)) ∧
    (∃ us, us.length = ks.length ∧ h.get? (a + ks.length + 1) = some (tObj us)) ∧ posOk ks a i h
abbrev fpN (n a : Nat) : List Nat := (a + n + 2) :: (a + n) :: (a + n + 1) :: itsN n a
theorem refs_its {P : Program} {w : World} (ss : List Src) (a : Nat) : refsE (entsOf P w ss a) = (itsN ss.length a).map Value.ref := by
  rw [← entsOf_its (P := P) (w := w), List.map_map]
  rfl
theorem TnN.st {P : Program} {w : World} {ss : List Src} {a i : Nat} {h : Heap} (t : TnN (ss.map fun s => (s.l, s.tp)) a i h) (hs : ∀ s ∈ ss, SrcOk s h) : ZSt (a + ss.length + 2) (a + ss.length) (a + ss.length + 1) (entsOf P w ss a) i h := by
  obtain ⟨t1, t2, ⟨us, u1, t3⟩, t4⟩ := t
  rw [List.length_map] at t1 t2 t3 u1
  exact ⟨t1, by rw [refs_its]; exact t2, ⟨us, by rw [entsOf_len]; exact u1, t3⟩, posOk_to ss a i h hs t4⟩
theorem TnN.of {P : Program} {w : World} {ss : List Src} {a i : Nat} {h : Heap} (st : ZSt (a + ss.length + 2) (a + ss.length) (a + ss.length + 1) (entsOf P w ss a) i h) : TnN (ss.map fun s => (s.l, s.tp)) a i h := by
  unfold TnN
  rw [List.length_map]
  obtain ⟨us, u1, u2⟩ := st.to
  exact ⟨st.zz, by rw [← refs_its (P := P) (w := w)]; exact st.ti, ⟨us, by rw [← entsOf_len (P := P) (w := w) ss a]; exact u1, u2⟩, posOk_of ss a i h st.ss⟩
theorem TnN.here {ks : List (Nat × Bool)} {a i : Nat} {h : Heap} (t : TnN ks a i h) : ∀ c ∈ fpN ks.length a, ∃ o, h.get? c = some o ∧ ∀ v, o.data ≠ .cell v := by
  obtain ⟨⟨f0, f1, t1, _⟩, t2, ⟨us, _, t3⟩, t4⟩ := t
  intro c hc
  rcases List.mem_cons.mp hc with q | hc
  · rw [q]; exact ⟨_, t1, fun v e => nomatch e⟩
  · rcases List.mem_cons.mp hc with q | hc
    · rw [q]; exact ⟨_, t2, fun v e => nomatch e⟩
    · rcases List.mem_cons.mp hc with q | hc
      · rw [q]; exact ⟨_, t3, fun v e => nomatch e⟩
      · exact posOk_obj ks a i h t4 c hc
theorem zip_self {P : Program} {w : World} {A : Around} {E : Value → Shared → Prop} {sh : Shared} {z TI TO : Nat} {f0 : Value} {f1 : Bool} {Q : Value → Shared → Prop} (hz : sh.heap.get? z = some (zObj TI TO f0 f1)) (h : Q (.ref z) sh) : wpAny (model P w) A (pyIter (.ref z)) Q E sh := by
  have hT : sh.TypeIs (.ref z) "zip" := ⟨_, hz, rfl⟩
  refine wpAny_pyIter_slot hT F.slot_zip_iter (wpAny_call_entry F.slot_zip_iter hT F.entry_zip_iter ?_ (F.args_zip_iter_1 _))
  show wpAny _ _ (ret (.ref z)) _ _ _
  exact wpAny_pure ⟨_, rfl, "zip", _, hT, F.slot_zip_next.lookup, h⟩
theorem turnN {P : Program} {w : World} {K : PySem.W.Frag} {y : Str} {ypos : Pos} {ks : List (Nat × Bool)} {a : Nat} (hne : ks ≠ []) (hl : ks.length ≤ 100000) (hlt : ∀ k ∈ ks, k.1 < a) : Turn P w K (.Name y ypos) (ItN K ks) (fpN ks.length a) (a + ks.length + 2) (TnN ks a) where
  mem := List.mem_cons_self
  obj := fun i h t => t.here
  keep := fun i h h' t kept => by
    obtain ⟨⟨f0, f1, t1, f⟩, t2, ⟨us, u, t3⟩, t4⟩ := t
    exact ⟨⟨f0, f1, kept _ (by simp) _ t1, f⟩, kept _ (by simp) _ t2, ⟨us, u, kept _ (by simp) _ t3⟩, posOk_keep ks a i h h' t4 fun c hc => kept c (List.mem_cons_of_mem _ (List.mem_cons_of_mem _ (List.mem_cons_of_mem _ hc)))⟩
  item := by
    rintro X rfl rfl rfl calm i pins sh σ hp E inv fps t ⟨vss, hv, hlen⟩
    have here := t.here
    obtain ⟨ss, e1, e2, e3⟩ := srcV_src inv ks vss hv
    subst e1
    rw [List.length_map] at fps here hl ⊢
    have D := entsOf_zap (P := X.prog) (w := X.w) (ss := ss) (a := a) fun s hs => hlt (s.l, s.tp) (List.mem_map.mpr ⟨s, hs, rfl⟩)
    obtain ⟨xs, us, g1, g2, g3⟩ := relS_items (P := X.prog) (w := X.w) (i := i) vss ss a e3 hlen
    have hne2 : entsOf X.prog X.w ss a ≠ [] := fun z => hne (by
      have := entsOf_len (P := X.prog) (w := X.w) ss a
      rw [z] at this
      have h0 : ss = [] := List.length_eq_zero_iff.mp this.symm
      rw [h0]; rfl)
    have hls : ss.length ≤ sizeLine := Nat.le_trans hl (by decide)
    refine zn_item D hne2 (by rw [entsOf_len]; exact hls) (t.st e2) g2 fun h' n1 n2 n3 n4 => ⟨_, rfl, wpAny_pure ?_⟩
    have hxl : xs.length = ss.length := by
      have := congrArg List.length g1
      simp at this
      rw [← this, relS_len vss ss e3]
    have keep : ∀ c o, c ∉ fpN ss.length a → sh.heap.get? c = some o → h'.get? c = some o := fun c o out q => n4 c o (fun z => out (by rw [z]; simp)) (fun z => out (by rw [z]; simp)) (fun z => out (by rw [entsOf_its] at z; simp [z])) q
    have made : ObjOk X.prog X.w (upd hp sh.heap.objs.size (.tup xs)) h' sh.heap.objs.size (.tup xs) := ⟨by rw [hxl]; exact hls, us, g3, ⟨_, n2, rfl, _, rfl⟩⟩
    have inv2 : Inv X pins σ (upd hp sh.heap.objs.size (.tup xs)) { sh with heap := h' } := inv.turnedNew (t' := sh.toks) (ch := fpN ss.length a) keep fps (Nat.le_refl _) made
    refine ⟨.ref sh.heap.objs.size, _, inv2, rfl, ⟨_, xs, rfl, inv.hok.fresh (Nat.le_refl _), rfl, fun wss hw => by rw [srcV_inj inv _ _ _ hw hv]; exact g1⟩, TnN.of n1, fun c hc => ?_⟩
    obtain ⟨o, e, _⟩ := here c hc
    rw [upd_ne (Nat.ne_of_lt (Heap.lt_size e))]
    exact (fps c hc).1
  done := by
    rintro X rfl rfl rfl calm i pins sh σ hp E inv fps t ⟨vss, hv, hlen⟩
    obtain ⟨ss, e1, e2, e3⟩ := srcV_src inv ks vss hv
    subst e1
    rw [List.length_map] at fps ⊢
    have D := entsOf_zap (P := X.prog) (w := X.w) (ss := ss) (a := a) fun s hs => hlt (s.l, s.tp) (List.mem_map.mpr ⟨s, hs, rfl⟩)
    have st := t.st (P := X.prog) (w := X.w) e2
    cases ss with
    | nil => exact absurd rfl hne
    | cons s r =>
      cases vss with
      | nil => exact absurd e3 (by intro z; cases z)
      | cons vs q =>
        obtain ⟨s', q', e4, e5, e6⟩ := e3
        obtain ⟨rfl, rfl⟩ := List.cons.inj e4
        have hx : s.its[i]? = Option.none := by
          have h1 := hlen vs List.mem_cons_self
          have h2 := e5.length
          rw [← Array.getElem?_toList]
          exact List.getElem?_eq_none (by omega)
        refine zn_end (inv.ok.hd calm) D st hx fun h' kept => ⟨rfl, inv.turnedL (t' := sh.toks) (ch := fpN (s :: r).length a) (fun c o no e => kept c o (fun z => no (by rw [z]; simp)) (fun z => no ?_) e) fps⟩
        have : c ∈ (entsOf X.prog X.w (s :: r) a).map (·.it) := z
        rw [entsOf_its] at this
        exact List.mem_cons_of_mem _ (List.mem_cons_of_mem _ (List.mem_cons_of_mem _ this))
  self := fun A i sh Q E t good => by
    obtain ⟨⟨f0, f1, t1, _⟩, _⟩ := t
    exact zip_self t1 good
end PK

namespace PK
open PySem PySem.Spec PyProof.Rows L2 RZ
def iZipN (K : PySem.W.Frag) (te : TE) : TI := fun σ H R => te σ H fun x H1 => ∃ (p : Nat) (ks : List (Nat × Bool)), x = V.ref p ∧ (SqT K H1 p (ks.map fun k => V.ref k.1) ∨ SqL K H1 p (ks.map fun k => V.ref k.1)) ∧ ks ≠ [] ∧ ks.length ≤ 100000 ∧ (∃ vss, SrcV K H1 ks vss) ∧ R (ItN K ks) H1
theorem vals_refs : ∀ {ks : List (Nat × Bool)} {us : List Value}, Vals (ks.map fun k => V.ref k.1) us → us = ks.map fun k => Value.ref k.1
  | [], us, h => by cases h; rfl
  | k :: r, us, h => by
    cases h with
    | cons a b =>
      cases a
      rw [vals_refs b]
      rfl
theorem srcV_lt {X : Cx} {pins : List (Nat × Obj)} {σ : L2.St} {H : Hp} {s : Shared} (I : Inv X pins σ H s) {ks : List (Nat × Bool)} {vss : List (List V)} (h : SrcV X.K H ks vss) : ∀ k ∈ ks, k.1 < s.heap.objs.size := fun k hk => by
  obtain ⟨ss, e1, e2, _⟩ := srcV_src I ks vss h
  rw [← e1] at hk
  obtain ⟨q, hq, rfl⟩ := List.mem_map.mp hk
  exact (e2 q hq).lt
theorem pi_zipN {X : Cx} {e : Expr} {te : TE} {p sp pos ypos : Pos} {y : Str} (hg : Gl X "zip") (hm : X.mg "zip" = none) (he : PE X e te)
    (hst : starEach [.Starred e sp] X.env = [(true, eval e X.env)] := by rfl) : PI X (.Name y ypos) (.Call (.Name "zip" p) [.Starred e sp] [] pos) (iZipN X.K te) :=
  ⟨fun pins sh σ hp R inv asks => Call_ (ld_blt inv hg hm PyProof.Rows.boot_zip (by
    show wpAny _ _ (callWith pos (.type "zip") [] (backTo pos (starEach [.Starred e sp] X.env)) []) _ _ _
    rw [hst]
    refine PySem.W.ks_call (P := fun _ => True) rfl (fun h _ => ⟨.machine, .inr (.inl rfl), PySem.W.Looks.now⟩) ?_
    refine PySem.W.ks_lone (thn (he.run pins sh σ hp _ inv asks) fun v s1 got => ?_)
    obtain ⟨x, H1, I1, rx, a, ks, rfl, hxs, hne, hl, ⟨vss, hv⟩, goes⟩ := got
    obtain rfl : v = Value.ref a := rx
    refine StX.star_any I1 hxs fun us s2 I2 rv => ⟨trivial, ?_⟩
    have hus := vals_refs rv
    subst hus
    obtain ⟨ss, e1, e2, e3⟩ := srcV_src I2 ks vss hv
    have hmap : ([] ++ ks.map fun k => Value.ref k.1) = ss.map fun s => Value.ref s.l := by
      rw [← e1, List.map_map, List.nil_append]
      rfl
    show wpAny _ _ (call (.type "zip") ([] ++ ks.map fun k => Value.ref k.1) []) _ _ _
    rw [hmap]
    have hkl : ss.length = ks.length := by rw [← e1, List.length_map]
    refine callN (P := X.prog) (w := X.w) e2 (Nat.le_trans (by rw [hkl]; exact hl) (by decide)) fun h' nz => ?_
    obtain ⟨st, kept⟩ := nz
    obtain ⟨f0, f1, hz, _⟩ := st.zz
    refine zip_self hz ?_
    have inv2 : Inv X pins σ H1 { s2 with heap := h' } := I2.kept (t' := s2.toks) kept
    have tn := TnN.of st
    rw [e1] at tn
    rw [hkl]
    refine ⟨s2.heap.objs.size + ks.length + 2, fpN ks.length s2.heap.objs.size, TnN ks s2.heap.objs.size, ItN X.K ks, H1, rfl, inv2, turnN hne hl (srcV_lt I2 hv), tn, fun c hc => ?_, goes⟩
    have far : s2.heap.objs.size ≤ c := by
      simp only [List.mem_cons] at hc
      rcases hc with q | q | q | q
      · rw [q]; exact Nat.le_trans (Nat.le_add_right _ _) (Nat.le_add_right _ _)
      · rw [q]; exact Nat.le_add_right _ _
      · rw [q]; exact Nat.le_trans (Nat.le_add_right _ _) (Nat.le_add_right _ _)
      · have h1 := (entsOf_it (P := X.prog) (w := X.w) ss s2.heap.objs.size c).mp (by rw [entsOf_its, hkl]; exact q)
        exact h1.1
    exact I2.fpOk far (I2.hok.fresh far)))⟩
/-! ### .. for data -/
/-- the items of a tuple or a list, which way it is -/
def seqD : D → Option (Bool × List D)
  | .tup xs => some (true, xs)
  | .lst xs => some (false, xs)
  | _ => none
def seqsD : List D → Option (List (Bool × List D))
  | [] => some []
  | d :: ds => match seqD d, seqsD ds with
    | some x, some xs => some (x :: xs)
    | _, _ => none
def colN (xss : List (List D)) (i : Nat) : List D := xss.filterMap (·[i]?)
/-- all of one length -/
def zipNd (xss : List (List D)) : Option (List D) := match xss with
  | [] => none
  | x :: r => if (x :: r).all (fun y => y.length == x.length) ∧ (x :: r).length ≤ 100000 then some ((List.range x.length).map fun i => .tup (colN (x :: r) i)) else none
def iZipNd (f : EF) : IF := fun δ => (f δ).bind fun p => (der p.2 p.1).bind fun d => (itemsD d).bind fun ds => (seqsD ds).bind fun xs => match p.1 with
  | .fz _ => (zipNd (xs.map (·.2))).map fun r => (r, [], p.2)
  | _ => none
theorem seqs_src {K : PySem.W.Frag} {mg : Str → Option Value} {B : Hp} : ∀ {ds : List D} {vs : List V} {xs : List (Bool × List D)}, Rps K mg B ds vs → seqsD ds = some xs → ∃ (ks : List (Nat × Bool)) (vss : List (List V)), vs = (ks.map fun k => V.ref k.1) ∧ ks.length = xs.length ∧ (∀ H, Same B H → SrcV K H ks vss) ∧ vss.length = xs.length ∧
    (∀ (j : Nat) (x : Bool × List D) (us : List V), xs[j]? = some x → vss[j]? = some us → Rps K mg B x.2 us)
  | [], vs, xs, h, e => by
    have h' : vs = [] := h
    subst h'
    simp only [seqsD] at e
    cases e
    exact ⟨[], [], rfl, rfl, fun _ _ => rfl, rfl, fun j x us h => by simp at h⟩
  | d :: ds, vs, xs, h, e => by
    obtain ⟨v, r, rfl, h1, h2⟩ := h
    simp only [seqsD] at e
    split at e
    · rename_i x xs' e1 e2
      cases e
      obtain ⟨ks, vss, g1, g2, g3, g4, g5⟩ := seqs_src h2 e2
      cases d with
      | tup ys =>
        simp only [seqD] at e1
        cases e1
        obtain ⟨a, us, rfl, b1, b2⟩ := h1
        refine ⟨(a, true) :: ks, us :: vss, by rw [g1]; rfl, by simp [g2], fun H hH => ⟨us, vss, rfl, SqT.of (hH _ _ b1), g3 H hH⟩, by simp [g4], fun j y ws hj hw => ?_⟩
        cases j with
        | zero =>
          simp at hj hw
          subst hj hw
          exact b2
        | succ j => exact g5 j y ws (by simpa using hj) (by simpa using hw)
      | lst ys =>
        simp only [seqD] at e1
        cases e1
        obtain ⟨a, us, rfl, b1, b2⟩ := h1
        refine ⟨(a, false) :: ks, us :: vss, by rw [g1]; rfl, by simp [g2], fun H hH => ⟨us, vss, rfl, SqL.of (hH _ _ b1), g3 H hH⟩, by simp [g4], fun j y ws hj hw => ?_⟩
        cases j with
        | zero =>
          simp at hj hw
          subst hj hw
          exact b2
        | succ j => exact g5 j y ws (by simpa using hj) (by simpa using hw)
      | _ => cases e1
    · cases e
theorem col_rps {K : PySem.W.Frag} {mg : Str → Option Value} {B : Hp} {i n : Nat} : ∀ {xss : List (List D)} {vss : List (List V)} {us : List V}, xss.length = vss.length → (∀ (j : Nat) (x : List D) (ws : List V), xss[j]? = some x → vss[j]? = some ws → Rps K mg B x ws) → (∀ x ∈ xss, i < x.length) → vss.map (·[i]?) = us.map some → Rps K mg B (colN xss i) us
  | [], vss, us, hl, _, _, e => by
    have : vss = [] := List.length_eq_zero_iff.mp hl.symm
    subst this
    have : us = [] := by simpa using e.symm
    subst this
    exact rfl
  | x :: xss, [], us, hl, _, _, e => by cases hl
  | x :: xss, ws :: vss, us, hl, h, hi, e => by
    cases us with
    | nil => simp at e
    | cons u us =>
      rw [List.map_cons, List.map_cons] at e
      obtain ⟨e1, e2⟩ := List.cons.inj e
      have hx := hi x List.mem_cons_self
      obtain ⟨v, h1, h2⟩ := Rps.get (h 0 x ws rfl rfl) (List.getElem?_eq_getElem hx)
      rw [e1] at h1
      cases h1
      have h3 : colN (x :: xss) i = x[i] :: colN xss i := by
        simp [colN, List.filterMap_cons, List.getElem?_eq_getElem hx]
      rw [h3]
      exact ⟨u, us, rfl, h2, col_rps (n := n) (by simpa using hl) (fun j y zs hj hz => h (j + 1) y zs (by simpa using hj) (by simpa using hz)) (fun y hy => hi y (List.mem_cons_of_mem _ hy)) e2⟩
theorem tup_new {K : PySem.W.Frag} {mg : Str → Option Value} {B F : Hp} {ad : List Addr} {σ : L2.St} {δ : Dl} {H : Hp} {T : Addr} {us : List V} {ds : List D} (S : SRep K mg B F ad σ δ H) (hT : H T = none) (h1 : Rps K mg B ds us) :
    ∃ B2, Same B B2 ∧ SRep K mg B2 F ad σ δ (upd H T (.tup us)) ∧ Rp K mg B2 (.tup ds) (.ref T) := by
  have s1 : Same B (upd B T (.tup us)) := same_new (S.exB.free hT)
  exact ⟨_, s1, S.alloc hT, T, us, rfl, upd_same, Rps.mono s1 _ _ h1⟩
theorem walkN {K : PySem.W.Frag} {ks : List (Nat × Bool)} {vss : List (List V)} {n : Nat} (hn : ∀ vs ∈ vss, vs.length = n) : Walk (ItN K ks) n (fun H => SrcV K H ks vss) (fun i H v H' => ∃ T us, v = .ref T ∧ H T = none ∧ H' = upd H T (.tup us) ∧ vss.map (·[i]?) = us.map some) :=
  ⟨fun i H hi q => ⟨vss, q, fun vs h => by rw [hn vs h]; exact hi⟩, fun H q => ⟨vss, q, fun vs h => by rw [hn vs h]; exact Nat.le_refl _⟩, fun i H x H' hi q y => by
    obtain ⟨T, us, h1, h2, h3, h4⟩ := y
    exact ⟨T, us, h1, h2, h3, h4 vss q⟩⟩
theorem pdi_zipN {X : Cx} {e : Expr} {f : EF} {p sp pos ypos : Pos} {y : Str} (hg : Gl X "zip") (hm : X.mg "zip" = none) (he : PD X e f)
    (hst : starEach [.Starred e sp] X.env = [(true, eval e X.env)] := by rfl) : PDI X (.Name y ypos) (.Call (.Name "zip" p) [.Starred e sp] [] pos) (iZipNd f) := PI.weak (pi_zipN hg hm he hst) fun σ H R h => by
  obtain ⟨B, F, ad, δ, it, ck, δ', S, e, hck, k⟩ := h
  unfold iZipNd at e
  obtain ⟨⟨r, δ1⟩, e1, e⟩ := Option.bind_eq_some_iff.mp e
  obtain ⟨d, e2, e⟩ := Option.bind_eq_some_iff.mp e
  obtain ⟨ds, e3, e⟩ := Option.bind_eq_some_iff.mp e
  obtain ⟨xs, e4, e⟩ := Option.bind_eq_some_iff.mp e
  refine ⟨B, F, ad, δ, r, δ1, S, e1, fun B1 ad1 v H1 s1 p1 S1 r1 => ?_⟩
  dsimp only at e e2
  split at e
  · rename_i d0
    obtain ⟨its, e5, e6⟩ := Option.map_eq_some_iff.mp e
    cases e6
    simp only [der] at e2
    cases e2
    have hseq : ∃ (a : Nat) (vs : List V), v = .ref a ∧ (SqT X.K H1 a vs ∨ SqL X.K H1 a vs) ∧ Rps X.K X.mg B1 ds vs := by
      cases d with
      | lst ys =>
        simp only [itemsD] at e3
        cases e3
        obtain ⟨a, vs, h1, h2, h3⟩ := r1
        exact ⟨a, vs, h1, .inr (SqL.of (S1.exB _ _ h2)), h3⟩
      | tup ys =>
        simp only [itemsD] at e3
        cases e3
        obtain ⟨a, vs, h1, h2, h3⟩ := r1
        exact ⟨a, vs, h1, .inl (SqT.of (S1.exB _ _ h2)), h3⟩
      | _ => simp [itemsD] at e3
    obtain ⟨a, vs, rfl, hsq, hr⟩ := hseq
    obtain ⟨ks, vss, g1, g2, g3, g4, g5⟩ := seqs_src hr e4
    have hx : ∃ x rest, xs = x :: rest := by
      cases xs with
      | nil => simp [zipNd] at e5
      | cons x rest => exact ⟨x, rest, rfl⟩
    obtain ⟨x0, rest, rfl⟩ := hx
    simp only [List.map_cons, zipNd] at e5
    split at e5
    · rename_i hc
      obtain ⟨hall, hlen⟩ := hc
      have hits := Option.some.inj e5
      have hall' : ∀ y ∈ (x0 :: rest).map (·.2), y.length = x0.2.length := fun y hy => by
        have := List.all_eq_true.mp hall y hy
        simpa using this
      have hvl : ∀ ws ∈ vss, ws.length = x0.2.length := fun ws hw => by
        obtain ⟨j, hj⟩ := List.getElem?_of_mem hw
        have hjl : j < (x0 :: rest).length := by rw [← g4]; exact (List.getElem?_eq_some_iff.mp hj).1
        have h1 := g5 j _ ws (List.getElem?_eq_getElem hjl) hj
        rw [Rps.length h1]
        exact hall' _ (List.mem_map_of_mem (List.getElem_mem hjl))
      have hil : it.length = x0.2.length := by rw [← hits]; simp
      refine ⟨a, ks, rfl, by rw [← g1]; exact hsq, fun z => by rw [z] at g2; simp at g2, by rw [g2]; simpa using hlen, ⟨vss, g3 _ S1.exB⟩, ?_⟩
      refine k B1 ad1 H1 (ItN X.K ks) (fun H => SrcV X.K H ks vss) _ s1 p1 S1 (by rw [hil]; exact walkN hvl) ?_ ?_
      · intro B3 F3 ad3 σ3 δ3 H3 s3 p3 S3 c
        exact g3 _ fun b o q => S3.exB _ _ (s3 _ _ q)
      · rintro i x B3 F3 ad3 σ3 δ3 H3 H4 s3 p3 S3 c hi ⟨T, us, rfl, hT, rfl, hu⟩
        rw [hil] at hi
        have hcol : Rps X.K X.mg B1 (colN ((x0 :: rest).map (·.2)) i) us := col_rps (n := 0) (by rw [List.length_map, g4]) (fun j y ws hj hw => by
            rw [List.getElem?_map] at hj
            obtain ⟨q, hq, rfl⟩ := Option.map_eq_some_iff.mp hj
            exact g5 j q ws hq hw) (fun y hy => by rw [hall' y hy]; exact hi) hu
        obtain ⟨B4, s4, S4, r4⟩ := tup_new S3 hT (Rps.mono s3 _ _ hcol)
        refine ⟨B4, s4, S4, _, ?_, r4⟩
        rw [← hits, List.getElem?_map, List.getElem?_range hi]
        rfl
    · cases e5
  · cases e
end PK

namespace PK
open PySem PySem.Spec PyProof.Rows L2 RZ
/-- a tuple and a list, turn by turn, the items in new pairs -/
def ItY (K : PySem.W.Frag) (la lb : Addr) : It :=
  ⟨fun k hp => ∃ (xs ys : List V) (x y : V), SqT K hp la xs ∧ SqL K hp lb ys ∧ xs[k]? = some x ∧ ys[k]? = some y,
    fun k hp v hq => ∃ T x y, v = .ref T ∧ hp T = none ∧ hq = upd hp T (.tup [x, y]) ∧ (∀ xs, SqT K hp la xs → xs[k]? = some x) ∧ ∀ ys, SqL K hp lb ys → ys[k]? = some y,
    fun k hp => ∃ xs ys : List V, SqT K hp la xs ∧ SqL K hp lb ys ∧ (xs.length ≤ k ∨ ys.length ≤ k)⟩
def TnY (zo pi po ia ib la lb : Addr) (k : Nat) (h : Heap) : Prop := IsZip h zo pi po .none ∧ IsPair h pi (.ref ia) (.ref ib) ∧ (∃ x y, IsPair h po x y) ∧ h.IsTupleIter ia la k ∧ h.IsListIter ib lb k
theorem TnY.here {zo pi po ia ib la lb : Addr} {k : Nat} {h : Heap} (t : TnY zo pi po ia ib la lb k h) : ∀ c ∈ [zo, pi, po, ia, ib], ∃ o, h.get? c = some o ∧ ∀ v, o.data ≠ .cell v := by
  obtain ⟨t1, t2, ⟨x, y, t3⟩, ⟨o1, t4, _, d1⟩, o2, t5, _, d2⟩ := t
  intro c hc
  rcases fiveM hc with q | q | q | q | q <;> rw [q]
  · exact ⟨_, t1, fun v e => nomatch e⟩
  · exact ⟨_, t2, fun v e => nomatch e⟩
  · exact ⟨_, t3, fun v e => nomatch e⟩
  · exact ⟨o1, t4, fun v e => by rw [d1] at e; cases e⟩
  · exact ⟨o2, t5, fun v e => by rw [d2] at e; cases e⟩
theorem turnY {P : Program} {w : World} {K : PySem.W.Frag} {elts : List Expr} {kk : Nat} {tpos : Pos} {zo pi po ia ib la lb : Addr} (D : ZipApart zo pi po ia ib la lb) : Turn P w K (.Tuple elts kk tpos) (ItY K la lb) [zo, pi, po, ia, ib] zo (TnY zo pi po ia ib la lb) where
  mem := List.mem_cons_self
  obj := fun k h t => t.here
  keep := fun k h h' t kept => by
    obtain ⟨t1, t2, ⟨x, y, t3⟩, ⟨o1, t4, r4⟩, o2, t5, r5⟩ := t
    exact ⟨kept zo (by simp) _ t1, kept pi (by simp) _ t2, ⟨x, y, kept po (by simp) _ t3⟩, ⟨o1, kept ia (by simp) o1 t4, r4⟩, o2, kept ib (by simp) o2 t5, r5⟩
  item := by
    rintro X rfl rfl rfl calm k pins sh σ hp E inv fps t ⟨xs, ys, x, y, q1, q2, g1, g2⟩
    have here := t.here
    obtain ⟨t1, t2, ⟨x0, y0, t3⟩, t4, t5⟩ := t
    obtain ⟨us, r1, p1, _⟩ := inv.tuple q1
    obtain ⟨vs, r2, p2, _⟩ := inv.list q2
    obtain ⟨u, gu, ru⟩ := r1.get g1
    obtain ⟨v, gv, rv⟩ := r2.get g2
    have low : zo < sh.heap.objs.size := Heap.lt_size t1
    refine zm_item (itr_tup (its := us.toArray) D.l1i1) (itr_list (its := vs.toArray) D.l2i2) D t1 t2 t3 ⟨t4, p1⟩ ⟨t5, p2.isList⟩ (x := u) (y := v) (by simpa using gu) (by simpa using gv) fun h' n1 n2 n3 n4 n5 n6 n7 => ⟨_, rfl, wpAny_letOwnedTupleGo_zip (s := { sh with heap := h' }) n1 fun h2 n8 sb => ?_⟩
    have up : ∀ c o, c ≠ zo → c ≠ po → c ≠ ia → c ≠ ib → sh.heap.get? c = some o → h2.get? c = some o := fun c o a1 a2 a3 a4 e => (sb.2 _ a1).trans (n7 c o a1 a2 a3 a4 e)
    have pair : h2.get? sh.heap.objs.size = some { cls := .type "tuple", data := .seq #[u, v] } := (sb.2 _ (Nat.ne_of_gt low)).trans n5
    have made : ObjOk X.prog X.w (upd hp sh.heap.objs.size (.tup [x, y])) h2 sh.heap.objs.size (.tup [x, y]) := ⟨by show 2 ≤ sizeLine; decide, [u, v], .cons ru (.cons rv .nil), ⟨_, pair, rfl, _, rfl⟩⟩
    have inv2 : Inv X pins σ (upd hp sh.heap.objs.size (.tup [x, y])) { sh with heap := h2 } := inv.turnedNew (t' := sh.toks) (ch := [zo, pi, po, ia, ib]) (fun c o out e => up c o (fun a => out (by simp [a])) (fun a => out (by simp [a])) (fun a => out (by simp [a])) (fun a => out (by simp [a])) e) fps (Nat.le_refl _) made
    refine ⟨.ref sh.heap.objs.size, _, inv2, rfl, ⟨_, x, y, rfl, inv.hok.fresh (Nat.le_refl _), rfl, fun l hl => by rw [inv.tuple_inj hl q1]; exact g1, fun l hl => by rw [inv.list_inj hl q2]; exact g2⟩, ⟨n8, up _ _ D.TIz D.TITO D.TIi1 D.TIi2 t2, ⟨u, v, (sb.2 _ D.TOz).trans n2⟩, ?_, ?_⟩, fun c hc => ?_⟩
    · obtain ⟨⟨o1, e1, m1⟩, _⟩ := n3
      exact ⟨o1, (sb.2 _ D.i1z).trans e1, m1⟩
    · obtain ⟨⟨o2, e2, m2⟩, _⟩ := n4
      exact ⟨o2, (sb.2 _ D.i2z).trans e2, m2⟩
    · obtain ⟨o, e, _⟩ := here c hc
      rw [upd_ne (Nat.ne_of_lt (Heap.lt_size e))]
      exact (fps c hc).1
  done := by
    rintro X rfl rfl rfl calm k pins sh σ hp E inv fps ⟨t1, t2, ⟨x0, y0, t3⟩, t4, t5⟩ ⟨xs, ys, q1, q2, over⟩
    obtain ⟨us, r1, p1, _⟩ := inv.tuple q1
    obtain ⟨vs, r2, p2, _⟩ := inv.list q2
    have n1 := r1.length
    have n2 := r2.length
    have out : us.toArray[k]? = none ∨ vs.toArray[k]? = none := by
      rcases over with a | a
      · exact .inl (by simp; omega)
      · exact .inr (by simp; omega)
    exact zm_end (inv.ok.hd calm) (itr_tup (its := us.toArray) D.l1i1) (itr_list (its := vs.toArray) D.l2i2) D t1 t2 t3 ⟨t4, p1⟩ ⟨t5, p2.isList⟩ out fun h' kept => ⟨rfl, inv.turnedL (t' := sh.toks) (ch := [zo, pi, po, ia, ib]) (fun c o no e => kept c o (fun a => no (by simp [a])) (fun a => no (by simp [a])) (fun a => no (by simp [a])) (fun a => no (by simp [a])) e) fps⟩
  self := fun A k sh Q E t good => wpAny_pyIter_zip t.1 good
/-! zip(xs, ys) is called -/
abbrev hY1 (h : Heap) (la : Addr) : Heap := h.push { cls := .type "tuple_iterator", data := .fields #[.ref la, .int 0 0] }
abbrev hY2 (h : Heap) (la lb : Addr) : Heap := (hY1 h la).push { cls := .type "list_iterator", data := .fields #[.ref lb, .int 0 0] }
abbrev hY3 (h : Heap) (la lb : Addr) : Heap := (hY2 h la lb).push { cls := .type "tuple", data := .seq #[.ref h.objs.size, .ref (hY1 h la).objs.size] }
abbrev hY4 (h : Heap) (la lb : Addr) : Heap := (hY3 h la lb).push { cls := .type "tuple", data := .seq #[.none, .none] }
abbrev hY5 (h : Heap) (la lb : Addr) : Heap := (hY4 h la lb).push { cls := .type "zip", data := .fields #[.none, .bool false, .bool false, .ref (hY2 h la lb).objs.size, .ref (hY3 h la lb).objs.size] }
theorem meetsY (la lb : Addr) (xs ys : Array Value) : Meets (Builtin.«zip.__new__» ⟨[.type "zip", .ref la, .ref lb], []⟩) (fun _ R sh => sh.heap.IsTuple la xs ∧ sh.heap.IsList lb ys ∧ R (.ok (.ret (.ref (hY4 sh.heap la lb).objs.size))) { sh with heap := hY5 sh.heap la lb }) :=
  .of_wp fun prog w A R sh h => by
    obtain ⟨m, g, d, tk, os⟩ := sh; obtain ⟨ia, ib, h⟩ := h
    have sub := sub_zip
    have fst : Heap.IsTuple (Shared.heap ⟨m, g, d, tk, os⟩) la xs := ia
    have snd : Heap.IsList (Shared.heap ⟨m.push { cls := .type "tuple_iterator", data := .fields #[.ref la, .int 0 0] }, g, d, tk, os⟩) lb ys := Heap.IsList.push ib _
    wp_walk using wpAny_pyIter_tuple fst, wpAny_pyIter_list snd
    exact ⟨_, rfl, h⟩
section
variable {P : Program} {w : World} {A : Around} {E : Value → Shared → Prop} {sh : Shared}
theorem callY {la lb : Addr} {xs ys : Array Value} {Q : Value → Shared → Prop} (fst : sh.heap.IsTuple la xs) (snd : sh.heap.IsList lb ys)
    (good : ∀ h', TnY (sh.heap.objs.size + 4) (sh.heap.objs.size + 2) (sh.heap.objs.size + 3) sh.heap.objs.size (sh.heap.objs.size + 1) la lb 0 h' → (∀ c o, sh.heap.get? c = some o → h'.get? c = some o) → Q (.ref (sh.heap.objs.size + 4)) { sh with heap := h' }) :
    wpAny (model P w) A (call (.type "zip") [.ref la, .ref lb]) Q E sh := by
  refine callType_new F.called_zip (by decide) (F.typeCall_zip_2 _ _) (F.newCall_zip_2 _ _) (fun ob => F.args_object_init_3 ob _ _) F.entry_zip_new (meetsY la lb xs ys) ⟨fst, snd, ?_⟩
  have n1 : (hY1 sh.heap la).objs.size = sh.heap.objs.size + 1 := Heap.size_push ..
  have n2 : (hY2 sh.heap la lb).objs.size = sh.heap.objs.size + 2 := by rw [Heap.size_push, n1]
  have n3 : (hY3 sh.heap la lb).objs.size = sh.heap.objs.size + 3 := by rw [Heap.size_push, n2]
  have n4 : (hY4 sh.heap la lb).objs.size = sh.heap.objs.size + 4 := by rw [Heap.size_push, n3]
  have up2 : ∀ c o, (hY3 sh.heap la lb).get? c = some o → (hY5 sh.heap la lb).get? c = some o := fun c o e => Heap.get?_push_of_some _ (Heap.get?_push_of_some _ e)
  have w5 : (hY5 sh.heap la lb).get? (hY4 sh.heap la lb).objs.size = some _ := Heap.get?_push_size _ rfl
  have w4 : (hY5 sh.heap la lb).get? (hY3 sh.heap la lb).objs.size = some _ := Heap.get?_push_of_some _ (Heap.get?_push_size _ rfl)
  have w3 : (hY5 sh.heap la lb).get? (hY2 sh.heap la lb).objs.size = some _ := up2 _ _ (Heap.get?_push_size _ rfl)
  have w2 : (hY5 sh.heap la lb).get? (hY1 sh.heap la).objs.size = some _ := up2 _ _ (Heap.get?_push_of_some _ (Heap.get?_push_size _ rfl))
  have w1 : (hY5 sh.heap la lb).get? sh.heap.objs.size = some _ := up2 _ _ (Heap.get?_push_of_some _ (Heap.get?_push_of_some _ (Heap.get?_push_size _ rfl)))
  rw [n2, n3, n4] at w5
  rw [n1, n2] at w3
  rw [n3] at w4
  rw [n1] at w2
  show _ ∧ _
  rw [n4]
  exact ⟨⟨_, w5, rfl⟩, good _ ⟨w5, w3, ⟨_, _, w4⟩, ⟨_, w1, rfl, rfl⟩, _, w2, rfl, rfl⟩ fun c o e => up2 c o (Heap.get?_push_of_some _ (Heap.get?_push_of_some _ (Heap.get?_push_of_some _ e)))⟩
end
theorem walkY {K : PySem.W.Frag} {la lb : Addr} {xs ys : List V} {n : Nat} (hn : n = min xs.length ys.length) : Walk (ItY K la lb) n (fun hp => SqT K hp la xs ∧ SqL K hp lb ys) (YPair (fun k => xs[k]?) (fun k => ys[k]?)) := by
  subst hn
  refine ⟨fun k _ hk q => ?_, fun _ q => ⟨xs, ys, q.1, q.2, by omega⟩, fun k hp v hq _ q y => ?_⟩
  · have a1 : k < xs.length := by omega
    have a2 : k < ys.length := by omega
    exact ⟨xs, ys, xs[k], ys[k], q.1, q.2, by simp [a1], by simp [a2]⟩
  · obtain ⟨T, x, z, b1, b2, b3, b4, b5⟩ := y
    exact ⟨T, x, z, b1, b2, b3, b4 xs q.1, b5 ys q.2⟩
/-! ### zip of two lists, of two tuples, of a list and a tuple, of a tuple and a list -/
def iZipW (K : PySem.W.Frag) (ta : TA) : TI := fun σ hp R => ta σ hp fun vs hq => ∃ la lb xs ys, vs = [.ref la, .ref lb] ∧ ((SqL K hq la xs ∧ SqL K hq lb ys ∧ R (Itz K la lb) hq) ∨ (SqT K hq la xs ∧ SqT K hq lb ys ∧ R (ItzT K la lb) hq) ∨ (SqL K hq la xs ∧ SqT K hq lb ys ∧ R (ItM K la lb) hq) ∨ (SqT K hq la xs ∧ SqL K hq lb ys ∧ R (ItY K la lb) hq))
theorem pi_zipW {X : Cx} {e e2 : Expr} {ta : TA} {p pos tpos : Pos} {elts : List Expr} {kk : Nat} (hg : Gl X "zip") (hm : X.mg "zip" = none) (ha : PA X [e, e2] ta)
    (hs : starEach [e, e2] X.env = (false, eval e X.env) :: starEach [e2] X.env := by rfl) (hpl : (backTo pos (starEach [e2] X.env)).any (·.1) = false := by rfl) : PI X (.Tuple elts kk tpos) (.Call (.Name "zip" p) [e, e2] [] pos) (iZipW X.K ta) :=
  ⟨fun pins sh σ hp R inv asks => Call_ (ld_blt inv hg hm PyProof.Rows.boot_zip (PyProof.Rows.callWith_type1 (thn (ha.run pos pins sh σ hp _ inv asks) fun us s1 got => by
    obtain ⟨vs, hq, inv1, rel, la, lb, xs, ys, rfl, ways⟩ := got
    match us, rel with
    | [_, _], .cons ra (.cons rb .nil) =>
      cases ra
      cases rb
      have far : ∀ c ∈ [s1.heap.objs.size + 4, s1.heap.objs.size + 2, s1.heap.objs.size + 3, s1.heap.objs.size, s1.heap.objs.size + 1], FpOk X pins hq c := fun c hc => by
        have low : s1.heap.objs.size ≤ c := by
          rcases fiveM hc with a | a | a | a | a <;> rw [a] <;> first | exact Nat.le_refl _ | exact Nat.le_add_right _ _
        exact inv1.fpOk low (inv1.hok.fresh low)
      rcases ways with ⟨q1, q2, goes⟩ | ⟨q1, q2, goes⟩ | ⟨q1, q2, goes⟩ | ⟨q1, q2, goes⟩
      · obtain ⟨us, r1, p1, _⟩ := inv1.list q1
        obtain ⟨ws, r2, p2, _⟩ := inv1.list q2
        exact call_zip_2 p1.isList p2.isList fun h' t1 t2 t3 t4 t5 _ kept => wpAny_pyIter_zip t1 ⟨s1.heap.objs.size + 4, _, _, _, hq, rfl, inv1.kept (t' := s1.toks) kept, turn_zip (PySem.W.ktu_apart s1.heap.objs.size la lb p1.lt p2.lt), ⟨t1, t2, ⟨_, _, t3⟩, t4, t5⟩, far, goes⟩
      · obtain ⟨us, r1, p1, _⟩ := inv1.tuple q1
        obtain ⟨ws, r2, p2, _⟩ := inv1.tuple q2
        obtain ⟨o1, got1, _⟩ := id p1
        obtain ⟨o2, got2, _⟩ := id p2
        exact call_zipT (show s1.heap.IsTuple la us.toArray from p1) (show s1.heap.IsTuple lb ws.toArray from p2) fun h' t1 t2 t3 t4 t5 _ kept => wpAny_pyIter_zip t1 ⟨s1.heap.objs.size + 4, _, _, _, hq, rfl, inv1.kept (t' := s1.toks) kept, turn_zipT (PySem.W.ktu_apart s1.heap.objs.size la lb (Heap.lt_size got1) (Heap.lt_size got2)), ⟨t1, t2, ⟨_, _, t3⟩, t4, t5⟩, far, goes⟩
      · obtain ⟨us, r1, p1, _⟩ := inv1.list q1
        obtain ⟨ws, r2, p2, _⟩ := inv1.tuple q2
        obtain ⟨o2, got2, _⟩ := id p2
        exact callM p1.isList (show s1.heap.IsTuple lb ws.toArray from p2) fun h' t kept => wpAny_pyIter_zip t.1 ⟨s1.heap.objs.size + 4, _, _, _, hq, rfl, inv1.kept (t' := s1.toks) kept, turnM (PySem.W.ktu_apart s1.heap.objs.size la lb p1.lt (Heap.lt_size got2)), t, far, goes⟩
      · obtain ⟨us, r1, p1, _⟩ := inv1.tuple q1
        obtain ⟨ws, r2, p2, _⟩ := inv1.list q2
        obtain ⟨o1, got1, _⟩ := id p1
        exact callY (show s1.heap.IsTuple la us.toArray from p1) p2.isList fun h' t kept => wpAny_pyIter_zip t.1 ⟨s1.heap.objs.size + 4, _, _, _, hq, rfl, inv1.kept (t' := s1.toks) kept, turnY (PySem.W.ktu_apart s1.heap.objs.size la lb (Heap.lt_size got1) p2.lt), t, far, goes⟩) hs hpl))⟩
def iZipWD (f g : EF) : IF := fun δ => (f δ).bind fun p => (g p.2).bind fun q => match p.1, q.1 with
  | .fz (.tup xs), .fz (.tup ys) => some (zipD xs ys, [], q.2)
  | .fz (.tup xs), b => (srcOf q.2 b).map fun z => (zipD xs z.1, z.2, q.2)
  | a, .fz (.tup ys) => (srcOf q.2 a).map fun z => (zipD z.1 ys, z.2, q.2)
  | a, b => match srcOf q.2 a, srcOf q.2 b with
    | some (xs, c), some (ys, d) => some (zipD xs ys, c ++ d, q.2)
    | _, _ => none
theorem pdi_zipW {X : Cx} {e e2 : Expr} {f g : EF} {p pos tpos : Pos} {elts : List Expr} {kk : Nat} (hg : Gl X "zip") (hm : X.mg "zip" = none) (ha : PD X e f) (hb : PD X e2 g)
    (hs : starEach [e, e2] X.env = (false, eval e X.env) :: starEach [e2] X.env := by rfl) (hs2 : starEach [e2] X.env = (false, eval e2 X.env) :: starEach [] X.env := by rfl) (hpl : (backTo pos (starEach [e2] X.env)).any (·.1) = false := by rfl) :
    PDI X (.Tuple elts kk tpos) (.Call (.Name "zip" p) [e, e2] [] pos) (iZipWD f g) := PI.weak (pi_zipW hg hm (pa_cons ha (pa_cons hb pa_nil hs2) hs) hs hpl) fun σ H R h => by
  obtain ⟨B, F, ad, δ, it, ck, δ', S, e, hck, k⟩ := h
  unfold iZipWD at e
  obtain ⟨⟨r, δ1⟩, e1, e⟩ := Option.bind_eq_some_iff.mp e
  obtain ⟨⟨q, δ2⟩, e2, e⟩ := Option.bind_eq_some_iff.mp e
  refine ⟨B, F, ad, δ, r, δ1, S, e1, fun B1 ad1 v H1 s1 p1 S1 r1 => ?_⟩
  refine ⟨B1, F, ad1, δ1, q, δ2, S1, e2, fun B2 ad2 w H2 s2 p2 S2 r2 => ?_⟩
  have r1' := r1.mono s2 p2
  simp only at e
  split at e
  · rename_i xs ys
    cases e
    obtain ⟨a, as, h1, h2, h3⟩ := r1'
    obtain ⟨b, bs, g1, g2, g3⟩ := r2
    subst h1 g1
    refine ⟨a, b, as, bs, rfl, .inr (.inl ⟨SqT.of (S2.exB _ _ h2), SqT.of (S2.exB _ _ g2), ?_⟩)⟩
    refine k B2 ad2 H2 (RZ.ItzT X.K a b) (fun H => SqT X.K H a as ∧ SqT X.K H b bs) _ (s1.trans s2) (p1.trans p2) S2 (walk_zipT (by rw [zipD_len, Rps.length h3, Rps.length g3])) ?_ ?_
    · intro B3 F3 ad3 σ3 δ3 H3 s3 p3 S3 c
      exact ⟨SqT.of (S3.exB _ _ (s3 _ _ h2)), SqT.of (S3.exB _ _ (s3 _ _ g2))⟩
    · rintro i x B3 F3 ad3 σ3 δ3 H3 H4 s3 p3 S3 c hi ⟨T, y, z, rfl, hT, rfl, hy, hz⟩
      obtain ⟨d, d1, d2⟩ := Rps.back h3 hy
      obtain ⟨d', d3, d4⟩ := Rps.back g3 hz
      obtain ⟨B4, s4, S4, r4⟩ := pair_new S3 hT (Rp.mono s3 _ _ d2) (Rp.mono s3 _ _ d4)
      exact ⟨B4, s4, S4, _, zipD_get d1 d3, r4⟩
  · rename_i xs r0 hne
    obtain ⟨⟨ys, c⟩, e3, e4⟩ := Option.map_eq_some_iff.mp e
    cases e4
    obtain ⟨a, as, h1, h2, h3⟩ := r1'
    obtain ⟨b, bs, g1, g2, g3, g4, g5⟩ := src_at S2 r2 e3
    subst h1 g1
    refine ⟨a, b, as, bs, rfl, .inr (.inr (.inr ⟨SqT.of (S2.exB _ _ h2), SqL.of g2, ?_⟩))⟩
    refine k B2 ad2 H2 (ItY X.K a b) (fun H => ∃ bs, bs.length = ys.length ∧ SqT X.K H a as ∧ H b = some (.lst bs)) (fun i H v H' => ∃ bs, bs.length = ys.length ∧ (SqT X.K H a as ∧ H b = some (.lst bs)) ∧ YPair (fun i => as[i]?) (fun i => bs[i]?) i H v H') (s1.trans s2) (p1.trans p2) S2 ?_ ?_ ?_
    · have hw : ∀ bs : List V, bs.length = ys.length → Walk (ItY X.K a b) (zipD xs ys).length (fun H => SqT X.K H a as ∧ H b = some (.lst bs)) (YPair (fun i => as[i]?) (fun i => bs[i]?)) := fun bs hl =>
        (walkY (K := X.K) (la := a) (lb := b) (xs := as) (ys := bs) (by rw [zipD_len, hl, Rps.length h3])).mono (fun H q => ⟨q.1, SqL.of q.2⟩) fun _ _ _ _ _ _ y => y
      exact ⟨fun i H hi ⟨bs, hl, q⟩ => (hw bs hl).goes i H hi q, fun H ⟨bs, hl, q⟩ => (hw bs hl).stops H q, fun i H x H' hi ⟨bs, hl, q⟩ y => ⟨bs, hl, q, (hw bs hl).yields i H x H' hi q y⟩⟩
    · intro B3 F3 ad3 σ3 δ3 H3 s3 p3 S3 cc
      obtain ⟨bs', q1, q2⟩ := g5 B3 F3 ad3 σ3 δ3 H3 s3 p3 S3 cc
      exact ⟨bs', Rps.length q2, SqT.of (S3.exB _ _ (s3 _ _ h2)), q1⟩
    · rintro i x B3 F3 ad3 σ3 δ3 H3 H4 s3 p3 S3 cc hi ⟨bs1, hl, ⟨w1, w2⟩, T, y, z, rfl, hT, rfl, hy, hz⟩
      obtain ⟨bs', q1, q2⟩ := g5 B3 F3 ad3 σ3 δ3 H3 s3 p3 S3 cc
      rw [q1] at w2
      cases w2
      obtain ⟨d, d1, d2⟩ := Rps.back h3 hy
      obtain ⟨d', d3, d4⟩ := Rps.back q2 hz
      obtain ⟨B4, s4, S4, r4⟩ := pair_new S3 hT (Rp.mono s3 _ _ d2) d4
      exact ⟨B4, s4, S4, _, zipD_get d1 d3, r4⟩
  · rename_i r0 ys hne
    obtain ⟨⟨xs, c⟩, e3, e4⟩ := Option.map_eq_some_iff.mp e
    cases e4
    obtain ⟨a, as, h1, h2, h3, h4, h5⟩ := src_at S2 r1' e3
    obtain ⟨b, bs, g1, g2, g3⟩ := r2
    subst h1 g1
    refine ⟨a, b, as, bs, rfl, .inr (.inr (.inl ⟨SqL.of h2, SqT.of (S2.exB _ _ g2), ?_⟩))⟩
    refine k B2 ad2 H2 (ItM X.K a b) (fun H => ∃ as, as.length = xs.length ∧ H a = some (.lst as) ∧ SqT X.K H b bs) (fun i H v H' => ∃ as, as.length = xs.length ∧ (H a = some (.lst as) ∧ SqT X.K H b bs) ∧ YPair (fun i => as[i]?) (fun i => bs[i]?) i H v H') (s1.trans s2) (p1.trans p2) S2 ?_ ?_ ?_
    · have hw : ∀ as : List V, as.length = xs.length → Walk (ItM X.K a b) (zipD xs ys).length (fun H => H a = some (.lst as) ∧ SqT X.K H b bs) (YPair (fun i => as[i]?) (fun i => bs[i]?)) := fun as hl =>
        (walkM (K := X.K) (la := a) (lb := b) (xs := as) (ys := bs) (by rw [zipD_len, hl, Rps.length g3])).mono (fun H q => ⟨SqL.of q.1, q.2⟩) fun _ _ _ _ _ _ y => y
      exact ⟨fun i H hi ⟨as, hl, q⟩ => (hw as hl).goes i H hi q, fun H ⟨as, hl, q⟩ => (hw as hl).stops H q, fun i H x H' hi ⟨as, hl, q⟩ y => ⟨as, hl, q, (hw as hl).yields i H x H' hi q y⟩⟩
    · intro B3 F3 ad3 σ3 δ3 H3 s3 p3 S3 cc
      obtain ⟨as', q1, q2⟩ := h5 B3 F3 ad3 σ3 δ3 H3 s3 p3 S3 cc
      exact ⟨as', Rps.length q2, q1, SqT.of (S3.exB _ _ (s3 _ _ g2))⟩
    · rintro i x B3 F3 ad3 σ3 δ3 H3 H4 s3 p3 S3 cc hi ⟨as1, hl, ⟨w1, w2⟩, T, y, z, rfl, hT, rfl, hy, hz⟩
      obtain ⟨as', q1, q2⟩ := h5 B3 F3 ad3 σ3 δ3 H3 s3 p3 S3 cc
      rw [q1] at w1
      cases w1
      obtain ⟨d, d1, d2⟩ := Rps.back q2 hy
      obtain ⟨d', d3, d4⟩ := Rps.back g3 hz
      obtain ⟨B4, s4, S4, r4⟩ := pair_new S3 hT d2 (Rp.mono s3 _ _ d4)
      exact ⟨B4, s4, S4, _, zipD_get d1 d3, r4⟩
  · split at e
    · rename_i xs c ys d e3 e4
      cases e
      obtain ⟨a, as, h1, h2, h3, h4, h5⟩ := src_at S2 r1' e3
      obtain ⟨b, bs, g1, g2, g3, g4, g5⟩ := src_at S2 r2 e4
      subst h1 g1
      refine ⟨a, b, as, bs, rfl, .inl ⟨SqL.of h2, SqL.of g2, ?_⟩⟩
      refine k B2 ad2 H2 (Itz X.K a b) (fun H => ∃ as bs, (as.length = xs.length ∧ bs.length = ys.length) ∧ H a = some (.lst as) ∧ H b = some (.lst bs)) (fun i H v H' => ∃ as bs, (as.length = xs.length ∧ bs.length = ys.length) ∧ (H a = some (.lst as) ∧ H b = some (.lst bs)) ∧ YPair (fun i => as[i]?) (fun i => bs[i]?) i H v H') (s1.trans s2) (p1.trans p2) S2 ?_ ?_ ?_
      · have hw : ∀ as bs : List V, as.length = xs.length ∧ bs.length = ys.length → Walk (Itz X.K a b) (zipD xs ys).length (fun H => H a = some (.lst as) ∧ H b = some (.lst bs)) (YPair (fun i => as[i]?) (fun i => bs[i]?)) := fun as bs hl =>
          (walk_zip (K := X.K) (a := a) (b := b) (xs := as) (ys := bs) (by rw [zipD_len, hl.1, hl.2])).mono (fun H q => ⟨SqL.of q.1, SqL.of q.2⟩) fun _ _ _ _ _ _ y => y
        exact ⟨fun i H hi ⟨as, bs, hl, q⟩ => (hw as bs hl).goes i H hi q, fun H ⟨as, bs, hl, q⟩ => (hw as bs hl).stops H q, fun i H x H' hi ⟨as, bs, hl, q⟩ y => ⟨as, bs, hl, q, (hw as bs hl).yields i H x H' hi q y⟩⟩
      · intro B3 F3 ad3 σ3 δ3 H3 s3 p3 S3 cc
        obtain ⟨as', q1, q2⟩ := h5 B3 F3 ad3 σ3 δ3 H3 s3 p3 S3 (ck_app cc).1
        obtain ⟨bs', q3, q4⟩ := g5 B3 F3 ad3 σ3 δ3 H3 s3 p3 S3 (ck_app cc).2
        exact ⟨as', bs', ⟨Rps.length q2, Rps.length q4⟩, q1, q3⟩
      · rintro i x B3 F3 ad3 σ3 δ3 H3 H4 s3 p3 S3 cc hi ⟨as1, bs1, hl, ⟨w1, w2⟩, T, y, z, rfl, hT, rfl, hy, hz⟩
        obtain ⟨as', q1, q2⟩ := h5 B3 F3 ad3 σ3 δ3 H3 s3 p3 S3 (ck_app cc).1
        obtain ⟨bs', q3, q4⟩ := g5 B3 F3 ad3 σ3 δ3 H3 s3 p3 S3 (ck_app cc).2
        rw [q1] at w1
        rw [q3] at w2
        cases w1; cases w2
        obtain ⟨d, d1, d2⟩ := Rps.back q2 hy
        obtain ⟨d', d3, d4⟩ := Rps.back q4 hz
        obtain ⟨B4, s4, S4, r4⟩ := pair_new S3 hT d2 d4
        exact ⟨B4, s4, S4, _, zipD_get d1 d3, r4⟩
    · cases e
end PK

namespace PK
open PySem PySem.Spec PyProof.Rows L2
/-! ### a comprehension of two clauses -/
open Classical in
noncomputable def lcGo2 (ck : List (Nat × List D)) (tg : Tg) (test : BF) (fi1 : IF) (tg1 : Tg) (own1 : List Nat) (test1 : BF) (elt : EF) (sl : List (Option Vl)) : List D → List D → Dl → Option (List D × Dl)
  | [], acc, δ => if CkOk ck δ then some (acc, δ) else none
  | d :: ds, acc, δ => if CkOk ck δ then (asgT δ tg d).bind fun δ1 => (test δ1).bind fun p =>
      if p.1 then (fi1 p.2).bind fun q => (lcGo q.2.1 tg1 own1 test1 elt (wipeD q.2.2.sl own1) q.1 acc { q.2.2 with sl := wipeD q.2.2.sl own1 }).bind fun r => lcGo2 ck tg test fi1 tg1 own1 test1 elt sl ds r.1 { r.2 with sl := sl }
      else lcGo2 ck tg test fi1 tg1 own1 test1 elt sl ds acc { p.2 with sl := sl }
    else none
noncomputable def dLc2 (m : Bool) (fi : IF) (tg : Tg) (own : List Nat) (test : BF) (fi1 : IF) (tg1 : Tg) (own1 : List Nat) (test1 : BF) (elt : EF) : EF := fun δ => (fi δ).bind fun p =>
  (lcGo2 p.2.1 tg test fi1 tg1 own1 test1 elt (wipeD p.2.2.sl own) p.1 [] { p.2.2 with sl := wipeD p.2.2.sl own }).map fun q => mk m q.1 { q.2 with sl := p.2.2.sl }
theorem lcGo2_ck {ck : List (Nat × List D)} {tg tg1 : Tg} {own1 : List Nat} {test test1 : BF} {fi1 : IF} {elt : EF} {sl : List (Option Vl)} {ds acc : List D} {δ : Dl} {r : List D × Dl} (h : lcGo2 ck tg test fi1 tg1 own1 test1 elt sl ds acc δ = some r) : CkOk ck δ := by
  cases ds with
  | nil =>
    rw [lcGo2] at h
    split at h
    · assumption
    · cases h
  | cons d ds =>
    rw [lcGo2] at h
    split at h
    · assumption
    · cases h
section
variable {X : Cx} {tgE iter tgE1 iter1 elt : Expr} {ifs ifs1 : List Expr} {scope : Scope} {own : List (Str × Nat)} {vs1 : List Nat} {fi fi1 : IF} {test test1 : BF} {fe : EF} {pos spos : Pos}
theorem lc2_w {m : Bool} {tg tg1 : Tg} {σ : L2.St} {H : Hp} {Q : VK} {K : PySem.W.Frag} {mg : Str → Option Value} (hown : ∀ i ∈ tgs tg, i ∈ own.map (·.2)) (hown1 : ∀ i ∈ tgs tg1, i ∈ vs1)
    (h : tD K mg (dLc2 m fi tg (own.map (·.2)) test fi1 tg1 vs1 test1 fe) σ H Q) :
    tLc2 (iD K mg fi) (gTg K tg) (tDT K mg test) (iD K mg fi1) (gTg K tg1) (tDT K mg test1) (tD K mg fe) (own.map (·.2)) vs1 σ H Q := by
  obtain ⟨B, F, ad, δ, r, δ', S, e, k⟩ := h
  unfold dLc2 at e
  obtain ⟨⟨it, ck, δ1⟩, e1, e⟩ := Option.bind_eq_some_iff.mp e
  obtain ⟨⟨res, δ2⟩, e2, e⟩ := Option.map_eq_some_iff.mp e
  have e' : mk m res { δ2 with sl := δ1.sl } = (r, δ') := e
  dsimp only at e2
  generalize hw : wipeD δ1.sl (own.map (·.2)) = sl0 at e2
  refine ⟨B, F, ad, δ, it, ck, δ1, S, e1, (show CkOk ck δ1 from (lcGo2_ck e2 : CkOk ck ⟨sl0, δ1.st⟩)), fun B1 ad1 H1 J G Y s1 p1 S1 W hG hY => ?_⟩
  intro Dl' hD
  have hFD : F Dl' = none := S1.exF.free hD
  have SW := (S1.wiped (own.map (·.2))).allocF (o := .lst []) hD
  rw [hw] at SW
  refine ⟨fun i mm H' => mm = it.length - i ∧ i ≤ it.length ∧ (∃ B2 ad2 δ3 accD acc, Same B1 B2 ∧ Pre ad1 ad2 ∧ SRep K mg B2 (upd F Dl' (.lst acc)) ad2 (wipe σ (own.map (·.2))) δ3 H' ∧ Rps K mg B2 accD acc ∧ δ3.sl = sl0 ∧ lcGo2 ck tg test fi1 tg1 vs1 test1 fe sl0 (it.drop i) accD δ3 = some (res, δ2)),
    ⟨it.length, by simp, Nat.zero_le _, B1, ad1, _, [], [], Same.refl _, Pre.refl _, SW, rfl, rfl, e2⟩, ?_⟩
  rintro i mm H2 ⟨rfl, hi, B2, ad2, δ3, accD, acc, s2, p2, S2, ra, hsl, e3⟩
  have hGi := hG B2 _ ad2 _ δ3 H2 s2 p2 S2 (lcGo2_ck e3)
  by_cases hlt : i < it.length
  · refine .inr ⟨W.goes i H2 hlt hGi, fun H' => ∃ B2 ad2 δ3 accD acc, Same B1 B2 ∧ Pre ad1 ad2 ∧ SRep K mg B2 (upd F Dl' (.lst acc)) ad2 (wipe σ (own.map (·.2))) δ3 H' ∧ Rps K mg B2 accD acc ∧ δ3.sl = sl0 ∧ lcGo2 ck tg test fi1 tg1 vs1 test1 fe sl0 (it.drop (i + 1)) accD δ3 = some (res, δ2),
      fun H' p' => ⟨it.length - (i + 1), by omega, rfl, hlt, p'⟩, fun x H3 hy0 => ?_⟩
    have hy := W.yields i H2 x H3 hlt hGi hy0
    obtain ⟨B3, s3, S3, d, hd, rd⟩ := hY i x B2 _ ad2 _ δ3 H2 H3 s2 p2 S2 (lcGo2_ck e3) hlt hy
    have hdr : it.drop i = d :: it.drop (i + 1) := by
      obtain ⟨hl, he⟩ := List.getElem?_eq_some_iff.mp hd
      rw [List.drop_eq_getElem_cons hl, he]
    rw [hdr, lcGo2] at e3
    split at e3
    · rename_i hc
      obtain ⟨δ4, e4, e3⟩ := Option.bind_eq_some_iff.mp e3
      obtain ⟨⟨b, δ5⟩, e5, e3⟩ := Option.bind_eq_some_iff.mp e3
      refine tg_w S3 rd e4 fun vs S4 => ?_
      refine ⟨by rw [wipe_setV hown, wipe_wipe], ?_⟩
      have back : ∀ {B6 F6 ad6 σ6 δ6 H6}, SRep K mg B6 F6 ad6 σ6 δ6 H6 → Same B2 B6 → Pre ad2 ad6 → SRep K mg B6 F6 ad6 (wipe σ (own.map (·.2))) { δ6 with sl := sl0 } H6 := fun {B6 F6 ad6 σ6 δ6 H6} S6 s6 p6 => by
        have := S2.reslot s6 p6 S6
        rw [hsl] at this
        exact this
      refine ⟨B3, _, ad2, δ4, b, δ5, S4, e5, fun B5 ad5 H5 s5 p5 S5 => ?_⟩
      cases b with
      | true =>
        rw [if_pos rfl]
        rw [if_pos rfl] at e3
        obtain ⟨⟨it1, ck1, δ6⟩, e6, e3⟩ := Option.bind_eq_some_iff.mp e3
        obtain ⟨⟨res1, δ7⟩, e7, e3⟩ := Option.bind_eq_some_iff.mp e3
        dsimp only at e7 e3
        generalize hw1 : wipeD δ6.sl vs1 = sl1 at e7
        refine ⟨B5, _, ad5, δ5, it1, ck1, δ6, S5, e6, (show CkOk ck1 δ6 from (lcGo_ck e7 : CkOk ck1 ⟨sl1, δ6.st⟩)), fun B6 ad6 H6 J1 G1 Y1 s6 p6 S6 W1 hG1 hY1 => ?_⟩
        have SW1 := S6.wiped vs1
        rw [hw1] at SW1
        have sA : Same B2 B6 := (s3.trans s5).trans s6
        have pA : Pre ad2 ad6 := p5.trans p6
        refine ⟨fun j kk H' => kk = it1.length - j ∧ j ≤ it1.length ∧ (∃ B7 ad7 δ8 accD1 acc1, Same B6 B7 ∧ Pre ad6 ad7 ∧ SRep K mg B7 (upd F Dl' (.lst acc1)) ad7 (wipe (setV (wipe σ (own.map (·.2))) (tgs tg) vs) vs1) δ8 H' ∧ Rps K mg B7 accD1 acc1 ∧ δ8.sl = sl1 ∧ lcGo ck1 tg1 vs1 test1 fe sl1 (it1.drop j) accD1 δ8 = some (res1, δ7)),
          ⟨it1.length, by simp, Nat.zero_le _, B6, ad6, _, accD, acc, Same.refl _, Pre.refl _, SW1, Rps.mono sA _ _ ra, rfl, e7⟩, ?_⟩
        rintro j kk H7 ⟨rfl, hj, B7, ad7, δ8, accD1, acc1, s7, p7, S7, ra1, hsl1, e8⟩
        have hGj := hG1 B7 _ ad7 _ δ8 H7 s7 p7 S7 (lcGo_ck e8)
        by_cases hjl : j < it1.length
        · refine .inr ⟨W1.goes j H7 hjl hGj, fun H' => ∃ B7 ad7 δ8 accD1 acc1, Same B6 B7 ∧ Pre ad6 ad7 ∧ SRep K mg B7 (upd F Dl' (.lst acc1)) ad7 (wipe (setV (wipe σ (own.map (·.2))) (tgs tg) vs) vs1) δ8 H' ∧ Rps K mg B7 accD1 acc1 ∧ δ8.sl = sl1 ∧ lcGo ck1 tg1 vs1 test1 fe sl1 (it1.drop (j + 1)) accD1 δ8 = some (res1, δ7),
            fun H' p' => ⟨it1.length - (j + 1), by omega, rfl, hjl, p'⟩, fun x1 H8 hy1 => ?_⟩
          have hy2 := W1.yields j H7 x1 H8 hjl hGj hy1
          obtain ⟨B8, s8, S8, d1, hd1, rd1⟩ := hY1 j x1 B7 _ ad7 _ δ8 H7 H8 s7 p7 S7 (lcGo_ck e8) hjl hy2
          have hdr1 : it1.drop j = d1 :: it1.drop (j + 1) := by
            obtain ⟨hl, he⟩ := List.getElem?_eq_some_iff.mp hd1
            rw [List.drop_eq_getElem_cons hl, he]
          rw [hdr1, lcGo] at e8
          split at e8
          · rename_i hc1
            obtain ⟨δ9, e9, e8⟩ := Option.bind_eq_some_iff.mp e8
            obtain ⟨⟨b1, δ10⟩, e10, e8⟩ := Option.bind_eq_some_iff.mp e8
            refine tg_w S8 rd1 e9 fun vs' S9 => ?_
            refine ⟨by rw [wipe_setV hown1, wipe_wipe], ?_⟩
            have back1 : ∀ {B6 F6 ad6 σ6 δ6 H6}, SRep K mg B6 F6 ad6 σ6 δ6 H6 → Same B7 B6 → Pre ad7 ad6 → SRep K mg B6 F6 ad6 (wipe (setV (wipe σ (own.map (·.2))) (tgs tg) vs) vs1) { δ6 with sl := sl1 } H6 := fun {B6 F6 ad6 σ6 δ6 H6} S6 s6 p6 => by
              have := S7.reslot s6 p6 S6
              rw [hsl1] at this
              exact this
            refine ⟨B8, _, ad7, δ9, b1, δ10, S9, e10, fun B10 ad10 H10 s10 p10 S10 => ?_⟩
            cases b1 with
            | true =>
              rw [if_pos rfl]
              rw [if_pos rfl] at e8
              obtain ⟨⟨y, δ11⟩, e11, e8⟩ := Option.bind_eq_some_iff.mp e8
              obtain ⟨⟨yd, δ12⟩, e12, e8⟩ := Option.bind_eq_some_iff.mp e8
              refine ⟨B10, _, ad10, δ10, y, δ11, S10, e11, fun B11 ad11 v H11 s11 p11 S11 r11 => ?_⟩
              obtain ⟨B12, s12, S12, r12⟩ := S11.frz r11 e12
              have hacc : H11 Dl' = some (.lst acc1) := S12.exF Dl' _ upd_same
              have hlen := Rps.length ra1
              refine ⟨acc1, hacc, Nat.lt_of_lt_of_le (by omega) (small_sz (Nat.le_refl _)), ?_⟩
              have sAll : Same B7 B12 := ((s8.trans s10).trans s11).trans s12
              have pAll : Pre ad7 ad11 := p10.trans p11
              exact ⟨B12, ad11, { δ12 with sl := sl1 }, accD1 ++ [yd], acc1 ++ [v], s7.trans sAll, p7.trans pAll, (back1 S12 sAll pAll).setF, Rps.app (Rps.mono sAll _ _ ra1) (Rps.one r12), rfl, e8⟩
            | false =>
              rw [if_neg Bool.false_ne_true]
              rw [if_neg Bool.false_ne_true] at e8
              have sAll : Same B7 B10 := s8.trans s10
              exact ⟨B10, ad10, { δ10 with sl := sl1 }, accD1, acc1, s7.trans sAll, p7.trans p10, back1 S10 sAll p10, Rps.mono sAll _ _ ra1, rfl, e8⟩
          · cases e8
        · have ej : j = it1.length := by omega
          subst ej
          rw [List.drop_length] at e8
          have hck := lcGo_ck e8
          rw [lcGo, if_pos hck] at e8
          cases e8
          exact .inl ⟨W1.stops H7 hGj, B7, ad7, _, _, acc1, (s2.trans sA).trans s7, (p2.trans pA).trans p7, back S7 (sA.trans s7) (pA.trans p7), ra1, rfl, e3⟩
      | false =>
        rw [if_neg Bool.false_ne_true]
        rw [if_neg Bool.false_ne_true] at e3
        have sAll : Same B2 B5 := s3.trans s5
        exact ⟨B5, ad5, { δ5 with sl := sl0 }, accD, acc, s2.trans sAll, p2.trans p5, back S5 sAll p5, Rps.mono sAll _ _ ra, rfl, e3⟩
    · cases e3
  · have ei : i = it.length := by omega
    subst ei
    rw [List.drop_length] at e3
    have hck := lcGo2_ck e3
    rw [lcGo2, if_pos hck] at e3
    cases e3
    refine .inl ⟨W.stops H2 hGi, ?_⟩
    refine SRep.takeF (m := m) (S1.reslot s2 p2 S2) hFD ra fun B' ad' v H' s3 p3 S3 r3 => ?_
    rw [e'] at S3 r3
    exact k B' ad' v H' ((s1.trans s2).trans s3) ((p1.trans p2).trans p3) S3 r3
theorem pd_lc2 (m : Bool) (tg tg1 : Tg) (hc : X.calm = true) (hN : X.N.Nodup) (hi : PDI X tgE iter fi) (ok : BlkOk X.N X.env.scope scope own) (hv : ∀ i ∈ vs1, i ∈ own.map (·.2)) (hown : ∀ i ∈ tgs tg, i ∈ own.map (·.2)) (hown1 : ∀ i ∈ tgs tg1, i ∈ vs1)
    (hg : ∀ (s : Shared) (H : Hp) (C : Addr) (cl : List (Str × Addr)) (fp : List Addr), PG (X.blk s H scope (compEnvC scope cl C X.env) fp) tgE (gTg X.K tg))
    (ht : ∀ (s : Shared) (H : Hp) (C : Addr) (cl : List (Str × Addr)) (fp : List Addr), PTs (X.blk s H scope (compEnvC scope cl C X.env) fp) ifs (tDT X.K X.mg test))
    (hi1 : ∀ (s : Shared) (H : Hp) (C : Addr) (cl : List (Str × Addr)) (fp : List Addr), PI (X.blk s H scope (compEnvC scope cl C X.env) fp) tgE1 iter1 (iD X.K X.mg fi1))
    (hg1 : ∀ (s : Shared) (H : Hp) (C : Addr) (cl : List (Str × Addr)) (fp : List Addr), PG (X.blk s H scope (compEnvC scope cl C X.env) fp) tgE1 (gTg X.K tg1))
    (ht1 : ∀ (s : Shared) (H : Hp) (C : Addr) (cl : List (Str × Addr)) (fp : List Addr), PTs (X.blk s H scope (compEnvC scope cl C X.env) fp) ifs1 (tDT X.K X.mg test1))
    (he : ∀ (s : Shared) (H : Hp) (C : Addr) (cl : List (Str × Addr)) (fp : List Addr), PE (X.blk s H scope (compEnvC scope cl C X.env) fp) elt (tD X.K X.mg fe)) (hs : ∀ x, foldedSetIterable iter X.env x = pure x := by intro _; rfl) (hs1 : ∀ env x, foldedSetIterable iter1 env x = pure x := by intro _ _; rfl) :
    PD X (.ListComp elt [⟨tgE, iter, ifs, 0⟩, ⟨tgE1, iter1, ifs1, 0⟩] scope pos) (dLc2 m fi tg (own.map (·.2)) test fi1 tg1 vs1 test1 fe) := PE.weak (pe_lc2 hc hN hi ok hv hg ht hi1 hg1 ht1 he hs hs1) fun σ H Q h => lc2_w hown hown1 h
theorem pds_setLc2 (m : Bool) (tg tg1 : Tg) {i : Nat} {y : Str} {py : Pos} (hc : X.calm = true) (hN : X.N.Nodup) (hi : PDI X tgE iter fi) (ok : BlkOk X.N X.env.scope scope own) (hv : ∀ i ∈ vs1, i ∈ own.map (·.2)) (hown : ∀ i ∈ tgs tg, i ∈ own.map (·.2)) (hown1 : ∀ i ∈ tgs tg1, i ∈ vs1)
    (hg : ∀ (s : Shared) (H : Hp) (C : Addr) (cl : List (Str × Addr)) (fp : List Addr), PG (X.blk s H scope (compEnvC scope cl C X.env) fp) tgE (gTg X.K tg))
    (ht : ∀ (s : Shared) (H : Hp) (C : Addr) (cl : List (Str × Addr)) (fp : List Addr), PTs (X.blk s H scope (compEnvC scope cl C X.env) fp) ifs (tDT X.K X.mg test))
    (hi1 : ∀ (s : Shared) (H : Hp) (C : Addr) (cl : List (Str × Addr)) (fp : List Addr), PI (X.blk s H scope (compEnvC scope cl C X.env) fp) tgE1 iter1 (iD X.K X.mg fi1))
    (hg1 : ∀ (s : Shared) (H : Hp) (C : Addr) (cl : List (Str × Addr)) (fp : List Addr), PG (X.blk s H scope (compEnvC scope cl C X.env) fp) tgE1 (gTg X.K tg1))
    (ht1 : ∀ (s : Shared) (H : Hp) (C : Addr) (cl : List (Str × Addr)) (fp : List Addr), PTs (X.blk s H scope (compEnvC scope cl C X.env) fp) ifs1 (tDT X.K X.mg test1))
    (he : ∀ (s : Shared) (H : Hp) (C : Addr) (cl : List (Str × Addr)) (fp : List Addr), PE (X.blk s H scope (compEnvC scope cl C X.env) fp) elt (tD X.K X.mg fe))
    (hy : X.N[i]? = some y) (hyl : X.env.scope.names.lookup y = some .local) (hsw : swapsWith (.ListComp elt [⟨tgE, iter, ifs, 0⟩, ⟨tgE1, iter1, ifs1, 0⟩] scope pos) (some (.Name y py)) spos.line X.env = pure true) (hs : ∀ x, foldedSetIterable iter X.env x = pure x := by intro _; rfl) (hs1 : ∀ env x, foldedSetIterable iter1 env x = pure x := by intro _ _; rfl) :
    PDS X (.Assign [.Name y py] (.ListComp elt [⟨tgE, iter, ifs, 0⟩, ⟨tgE1, iter1, ifs1, 0⟩] scope pos) spos) (sSet i (dLc2 m fi tg (own.map (·.2)) test fi1 tg1 vs1 test1 fe)) :=
  PS.weak (ps_setLc2 hc hN hy hyl hsw hi ok hv hg ht hi1 hg1 ht1 he hs hs1) fun D σ H h => by
    obtain ⟨B, F, ad, δ, r, δ', S, e, k⟩ := h
    unfold sSet at e
    obtain ⟨⟨x, δ1⟩, e1, e⟩ := Option.map_eq_some_iff.mp e
    cases e
    exact lc2_w hown hown1 ⟨B, F, ad, δ, x, δ1, S, e1, fun B1 ad1 v H1 q1 p1 S1 r1 => k B1 ad1 _ H1 q1 p1 (S1.setS r1)⟩
end
end PK

namespace PK
open PySem PySem.Spec PyProof.Rows L2
/-! ### reversed(range(n)), list(range(a, b)) -/
def iRevR1 (f : EF) : IF := fun δ => (f δ).bind fun p => match p.1 with
  | .fz (.int n) => if okR n then some ((rangeD 0 n.toNat).reverse, [], p.2) else none
  | _ => none
def dListR (m : Bool) (f g : EF) : EF := fun δ => (f δ).bind fun p => (g p.2).bind fun q => match p.1, q.1 with
  | .fz (.int i), .fz (.int j) => if okR i ∧ okR j ∧ (j - i).toNat ≤ small then some (mk m (rangeD i (j - i).toNat) q.2) else none
  | _, _ => none
theorem rev_get {n i : Nat} (h : i < n) : (rangeD 0 n).reverse[i]? = some (.int (0 + ((n : Nat) : Int) - 1 + (i : Nat) * (-1))) := by
  rw [List.getElem?_reverse (by rw [rangeD_len]; exact h), rangeD_len, rangeD_get (by omega)]
  congr 2
  omega
theorem rg_rps {K : PySem.W.Frag} {mg : Str → Option Value} {B : Hp} {i j : Int} : Rps K mg B (rangeD i (j - i).toNat) (rgV i j) := by
  unfold rangeD rgV
  generalize List.range (j - i).toNat = xs
  induction xs with
  | nil => exact rfl
  | cons x xs ih => exact ⟨_, _, rfl, rfl, ih⟩
section
variable {X : Cx} {tgE : Expr} {pos : Pos}
theorem pdi_revR {a : Expr} {f : EF} {p p2 pos2 : Pos} (hg : Gl X "reversed") (hm : X.mg "reversed" = none) (hg2 : Gl X "range") (hm2 : X.mg "range" = none) (ha : PD X a f) (na : starEach [a] X.env = (false, eval a X.env) :: starEach [] X.env := by rfl)
    (hs : starEach [.Call (.Name "range" p2) [a] [] pos2] X.env = (false, eval (.Call (.Name "range" p2) [a] [] pos2) X.env) :: starEach [] X.env := by rfl) :
    PDI X tgE (.Call (.Name "reversed" p) [.Call (.Name "range" p2) [a] [] pos2] [] pos) (iRevR1 f) := PI.weak (pi_revR hg hm (prg_1 hg2 hm2 ha na) hs) fun σ H R h => by
  obtain ⟨B, F, ad, δ, it, ck, δ', S, e, hck, k⟩ := h
  unfold iRevR1 at e
  obtain ⟨⟨r, δ1⟩, e1, e⟩ := Option.bind_eq_some_iff.mp e
  refine ⟨B, F, ad, δ, r, δ1, S, e1, fun B1 ad1 v H1 s1 p1 S1 r1 => ?_⟩
  cases r with
  | rf k => cases e
  | fz d =>
    cases d with
    | int n =>
      simp only at e
      split at e
      · rename_i ok
        cases e
        have r1' : v = .int n := r1
        subst r1'
        refine ⟨n, rfl, by omega, by omega, ok.1, ok.2, ?_⟩
        rw [Int.sub_zero]
        refine k B1 ad1 H1 (Itc (0 + ((n.toNat : Nat) : Int) - 1) (-1) n.toNat) (fun _ => True) (YFn fun i => .int (0 + ((n.toNat : Nat) : Int) - 1 + (i : Nat) * (-1))) s1 p1 S1 (by rw [List.length_reverse, rangeD_len]; exact walk_rangeC) (fun _ _ _ _ _ _ _ _ _ _ => trivial) ?_
        rintro i x B2 F2 ad2 σ2 δ2 H2 H3 s2 p2 S2 c hi ⟨rfl, rfl⟩
        rw [List.length_reverse, rangeD_len] at hi
        exact ⟨B2, Same.refl _, S2, _, rev_get hi, rfl⟩
      · cases e
    | _ => cases e
theorem pd_listR (m : Bool) {a b : Expr} {f g : EF} {p p2 pos2 : Pos} (hc : X.calm = true) (hg : Gl X "list") (hm : X.mg "list" = none) (hg2 : Gl X "range") (hm2 : X.mg "range" = none) (ha : PD X a f) (hb : PD X b g) (na : starEach [a, b] X.env = (false, eval a X.env) :: starEach [b] X.env := by rfl)
    (nb : starEach [b] X.env = (false, eval b X.env) :: starEach [] X.env := by rfl) (hp : (backTo pos2 (starEach [b] X.env)).any (·.1) = false := by rfl)
    (hs : starEach [.Call (.Name "range" p2) [a, b] [] pos2] X.env = (false, eval (.Call (.Name "range" p2) [a, b] [] pos2) X.env) :: starEach [] X.env := by rfl) :
    PD X (.Call (.Name "list" p) [.Call (.Name "range" p2) [a, b] [] pos2] [] pos) (dListR m f g) := PE.weak (pe_listRg hc hg hm (prg_2 hg2 hm2 ha hb na nb hp) hs) fun σ H Q h => by
  obtain ⟨B, F, ad, δ, r, δ', S, e, k⟩ := h
  unfold dListR at e
  obtain ⟨⟨x, δ1⟩, e1, e⟩ := Option.bind_eq_some_iff.mp e
  obtain ⟨⟨y, δ2⟩, e2, e⟩ := Option.bind_eq_some_iff.mp e
  refine ⟨B, F, ad, δ, x, δ1, S, e1, fun B1 ad1 v H1 s1 p1 S1 r1 => ?_⟩
  refine ⟨B1, F, ad1, δ1, y, δ2, S1, e2, fun B2 ad2 w H2 s2 p2 S2 r2 => ?_⟩
  simp only at e
  split at e
  · rename_i i j _e
    split at e
    · rename_i ok
      have e' := Option.some.inj e
      have r1' : v = .int i := r1
      have r2' : w = .int j := r2
      subst r1' r2'
      refine ⟨i, j, rfl, rfl, ⟨ok.1.1, ok.1.2, ok.2.1.1, ok.2.1.2, Nat.le_trans ok.2.2 (by decide)⟩, fun q hq => ?_⟩
      refine mk_ok (m := m) S2 hq rg_rps fun B' ad' v H' s3 p3 S' r' => ?_
      rw [e'] at S' r'
      exact k B' ad' v H' ((s1.trans s2).trans s3) ((p1.trans p2).trans p3) S' r'
    · cases e
  · cases e
end
end PK

set_option maxHeartbeats 2000000
namespace PK
open PySem PySem.Spec PyProof.Rows L2
open Sem (wp)
/-! ### a tuple times 0 or 1 -/
theorem tup_mul1 (l : Addr) (items : Array Value) (n : Nat) (dd : Option Addr) (sl : Array (Option Value)) (u : Tok) :
    Meets (Builtin.«tuple.__mul__» ⟨[.ref l, .int 1 u], []⟩) (fun _ R s => s.heap.get? l = some { cls := .type "tuple", dict := dd, data := .seq items n, slots := sl } ∧ R (.ok (.ret (Value.ref l))) s) :=
  .of_wp fun prog w A R s h => by
    obtain ⟨hp, g, d, tk, os⟩ := s
    obtain ⟨hl, h⟩ := h
    have f1 := AutoSeq1.idx_int
    have c0 : (decide ((1 : Int) < -(2 ^ 63)) || decide ((1 : Int) ≥ 2 ^ 63)) = false := by decide
    have c1 : (items.isEmpty || (1 : Int) == 1) = true := by rw [show ((1 : Int) == 1) = true from rfl, Bool.or_true]
    wp_walk using wpAny_loadPart' hl
    repeat (first
      | (refine wpAny_ite_false (decide_eq_false (by rw [c0]; exact Bool.false_ne_true)) ?_; wp_walk using wpAny_loadPart' hl)
      | (refine wpAny_ite_true (decide_eq_true (by rw [c1])) ?_; wp_walk using wpAny_loadPart' hl))
    exact ⟨_, rfl, h⟩
theorem tup_mul0 (l : Addr) (items : Array Value) (n : Nat) (dd : Option Addr) (sl : Array (Option Value)) (u : Tok) (hi : items.isEmpty = false) :
    Meets (Builtin.«tuple.__mul__» ⟨[.ref l, .int 0 u], []⟩) (fun _ R s => s.heap.get? l = some { cls := .type "tuple", dict := dd, data := .seq items n, slots := sl } ∧
      R (.ok (.ret (Value.ref s.heap.objs.size))) { s with heap := s.heap.push { cls := Value.type "tuple", data := Data.seq #[] }, toks := s.toks }) :=
  .of_wp fun prog w A R s h => by
    obtain ⟨hp, g, d, tk, os⟩ := s
    obtain ⟨hl, h⟩ := h
    have f1 := AutoSeq1.idx_int
    have c0 : (decide ((0 : Int) < -(2 ^ 63)) || decide ((0 : Int) ≥ 2 ^ 63)) = false := by decide
    have c1 : (items.isEmpty || (0 : Int) == 1) = false := by rw [hi]; rfl
    have c2 : (decide ((0 : Int) ≤ 0) || items.isEmpty) = true := by rw [decide_eq_true (by decide)]; rfl
    wp_walk using wpAny_loadPart' hl
    repeat (first
      | (refine wpAny_ite_false (decide_eq_false (by rw [c0]; exact Bool.false_ne_true)) ?_; wp_walk using wpAny_loadPart' hl)
      | (refine wpAny_ite_false (decide_eq_false (by rw [c1]; exact Bool.false_ne_true)) ?_; wp_walk using wpAny_loadPart' hl)
      | (refine wpAny_ite_true (decide_eq_true (by rw [c2])) ?_; wp_walk using wpAny_loadPart' hl))
    exact ⟨_, rfl, h⟩
def rRep01 (K : PySem.W.Frag) : R2 := fun x y H Q => ∃ l xs, x = .ref l ∧ SqT K H l xs ∧ xs ≠ [] ∧ ((y = .int 1 ∧ Q (.ref l) H) ∨ (y = .int 0 ∧ ∀ p, H p = none → Q (.ref p) (upd H p (.tup []))))
section
variable {X : Cx}
theorem op_rep01 : OpR X (binaryOp .Mult) (rRep01 X.K) := by
  intro pins s σ H x y v u Q I rx ry h
  obtain ⟨l, xs, rfl, hT, hne, q⟩ := h
  cases rx
  obtain ⟨its, r, ⟨⟨cls, dd, data, sl⟩, ho, hc, n, hd⟩, hs⟩ := I.tuple hT
  simp only at hc hd
  subst hc hd
  have hle : its.length = xs.length := r.length.symm
  have hn : its ≠ [] := fun e => hne (by
    rw [e] at hle
    exact List.eq_nil_of_length_eq_zero hle.symm)
  have hi : its.toArray.isEmpty = false := by
    cases its with
    | nil => exact absurd rfl hn
    | cons a b => rfl
  rcases q with ⟨rfl, q⟩ | ⟨rfl, q⟩
  · obtain ⟨t, rfl⟩ := ry
    refine wpAny_binaryOp_repeat_ref (T := "tuple") (U := "int") (by decide) ⟨_, ho, rfl⟩ (fun s' => typeIs_int s' 1 t) noFill_tuple_mul F.fills_int_mul F.slot_int_rmul repeat_tuple F.slot_int_index.lookup
      (call_meets F.slot_int_rmul (typeIs_int s 1 t) F.entry_int_rmul (F.args_int_rmul_2 _ _) (int_rmul_tuple 1 t l its.toArray n dd sl)
        ⟨ho, rfl, ⟨_, ho, rfl⟩, call_meets F.slot_tuple_mul ⟨_, ho, rfl⟩ F.entry_tuple_mul (F.args_tuple_mul_2 _ _) (tup_mul1 l its.toArray n dd sl t) ⟨ho, ?_⟩⟩)
    exact ⟨.ref l, H, I, rfl, q⟩
  · obtain ⟨t, rfl⟩ := ry
    refine wpAny_binaryOp_repeat_ref (T := "tuple") (U := "int") (by decide) ⟨_, ho, rfl⟩ (fun s' => typeIs_int s' 0 t) noFill_tuple_mul F.fills_int_mul F.slot_int_rmul repeat_tuple F.slot_int_index.lookup
      (call_meets F.slot_int_rmul (typeIs_int s 0 t) F.entry_int_rmul (F.args_int_rmul_2 _ _) (int_rmul_tuple 0 t l its.toArray n dd sl)
        ⟨ho, rfl, ⟨_, ho, rfl⟩, call_meets F.slot_tuple_mul ⟨_, ho, rfl⟩ F.entry_tuple_mul (F.args_tuple_mul_2 _ _) (tup_mul0 l its.toArray n dd sl t hi) ⟨ho, ?_⟩⟩)
    refine ⟨.ref s.heap.objs.size, _, I.laid (t' := s.toks) (o := .tup []) (fun b ob q => Heap.get?_push_of_some _ q) (Nat.le_refl _) ?_, rfl, q _ (I.hok.fresh (Nat.le_refl _))⟩
    exact ⟨Nat.zero_le _, [], .nil, IsTup.new _ _⟩
/-- as mulD, and a tuple times 0 or 1 -/
def mulTD (m : Bool) : OF := fun δ x y => match x, y with
  | .tup (a :: as), .int 0 => some (.fz (.tup []), δ)
  | .tup (a :: as), .int 1 => some (.fz (.tup (a :: as)), δ)
  | x, y => mulD m δ x y
theorem od_mulT (m : Bool) : OpR X (binaryOp .Mult) (rD X.K X.mg (mulTD m)) := by
  intro pins s σ H x y v u Q I rx ry h
  obtain ⟨B, F, ad, σ', δ, dx, dy, r, δ', S, vx, vy, e, k⟩ := h
  unfold mulTD at e
  split at e
  · rename_i a as
    cases e
    obtain ⟨p, xs, rfl, hp, r1⟩ := vx
    refine op_rep01 pins s σ H _ _ v u Q I rx ry ⟨p, xs, rfl, SqT.of (S.exB _ _ hp), ne_nil_of r1 (by simp), .inr ⟨vy, fun z hz => ?_⟩⟩
    exact tup_ok (ds := []) (xs := []) S hz rfl k
  · rename_i a as
    cases e
    obtain ⟨p, xs, rfl, hp, r1⟩ := vx
    exact op_rep01 pins s σ H _ _ v u Q I rx ry ⟨p, xs, rfl, SqT.of (S.exB _ _ hp), ne_nil_of r1 (by simp), .inl ⟨vy, k B ad _ H (Same.refl _) (Pre.refl _) S ⟨p, xs, rfl, hp, r1⟩⟩⟩
  · exact od_mul m pins s σ H x y v u Q I rx ry ⟨B, F, ad, σ', δ, dx, dy, r, δ', S, vx, vy, e, k⟩
end
end PK

namespace PK
open PySem PySem.Spec PyProof.Rows L2
/-! ### in a list of data of any depth -/
def inDD (neg : Bool) : OF := fun δ x y => match toPy x, y with
  | some d, .lst ds => match toPys ds with
    | some ps => if SeqAt.shaped d && SeqAt.shaped (.list ps) then some (.fz (.bl (if neg then !(ps.any fun z => PyData.eqv z d) else ps.any fun z => PyData.eqv z d)), δ) else none
    | none => none
  | _, _ => none
section
variable {X : Cx}
theorem od_inDD (hu : X.A.units + 65 < cLine) : OpR X (compareOp .In) (rD X.K X.mg (inDD false)) := by
  intro pins s σ H x y v u Q I rx ry h
  obtain ⟨B, F, ad, σ', δ, dx, dy, r, δ', S, vx, vy, e, k⟩ := h
  unfold inDD at e
  split at e
  · rename_i d ds h1
    split at e
    · rename_i ps h2
      split at e
      · rename_i hs
        rw [Bool.and_eq_true] at hs
        cases e
        exact op_inD hu pins s σ H x y v u Q I rx ry ⟨d, ps, dpw_of S.exB vx h1, dpw_of S.exB vy (by simp [toPy, h2]), hs.1, hs.2, here (d := .bl (ps.any fun z => PyData.eqv z d)) S rfl k⟩
      · cases e
    · cases e
  · cases e
theorem od_notInDD (hu : X.A.units + 65 < cLine) : OpR X (compareOp .NotIn) (rD X.K X.mg (inDD true)) := by
  intro pins s σ H x y v u Q I rx ry h
  obtain ⟨B, F, ad, σ', δ, dx, dy, r, δ', S, vx, vy, e, k⟩ := h
  unfold inDD at e
  split at e
  · rename_i d ds h1
    split at e
    · rename_i ps h2
      split at e
      · rename_i hs
        rw [Bool.and_eq_true] at hs
        cases e
        exact op_notInD hu pins s σ H x y v u Q I rx ry ⟨d, ps, dpw_of S.exB vx h1, dpw_of S.exB vy (by simp [toPy, h2]), hs.1, hs.2, here (d := .bl (!(ps.any fun z => PyData.eqv z d))) S rfl k⟩
      · cases e
    · cases e
  · cases e
theorem bo_inDD {n : Bool} : BoolOf (inDD n) := by
  intro δ x y r δ' e
  unfold inDD at e
  split at e
  · split at e
    · split at e
      · cases e; exact ⟨_, rfl⟩
      · cases e
    · cases e
  · cases e
theorem u65 {k : Nat} {A : Around} (hr : Room k A) : A.units + 65 < cLine := by
  have := hr.un
  omega
end
end PK

namespace PK
open PySem L2 PySem.Spec PyProof.Rows

/-! ### results with exceptions -/
inductive Fx where
  | ok (r : Fl) | ex (c : Str) (d : D)
inductive Rx where
  | ok (r : Res) | ex (c : Str) (d : D)
inductive Vx where
  | ok (r : Vl) | ex (c : Str) (d : D)
abbrev XF := Dl → Option (Fx × Dl)
abbrev EX := Dl → Option (Vx × Dl)
abbrev GX := List Vl → List (List D) → Option (Rx × List (List D))
/-- what is in the air: an exception of the class named c that was told d -/
def Fly (K : PySem.W.Frag) (mg : Str → Option Value) (B : Hp) (c : Str) (d : D) (cls : Value) (dd : Option Addr) : Prop :=
  ∃ (C a : Addr) (w : V), cls = .ref C ∧ dd = some a ∧ mg c = some (.ref C) ∧ B a = some (.xd [(("value" : Str), w)]) ∧ Rp K mg B d w
def FxOk (K : PySem.W.Frag) (mg : Str → Option Value) (B : Hp) (ad : List Addr) (D : Ends) (W : WX) (σ : L2.St) (H : Hp) : Fx → Prop
  | .ok fl => FlOk K mg B ad D σ H fl
  | .ex c d => ∀ cls dd, Fly K mg B c d cls dd → W cls dd σ H
def xD (K : PySem.W.Frag) (mg : Str → Option Value) (W : WX) (f : XF) : TS := fun D σ H => ∃ B F ad δ fx δ', SRep K mg B F ad σ δ H ∧ f δ = some (fx, δ') ∧
  ∀ B' ad' σ' H', Same B B' → Pre ad ad' → SRep K mg B' F ad' σ' δ' H' → FxOk K mg B' ad' D W σ' H' fx
def VxOk (K : PySem.W.Frag) (mg : Str → Option Value) (B : Hp) (ad : List Addr) (Q : VK) (W : WX) (σ : L2.St) (H : Hp) : Vx → Prop
  | .ok r => ∀ v, RpV K mg B ad r v → Q v H
  | .ex c d => ∀ cls dd, Fly K mg B c d cls dd → W cls dd σ H
def txD (K : PySem.W.Frag) (mg : Str → Option Value) (W : WX) (f : EX) : TE := fun σ H Q => ∃ B F ad δ r δ', SRep K mg B F ad σ δ H ∧ f δ = some (r, δ') ∧
  ∀ B' ad' H', Same B B' → Pre ad ad' → SRep K mg B' F ad' σ δ' H' → VxOk K mg B' ad' Q W σ H' r
abbrev PXS (X : Cx) (W : WX) (st : Stmt) (f : XF) := PS X st (xD X.K X.mg W f)
abbrev PXSs (X : Cx) (W : WX) (st : List Stmt) (f : XF) := PSs X st (xD X.K X.mg W f)
abbrev PX (X : Cx) (W : WX) (e : Expr) (f : EX) := PE X e (txD X.K X.mg W f)

def xOk (f : SF) : XF := fun δ => (f δ).map fun p => (.ok p.1, p.2)
def xSeq (f g : XF) : XF := fun δ => (f δ).bind fun p => match p.1 with
  | .ok .nx => g p.2
  | fx => some (fx, p.2)
def xIf (t : BF) (f g : XF) : XF := fun δ => (t δ).bind fun p => if p.1 then f p.2 else g p.2
def xDrop (f : EX) : XF := fun δ => (f δ).map fun p => match p.1 with
  | .ok _ => (.ok .nx, p.2)
  | .ex c d => (.ex c d, p.2)
def xRet (f : EX) : XF := fun δ => (f δ).map fun p => match p.1 with
  | .ok r => (.ok (.rt r), p.2)
  | .ex c d => (.ex c d, p.2)
def xSet (i : Nat) (f : EX) : XF := fun δ => (f δ).map fun p => match p.1 with
  | .ok r => (.ok .nx, { p.2 with sl := p.2.sl.set i (some r) })
  | .ex c d => (.ex c d, p.2)
def xRaise (c : Str) (f : EF) : XF := fun δ => (f δ).bind fun p => (frz p.2 p.1).map fun q => (.ex c q.1, q.2)
open Classical in
noncomputable def forX (ck : List (Nat × List D)) (tg : Tg) (body : XF) : List D → Dl → Option (Fx × Dl)
  | [], δ => if CkOk ck δ then some (.ok .nx, δ) else none
  | d :: ds, δ => if CkOk ck δ then (asgT δ tg d).bind fun δ1 => (body δ1).bind fun p => match p.1 with
      | .ok .nx => forX ck tg body ds p.2
      | .ok .ct => forX ck tg body ds p.2
      | .ok .bk => some (.ok .nx, p.2)
      | .ok (.rt r) => some (.ok (.rt r), p.2)
      | .ex c x => some (.ex c x, p.2)
    else none
noncomputable def xFor (fi : IF) (tg : Tg) (body : XF) : XF := fun δ => (fi δ).bind fun p => forX p.2.1 tg body p.1 p.2.2
theorem PS.nox {X : Cx} {st : Stmt} {t : TS} (h : PS X.nox st t) : PS X st t := ⟨fun pins s σ H D I hw =>
  wpAny_mono (h.run pins s σ H D (I.wish _) hw) (fun _ _ q => q.unwish) fun _ _ z => z.elim⟩
section
variable {X : Cx} {W : WX} {e c : Expr} {f : EX} {ft : BF} {st : Stmt} {rest s1 s2 : List Stmt} {g h : XF} {pos : Pos}
theorem px_ok {u : SF} (h1 : PDS X.nox st u) : PXS X W st (xOk u) := PS.weak (PS.nox h1) fun D σ H hh => by
  obtain ⟨B, F, ad, δ, r, δ', S, e, k⟩ := hh
  unfold xOk at e
  obtain ⟨⟨x, δ1⟩, e1, e2⟩ := Option.map_eq_some_iff.mp e
  cases e2
  exact ⟨B, F, ad, δ, x, _, S, e1, k⟩
theorem pxs_ok {u : SF} (h1 : PDSs X.nox rest u) : PXSs X W rest (xOk u) := PSs.weak h1.nox fun D σ H hh => by
  obtain ⟨B, F, ad, δ, r, δ', S, e, k⟩ := hh
  unfold xOk at e
  obtain ⟨⟨x, δ1⟩, e1, e2⟩ := Option.map_eq_some_iff.mp e
  cases e2
  exact ⟨B, F, ad, δ, x, _, S, e1, k⟩
theorem pxs_cons (h1 : PXS X W st g) (h2 : PXSs X W rest h) : PXSs X W (st :: rest) (xSeq g h) := PSs.weak (pss_cons h1 h2) fun D σ H hh => by
  obtain ⟨B, F, ad, δ, r, δ', S, e, k⟩ := hh
  unfold xSeq at e
  obtain ⟨⟨fx, δ1⟩, e1, e⟩ := Option.bind_eq_some_iff.mp e
  refine ⟨B, F, ad, δ, fx, δ1, S, e1, fun B1 ad1 σ1 H1 q1 p1 S1 => ?_⟩
  cases fx with
  | ex cc dd =>
    cases e
    exact k B1 ad1 σ1 H1 q1 p1 S1
  | ok fl =>
    cases fl with
    | nx => exact ⟨B1, F, ad1, δ1, r, δ', S1, e, fun B2 ad2 σ2 H2 q2 p2 S2 => k B2 ad2 σ2 H2 (q1.trans q2) (p1.trans p2) S2⟩
    | bk =>
      cases e
      exact k B1 ad1 σ1 H1 q1 p1 S1
    | ct =>
      cases e
      exact k B1 ad1 σ1 H1 q1 p1 S1
    | rt v =>
      cases e
      exact k B1 ad1 σ1 H1 q1 p1 S1
theorem pxs_one (h1 : PXS X W st g) : PXSs X W [st] g := pss_one h1
theorem px_if (ht : PDT X c ft) (h1 : PXSs X W s1 g) (h2 : PXSs X W s2 h) : PXS X W (.If c s1 s2 pos) (xIf ft g h) := PS.weak (ps_if ht h1 h2) fun D σ H hh => by
  obtain ⟨B, F, ad, δ, r, δ', S, e, k⟩ := hh
  unfold xIf at e
  obtain ⟨⟨x, δ1⟩, e1, e⟩ := Option.bind_eq_some_iff.mp e
  refine ⟨B, F, ad, δ, x, δ1, S, e1, fun B1 ad1 H1 q1 p1 S1 => ?_⟩
  cases x with
  | true =>
    rw [if_pos rfl]
    exact ⟨B1, F, ad1, δ1, r, δ', S1, e, fun B2 ad2 σ2 H2 q2 p2 S2 => k B2 ad2 σ2 H2 (q1.trans q2) (p1.trans p2) S2⟩
  | false =>
    rw [if_neg Bool.false_ne_true]
    exact ⟨B1, F, ad1, δ1, r, δ', S1, e, fun B2 ad2 σ2 H2 q2 p2 S2 => k B2 ad2 σ2 H2 (q1.trans q2) (p1.trans p2) S2⟩
theorem px_drop (he : PX X W e f) (hs : swapsWith e none pos.line X.env = pure false := by rfl) : PXS X W (.Expr e pos) (xDrop f) := PS.weak (ps_expr he hs) fun D σ H hh => by
  obtain ⟨B, F, ad, δ, r, δ', S, e, k⟩ := hh
  unfold xDrop at e
  obtain ⟨⟨x, δ1⟩, e1, e⟩ := Option.map_eq_some_iff.mp e
  refine ⟨B, F, ad, δ, x, δ1, S, e1, fun B1 ad1 H1 q1 p1 S1 => ?_⟩
  cases x with
  | ok v =>
    cases e
    exact fun v r1 => k B1 ad1 _ H1 q1 p1 S1
  | ex cc dd =>
    cases e
    exact k B1 ad1 _ H1 q1 p1 S1
theorem px_ret (he : PX X W e f) : PXS X W (.Return (some e) pos) (xRet f) := PS.weak (ps_ret he) fun D σ H hh => by
  obtain ⟨B, F, ad, δ, r, δ', S, e, k⟩ := hh
  unfold xRet at e
  obtain ⟨⟨x, δ1⟩, e1, e⟩ := Option.map_eq_some_iff.mp e
  refine ⟨B, F, ad, δ, x, δ1, S, e1, fun B1 ad1 H1 q1 p1 S1 => ?_⟩
  cases x with
  | ok v =>
    cases e
    exact k B1 ad1 _ H1 q1 p1 S1
  | ex cc dd =>
    cases e
    exact k B1 ad1 _ H1 q1 p1 S1
theorem px_set (i : Nat) {x : Str} {pos' : Pos} (he : PX X W e f) (hN : X.N.Nodup) (hi : X.N[i]? = some x := by rfl) (hx : Loc X.env.scope x := by first | exact Or.inl rfl | exact Or.inr rfl) (hs : swapsWith e (some (.Name x pos')) pos.line X.env = pure false := by rfl)
    (hf : X.fn x = true ∨ X.env.scope.names.lookup x = some .local := by first | exact .inl rfl | exact .inr rfl) : PXS X W (.Assign [.Name x pos'] e pos) (xSet i f) :=
  PS.weak (ps_set hN hi hx he hs hf) fun D σ H hh => by
  obtain ⟨B, F, ad, δ, r, δ', S, e, k⟩ := hh
  unfold xSet at e
  obtain ⟨⟨x, δ1⟩, e1, e⟩ := Option.map_eq_some_iff.mp e
  refine ⟨B, F, ad, δ, x, δ1, S, e1, fun B1 ad1 H1 q1 p1 S1 => ?_⟩
  cases x with
  | ok v =>
    cases e
    exact fun v r1 => k B1 ad1 _ H1 q1 p1 (S1.setS r1)
  | ex cc dd =>
    cases e
    exact k B1 ad1 _ H1 q1 p1 S1
theorem forX_ck {ck : List (Nat × List D)} {tg : Tg} {body : XF} {ds : List D} {δ : Dl} {r : Fx × Dl} (h : forX ck tg body ds δ = some r) : CkOk ck δ := by
  cases ds with
  | nil =>
    rw [forX] at h
    split at h
    · assumption
    · cases h
  | cons d ds =>
    rw [forX] at h
    split at h
    · assumption
    · cases h
theorem px_for {tgE iter : Expr} {body : List Stmt} {fi : IF} (tg : Tg) (hi : PDI X tgE iter fi) (hg : PG X tgE (gTg X.K tg)) (hb : PXSs X W body g) (hp : PassesOwn (model X.prog X.w) X.A X.env X.xe) (hc : X.calm = true)
    (hs : ∀ x, foldedSetIterable iter X.env x = pure x := by intro _; rfl) : PXS X W (.For tgE iter body [] pos) (xFor fi tg g) := PS.weak (ps_for hp hc hi hg hb hs) fun D σ H hh => by
  obtain ⟨B, F, ad, δ, r, δ', S, e, k⟩ := hh
  unfold xFor at e
  obtain ⟨⟨it, ck, δ1⟩, e1, e⟩ := Option.bind_eq_some_iff.mp e
  refine ⟨B, F, ad, δ, it, ck, δ1, S, e1, forX_ck e, fun B1 ad1 H1 J G Y s1 p1 S1 Wk hG hY => ?_⟩
  refine for_it Wk (fun i σ' H' => ∃ B2 ad2 δ2, Same B1 B2 ∧ Pre ad1 ad2 ∧ SRep X.K X.mg B2 F ad2 σ' δ2 H' ∧ forX ck tg g (it.drop i) δ2 = some (r, δ')) ⟨B1, ad1, δ1, Same.refl _, Pre.refl _, S1, e⟩ ?_ ?_ ?_
  · rintro i σ' H' hi ⟨B2, ad2, δ2, s2, p2, S2, e2⟩
    exact hG B2 F ad2 σ' δ2 H' s2 p2 S2 (forX_ck e2)
  · rintro i x σ' H2 H3 hi ⟨B2, ad2, δ2, s2, p2, S2, e2⟩ hy
    obtain ⟨B3, s3, S3, d, hd, rd⟩ := hY i x B2 F ad2 σ' δ2 H2 H3 s2 p2 S2 (forX_ck e2) hi hy
    have hdr : it.drop i = d :: it.drop (i + 1) := by
      obtain ⟨hl, he⟩ := List.getElem?_eq_some_iff.mp hd
      rw [List.drop_eq_getElem_cons hl, he]
    have hck2 := forX_ck e2
    rw [hdr, forX, if_pos hck2] at e2
    obtain ⟨δ4, e4, e3⟩ := Option.bind_eq_some_iff.mp e2
    obtain ⟨⟨fx, δ5⟩, e5, e3⟩ := Option.bind_eq_some_iff.mp e3
    refine tg_w S3 rd e4 fun vs S4 => ?_
    refine ⟨B3, F, ad2, δ4, fx, δ5, S4, e5, fun B5 ad5 σ5 H5 s5 p5 S5 => ?_⟩
    have sA := (s2.trans s3).trans s5
    cases fx with
    | ex cc dd =>
      cases e3
      exact k B5 ad5 σ5 H5 (s1.trans sA) (p1.trans (p2.trans p5)) S5
    | ok fl =>
      cases fl with
      | nx => exact ⟨B5, ad5, δ5, sA, p2.trans p5, S5, e3⟩
      | ct => exact ⟨B5, ad5, δ5, sA, p2.trans p5, S5, e3⟩
      | bk =>
        cases e3
        exact k B5 ad5 σ5 H5 (s1.trans sA) (p1.trans (p2.trans p5)) S5
      | rt v =>
        cases e3
        exact k B5 ad5 σ5 H5 (s1.trans sA) (p1.trans (p2.trans p5)) S5
  · rintro σ' H2 ⟨B2, ad2, δ2, s2, p2, S2, e2⟩
    rw [List.drop_length] at e2
    have hck := forX_ck e2
    rw [forX, if_pos hck] at e2
    cases e2
    exact k B2 ad2 σ' H2 (s1.trans s2) (p1.trans p2) S2
end

/-! ### an exception is made -/
/-- the facts of a class whose instances are raised: C over fI, the __init__ of the class above -/
structure ExR (K : PySem.W.Frag) (mg : Str → Option Value) (c : Str) (C fI : Addr) : Prop where
  g : mg c = some (.ref C)
  ox : OexC K C
  noN : PySem.W.findIn K (.ref C) "value" = some none
  iC : PySem.W.findIn K (.ref C) "__init__" = some (some (.ref fI))
  tI : PySem.W.typeIn K (.ref fI) = some (.type "function")
def spLift (K : PySem.W.Frag) : Sp := fun vs H Q _ => ∃ (a C : Addr) (v : V), vs = [.ref a, v] ∧ OexC K C ∧ PySem.W.findIn K (.ref C) "value" = some none ∧ H a = some (exo a C none) ∧
  ∀ dx, H dx = none → dx ≠ a → Q .non (upd (upd H dx (exd dx [(("value" : Str), v)])) a (exo a C (some dx)))
theorem raise_heap {H : Hp} {a C d : Addr} {v : V} {o : HO} {fs : List (Str × V)} (ha : H a = none) (hne : d ≠ a) : upd (L2.del (upd (upd (upd H a o) d (exd d fs)) a (exo a C (some d))) a) d (.xd fs) = upd H d (.xd fs) := by
  funext b
  by_cases h1 : b = d
  · subst h1
    rw [upd_same, upd_same]
  · rw [upd_ne h1, upd_ne h1]
    by_cases h2 : b = a
    · subst h2
      rw [del_same, ha]
    · rw [del_ne h2, upd_ne h2, upd_ne h1, upd_ne h2]
section
variable {X : Cx} {W : WX} {e : Expr} {f : EF} {pos p pos2 : Pos} {c : Str} {C fI : Addr}
theorem px_raise {k : Nat} {fd : FuncData} (hc : X.calm = true) (tk : Takes X W) (T : ExR X.K X.mg c C fI) (F1 : FnOk X.prog X.w X.K X.mg X.base CX0 k fI fd ["self", "value"] (spLift X.K)) (hr : Room (k + 1) X.A) (hb : Binds X.K fd ["self", "value"] [])
    (hg : Gl X c) (he : PD X e f) (hdb : (c == ("__debug__" : Str)) = false := by decide) (hst : starEach [e] X.env = (false, eval e X.env) :: starEach [] X.env := by rfl) (hpl : (backTo pos (starEach [] X.env)).any (·.1) = false := by rfl) :
    PXS X W (.Raise (some (.Call (.Name c p) [e] [] pos)) none pos2) (xRaise c f) :=
  PS.weak (ps_raise hc tk (pmk_oex T.ox T.iC T.tI F1 hr hb .nil pass0 hg T.g (pa_cons he pa_nil hst) hdb hst hpl)) fun D σ H hh => by
    obtain ⟨B, F, ad, δ, r, δ', S, e, k⟩ := hh
    unfold xRaise at e
    obtain ⟨⟨x, δ1⟩, e1, e⟩ := Option.bind_eq_some_iff.mp e
    obtain ⟨⟨d, δ2⟩, e2, e⟩ := Option.map_eq_some_iff.mp e
    cases e
    refine ⟨B, F, ad, δ, x, δ1, S, e1, fun B1 ad1 v H1 s1 p1 S1 r1 => ⟨by simp, fun a ha => ?_⟩⟩
    obtain ⟨B2, s2, S2, r2⟩ := S1.frz r1 e2
    refine ⟨a, C, v, rfl, T.ox, T.noN, upd_same, fun dx hd hne => ⟨rfl, dx, [(("value" : Str), v)], upd_same, ?_, ?_, ?_⟩⟩
    · rw [upd_ne hne, upd_same]
    · rw [upd_ne hne] at hd; exact hd
    · rw [upd_ne hne] at hd
      rw [raise_heap ha hne (v := v)]
      have s3 : Same B2 (upd B2 dx (.xd [(("value" : Str), v)])) := same_new (S2.exB.free hd)
      exact k _ ad1 σ _ ((s1.trans s2).trans s3) p1 (S2.alloc hd) _ _ ⟨C, dx, v, rfl, rfl, T.g, upd_same, Rp.mono s3 _ _ r2⟩
end
section
variable {P : Program} {w : World} {K : PySem.W.Frag} {mg : Str → Option Value} {base : Heap}
/-- an __init__ that hands its one argument to ValueError's, and keeps it -/
def tLift (K : PySem.W.Frag) : TS := tSeq (tDrop (tVeI K (tCons (tVar 0) (tCons (tVar 1) tNil)))) (tOst K "value" (tVar 0) (tVar 1))
theorem lift_ok {qual : Str} {st : Stmt} {f : Addr} {fd : FuncData} (F : Fun K "__init__" qual st f fd) (S : FnScope ["self", "value"] ["self", "value"] (defScope st))
    (hbody : ∀ (cdv : Value) (A : Around) (outer : List Env) (s : Shared) (H : Hp) (E : XK), PSs (cxOf CX0 P w K mg base ["self", "value"] qual (defScope st) f cdv A outer s H E).nox (defBody st) (tLift K)) :
    FnOk P w K mg base CX0 1 f fd ["self", "value"] (spLift K) := by
  refine F.ok S (fun vs H Q E h => ?_) (fun cdv A outer s H vs Q E hr h => ⟨_, hbody cdv A outer s H E, ?_⟩)
  · obtain ⟨a, C, v, rfl, _⟩ := h
    rfl
  · obtain ⟨a, C, v, rfl, T, noN, ha, k⟩ := h
    refine ⟨_, rfl, _, rfl, a, C, [v], rfl, by simp, T, ha, ?_⟩
    exact ⟨_, rfl, _, rfl, a, C, rfl, T, noN, .inl ⟨ha, fun dx hd hne => k dx hd hne⟩⟩
end
end PK

namespace PK
open PySem L2 PySem.Spec PyProof.Rows

/-! ### defs that may raise -/
def okG (G : GX) : GF := fun rs cs => match G rs cs with
  | some (.ok r, cs') => some (r, cs')
  | _ => none
def spDX (K : PySem.W.Frag) (mg : Str → Option Value) (n : Nat) (G : GX) : Sp := fun vs H Q E => vs.length = n ∧ ∃ B F ad rs cs r cs', SRep K mg B F ad [] ⟨[], cs.map some⟩ H ∧ RpVs K mg B ad rs vs ∧ G rs cs = some (r, cs') ∧ cs'.length = cs.length ∧
  match r with
  | .ok r => ∀ B' v H', Same B B' → ResOk K mg B' F ad cs' H' v r → Q v H'
  | .ex c d => ∀ B' H' cls dd, Same B B' → SRep K mg B' F ad [] ⟨[], cs'.map some⟩ H' → Fly K mg B' c d cls dd → E cls dd H'
section
variable {K : PySem.W.Frag} {mg : Str → Option Value} {B B' F : Hp} {ad ad' : List Addr} {σ : L2.St} {δ δ' : Dl} {H H' : Hp}
theorem spDX_ok {n : Nat} {G : GX} {vs : List V} {Q : VK} {E : XK} (h : spD K mg n (okG G) vs H Q E) {E' : XK} : spDX K mg n G vs H Q E' := by
  obtain ⟨hn, B, F, ad, rs, cs, r, cs', S, rv, e, hl, k⟩ := h
  unfold okG at e
  split at e
  · rename_i r' cs2 e2
    cases e
    exact ⟨hn, B, F, ad, rs, cs, .ok r, cs', S, rv, e2, hl, k⟩
  · cases e
noncomputable def callX (m : Bool) (G : GX) (rs : List Vl) (δ : Dl) : Option (Vx × Dl) := match callG m (okG G) rs δ with
  | some (r, δ') => some (.ok r, δ')
  | none => if (refs rs).Nodup then (lives δ (refs rs)).bind fun cs => match G (renum 0 rs) cs with
      | some (.ex c d, cs') => if cs'.length = cs.length then some (.ex c d, { δ with st := putAll δ.st (refs rs) cs' }) else none
      | _ => none
    else none
theorem call_wX {m : Bool} {G : GX} {rs : List Vl} {vs : List V} {r : Vx} {n : Nat} {Q : VK} {W : WX} (S : SRep K mg B F ad σ δ H) (hv : RpVs K mg B ad rs vs) (hn : vs.length = n) (e : callX m G rs δ = some (r, δ'))
    (k : ∀ B' ad' H', Same B B' → Pre ad ad' → SRep K mg B' F ad' σ δ' H' → VxOk K mg B' ad' Q W σ H' r) : spDX K mg n G vs H Q (WE W σ) := by
  unfold callX at e
  split at e
  · rename_i r0 δ0 e0
    cases e
    exact spDX_ok (E := E0) (call_w S hv hn e0 fun B1 ad1 v H1 s1 p1 S1 r1 => k B1 ad1 H1 s1 p1 S1 v r1)
  · split at e
    · rename_i hnd
      obtain ⟨cs, e1, e⟩ := Option.bind_eq_some_iff.mp e
      split at e
      · rename_i c d cs' e2
        split at e
        · rename_i hl
          cases e
          have hlt := S.live_lt e1
          refine ⟨hn, B, frameOf F ad δ (refs rs) H, addrs ad (refs rs), renum 0 rs, cs, .ex c d, cs', S.down e1 hnd, renum_ok (ks := []) (by simpa using hlt) hv, e2, hl, ?_⟩
          intro B1 H1 cls dd sB S1 fly
          have S2 := S.up (m := []) (ms := []) e1 hnd hl sB (by simpa using S1)
          simp only [List.append_nil, List.map_nil] at S2
          exact k B1 ad H1 sB (Pre.refl _) S2 cls dd fly
        · cases e
      · cases e
    · cases e
end
section
variable {P : Program} {w : World} {K : PySem.W.Frag} {mg : Str → Option Value} {base : Heap}
/-- where nothing is raised -/
theorem calmX {k n : Nat} {f : Addr} {fd : FuncData} {ps : List Str} {G : GX} (F : FnOk P w K mg base (L2.CX P w) k f fd ps (spDX K mg n G)) : FnOk P w K mg base CX0 k f fd ps (spD K mg n (okG G)) :=
  ⟨fun vs H Q E h => F.len vs H Q E (spDX_ok h), fun A outer s H args us vs Q E hr he hb hv h =>
    codeAny_mono (F.run A outer s H args us vs Q (fun _ _ _ => False) hr he hb hv (spDX_ok h)) fun r s' hq => by
      cases r with
      | ok fl =>
        cases fl with
        | ret u => exact hq
        | next => exact hq
        | brk => exact hq
        | cont => exact hq
      | error e =>
        obtain ⟨_, _, _, _, _, _, _, _, _, _, _, _, z⟩ := hq
        exact z.elim⟩
def fnX (n : Nat) (f : XF) : GX := fun rs cs => (f ⟨rs.map some ++ List.replicate (n - rs.length) none, cs.map some⟩).bind fun p => (lives p.2 (List.range cs.length)).bind fun cs' => match p.1 with
  | .ok (.rt (.fz d)) => some (.ok (.val d), cs')
  | .ok (.rt (.rf k)) => if cs.length ≤ k then match p.2.st[k]? with
      | some (some es) => some (.ok (.fresh es), cs')
      | _ => none
    else none
  | .ok .nx => some (.ok (.val .non), cs')
  | .ok _ => none
  | .ex c d => some (.ex c d, cs')
theorem fn_okX {x qual : Str} {st : Stmt} {f : Addr} {fd : FuncData} {N ps : List Str} {k : Nat} {fs : XF} (F : Fun K x qual st f fd) (S : FnScope N ps (defScope st))
    (hbody : ∀ (cdv : Value) (A : Around) (outer : List Env) (s : Shared) (H : Hp) (E : XK), Room k (A.deeper (envOfC qual (defScope st) s.heap.objs.size f cdv)) →
      Takes (cxOf (L2.CX P w) P w K mg base N qual (defScope st) f cdv A outer s H E) (fun cls d _ H => E cls d H) →
      PXSs (cxOf (L2.CX P w) P w K mg base N qual (defScope st) f cdv A outer s H E) (fun cls d _ H => E cls d H) (defBody st) fs) :
    FnOk P w K mg base (L2.CX P w) (k + 1) f fd ps (spDX K mg ps.length (fnX N.length fs)) := by
  refine F.okX S (fun vs H Q E h => h.1) (fun cdv A outer s H vs Q E hr h => ?_)
  refine ⟨_, hbody cdv A outer s H E hr (takes_of rfl rfl rfl rfl), ?_⟩
  obtain ⟨hlen, B, Fr, ad, rs, cs, r, cs', S0, rv, e, hl, kk⟩ := h
  unfold fnX at e
  obtain ⟨⟨fx, δ'⟩, e1, e⟩ := Option.bind_eq_some_iff.mp e
  obtain ⟨cs2, e2, e⟩ := Option.bind_eq_some_iff.mp e
  have S1 : SRep K mg B Fr ad (start N vs) ⟨rs.map some ++ List.replicate (N.length - rs.length) none, cs.map some⟩ H := rps_start (δ := ⟨[], cs.map some⟩) S0 rv
  have hadl : ad.length = cs.length := by
    have := S0.len
    simpa using this
  refine ⟨B, Fr, ad, _, fx, δ', S1, e1, fun B' ad' σ' H' sB pA S' => ?_⟩
  obtain ⟨m, rfl⟩ := pA
  have base : SRep K mg B' Fr ad [] ⟨[], cs2.map some⟩ H' := by
    have := S'.pick e2 List.nodup_range
    rw [← hadl, addrs_range] at this
    exact this
  cases fx with
  | ex c d =>
    cases e
    exact fun cls dd fly => kk B' H' cls dd sB base fly
  | ok fl =>
    cases fl with
    | nx =>
      cases e
      exact kk B' .non H' sB ⟨base, rfl⟩
    | bk => cases e
    | ct => cases e
    | rt v =>
      intro u hu
      cases v with
      | fz d =>
        cases e
        exact kk B' u H' sB ⟨base, hu⟩
      | rf j =>
        simp only at e
        split at e
        · rename_i hj
          split at e
          · rename_i es hes
            cases e
            obtain ⟨a, rfl, ha⟩ := hu
            refine kk B' _ H' sB ⟨a, rfl, ?_⟩
            have hnd : (List.range cs.length ++ [j]).Nodup := by
              rw [List.nodup_append]
              refine ⟨List.nodup_range, by simp, fun x hx y hy => ?_⟩
              have hy' : y = j := by simpa using hy
              have hx' : x < cs.length := by simpa using hx
              omega
            have := S'.pick (lives_app e2 hes) hnd
            rw [addrs_app _ _ _ _ ha, ← hadl, addrs_range] at this
            exact this
          · cases e
        · cases e
end

/-! ### calls that may raise -/
section
variable {X : Cx} {W : WX} {x : Str} {p pos apos : Pos} {e o : Expr} {es : List Expr} {kws : List Keyword} {fa fk : AF} {fo : EF} {c m : Str} {C : Addr} {k n np nk : Nat} {f : Addr} {fd : FuncData} {ps ks : List Str} {ix : List Nat} {G : GX}
/-- what a raising callee leaves -/
theorem leftX {pins : List (Addr × Obj)} {σ : L2.St} {H : Hp} {s s' : Shared} {Q : VK} {r : Result} (tk : Takes X W) (I : Inv X pins σ H s) (hq : CR (L2.CX X.prog X.w) X.stack X.prog X.w H s Q (WE W σ) r s') :
    match r with | .ok (.ret u) => EP X pins σ Q u s' | .ok _ => False | .error u => X.xe u s' := by
  cases r with
  | error u => exact passAt tk σ pins H s u s' I hq
  | ok fl =>
    cases fl with
    | ret u => exact I.after hq
    | next => exact hq
    | brk => exact hq
    | cont => exact hq
theorem runXK {pins : List (Addr × Obj)} {σ : L2.St} {H : Hp} {s : Shared} {Q : VK} {pa : List Value} {kw : List (Str × Value)} {us : List Value} {vs : List V} {sp : Sp} (F : FnOk X.prog X.w X.K X.mg X.base (L2.CX X.prog X.w) k f fd ps sp) (hr : Room k X.A)
    (b : BindsTo s fd ⟨pa, kw⟩ (ps.zip us)) (tk : Takes X W) (I : Inv X pins σ H s) (r : Vals vs us) (h : sp vs H Q (WE W σ)) : wpAny (model X.prog X.w) X.A (call (.ref f) pa kw) (EP X pins σ Q) X.xe s :=
  wpAny_call (codeAny_mono (F.run X.A X.stack s H ⟨pa, kw⟩ us vs Q (WE W σ) hr I.env0 b r h) fun rr s' hq => by
    have z := leftX tk I hq
    cases rr with
    | error u => exact z
    | ok fl =>
      cases fl with
      | ret u => exact z
      | next => exact z.elim
      | brk => exact z.elim
      | cont => exact z.elim)
noncomputable def xCallN (m : Bool) (n : Nat) (G : GX) (fa : AF) : EX := fun δ => (fa δ).bind fun p => if p.1.length = n then callX m G p.1 p.2 else none
theorem px_call (mm : Bool) (tk : Takes X W) (Fk : FnOk X.prog X.w X.K X.mg X.base (L2.CX X.prog X.w) k f fd ps (spDX X.K X.mg n G)) (hr : Room k X.A) (hg : Gl X x) (hm : X.mg x = some (.ref f)) (hk : PySem.W.keepIn X.K (.ref f) = true)
    (hb : Binds X.K fd ps []) (ha : PDA X (e :: es) fa) (hdb : (x == ("__debug__" : Str)) = false := by decide) (he : starEach (e :: es) X.env = (false, eval e X.env) :: starEach es X.env := by rfl)
    (hpl : (backTo pos (starEach es X.env)).any (·.1) = false := by rfl) : PX X W (.Call (.Name x p) (e :: es) [] pos) (xCallN mm n G fa) :=
  PE.weak (pe_callS Fk hr hg hm hk hb (fun σ => passAt tk σ) ha hdb he hpl) fun σ H Q hh => by
    obtain ⟨B, F, ad, δ, r, δ', S, e, kk⟩ := hh
    unfold xCallN at e
    obtain ⟨⟨rs, δ1⟩, e1, e⟩ := Option.bind_eq_some_iff.mp e
    split at e
    · rename_i hl
      refine ⟨B, F, ad, δ, rs, δ1, S, e1, fun B1 ad1 vs H1 s1 p1 S1 r1 => ?_⟩
      exact call_wX S1 r1 (by rw [r1.length]; exact hl) e fun B' ad' H' s2 p2 S' => kk B' ad' H' (s1.trans s2) (p1.trans p2) S'
    · cases e
noncomputable def xCallK (m : Bool) (n np nk : Nat) (ix : List Nat) (G : GX) (fa fk : AF) : EX := fun δ => (fa δ).bind fun p => (fk p.2).bind fun q =>
  if p.1.length = np ∧ q.1.length = nk ∧ (pick ix (p.1 ++ q.1)).length = n then callX m G (pick ix (p.1 ++ q.1)) q.2 else none
/-- f(k = v, ..), at the slots -/
theorem pe_callX0 {sp : Sp} {g : List Value → List Value → List Value} {gV : List V → List V → List V} {tz : TA} (tk : Takes X W) (Fk : FnOk X.prog X.w X.K X.mg X.base (L2.CX X.prog X.w) k f fd ps sp) (hr : Room k X.A) (hg : Gl X x) (hm : X.mg x = some (.ref f)) (hk : PySem.W.keepIn X.K (.ref f) = true)
    (hb : KBn X.K fd ps 0 ks g gV) (ha : L2.PK X kws tz) (hall : (backToKw pos (keywordEach kws X.env)).all (·.1.isSome) = true) (hks : (backToKw pos (keywordEach kws X.env)).filterMap (·.1) = ks) (hdb : (x == ("__debug__" : Str)) = false)
    (hpl : ((backTo pos (starEach [] X.env)).any (·.1) || (backToKw pos (keywordEach kws X.env)).any (·.1.isNone)) = false) :
    PE X (.Call (.Name x p) [] kws pos) (fun σ H Q => tz σ H fun zs H2 => zs.length = ks.length ∧ sp (gV [] zs) H2 Q (WE W σ)) := ⟨fun pins s σ H Q I h => by
  refine wpAny_Call_Name_kw (ld_glob I hg hm (PySem.W.callWith_KW0 (first := []) (h₀ := X.base) I.ok.mod.kin hk hall ?_ hpl) hdb)
  refine thn (ha.run pos pins s σ H _ I h) fun ws s2 hz => ?_
  obtain ⟨zs, H2, I2, rz, l2, q2⟩ := hz
  refine ⟨I2.kIn, ?_⟩
  rw [hks]
  exact runXK Fk hr (hb.to s2 [] ws I2.kIn rfl (rz.length.symm.trans l2)) tk I2 (hb.rel .nil rz) q2⟩
theorem px_callK0 (mm : Bool) (tk : Takes X W) (Fk : FnOk X.prog X.w X.K X.mg X.base (L2.CX X.prog X.w) k f fd ps (spDX X.K X.mg n G)) (hr : Room k X.A) (hg : Gl X x) (hm : X.mg x = some (.ref f)) (hk : PySem.W.keepIn X.K (.ref f) = true)
    (hb : KBn X.K fd ps 0 ks (pk2 ix) (pk2 ix)) (hl : ks.length = nk) (ha : PDK X kws fk) (hall : (backToKw pos (keywordEach kws X.env)).all (·.1.isSome) = true := by rfl) (hks : (backToKw pos (keywordEach kws X.env)).filterMap (·.1) = ks := by rfl)
    (hdb : (x == ("__debug__" : Str)) = false := by decide)
    (hpl : ((backTo pos (starEach [] X.env)).any (·.1) || (backToKw pos (keywordEach kws X.env)).any (·.1.isNone)) = false := by rfl) :
    PX X W (.Call (.Name x p) [] kws pos) (xCallK mm n 0 nk ix G aNil fk) := PE.weak (pe_callX0 tk Fk hr hg hm hk hb ha hall hks hdb hpl) fun σ H Q hh => by
  obtain ⟨B, F, ad, δ, r, δ', S, e, kk⟩ := hh
  unfold xCallK at e
  obtain ⟨⟨rs, δ1⟩, e1, e⟩ := Option.bind_eq_some_iff.mp e
  unfold aNil at e1
  cases e1
  obtain ⟨⟨ss, δ2⟩, e2, e⟩ := Option.bind_eq_some_iff.mp e
  split at e
  · rename_i hl2
    obtain ⟨h0, h1, h2⟩ := hl2
    refine ⟨B, F, ad, δ, ss, δ2, S, e2, fun B1 ad1 vs H1 s1 p1 S1 r1 => ?_⟩
    have hlen := r1.length
    refine ⟨by rw [hlen]; exact h1.trans hl.symm, ?_⟩
    have rr : RpVs X.K X.mg B1 ad1 (pick ix ([] ++ ss)) (pick ix ([] ++ vs)) := pick_rpvs (by simpa using r1) ix
    exact call_wX S1 rr (by rw [rr.length]; exact h2) e fun B' ad' H' s2 p2 S' => kk B' ad' H' (s1.trans s2) (p1.trans p2) S'
  · cases e
/-- f(e, .., k = v, ..), at the slots -/
theorem pe_callXN {sp : Sp} {g : List Value → List Value → List Value} {gV : List V → List V → List V} {ta tz : TA} (tk : Takes X W) (Fk : FnOk X.prog X.w X.K X.mg X.base (L2.CX X.prog X.w) k f fd ps sp) (hr : Room k X.A) (hg : Gl X x) (hm : X.mg x = some (.ref f)) (hk : PySem.W.keepIn X.K (.ref f) = true)
    (hb : KBn X.K fd ps np ks g gV) (hp : PA X (e :: es) ta) (ha : L2.PK X kws tz) (hall : (backToKw pos (keywordEach kws X.env)).all (·.1.isSome) = true) (hks : (backToKw pos (keywordEach kws X.env)).filterMap (·.1) = ks) (hdb : (x == ("__debug__" : Str)) = false)
    (he : starEach (e :: es) X.env = (false, eval e X.env) :: starEach es X.env) (hpl : ((backTo pos (starEach (e :: es) X.env)).any (·.1) || (backToKw pos (keywordEach kws X.env)).any (·.1.isNone)) = false) :
    PE X (.Call (.Name x p) (e :: es) kws pos) (fun σ H Q => ta σ H fun vs H1 => tz σ H1 fun zs H2 => vs.length = np ∧ zs.length = ks.length ∧ sp (gV vs zs) H2 Q (WE W σ)) := ⟨fun pins s σ H Q I h => by
  refine wpAny_Call_Name_kw (ld_glob I hg hm ?_ hdb)
  refine PySem.W.callWith_KW (h₀ := X.base) I.ok.mod.kin hk hall (thn (hp.run pos pins s σ H _ I h) fun us s1 hv => ?_) hpl he
  obtain ⟨vs, H1, I1, rv, q1⟩ := hv
  refine thn (ha.run pos pins s1 σ H1 _ I1 q1) fun ws s2 hz => ?_
  obtain ⟨zs, H2, I2, rz, l1, l2, q2⟩ := hz
  refine ⟨I2.kIn, ?_⟩
  rw [hks]
  exact runXK Fk hr (hb.to s2 us ws I2.kIn (rv.length.symm.trans l1) (rz.length.symm.trans l2)) tk I2 (hb.rel rv rz) q2⟩
theorem px_callKN (mm : Bool) (tk : Takes X W) (Fk : FnOk X.prog X.w X.K X.mg X.base (L2.CX X.prog X.w) k f fd ps (spDX X.K X.mg n G)) (hr : Room k X.A) (hg : Gl X x) (hm : X.mg x = some (.ref f)) (hk : PySem.W.keepIn X.K (.ref f) = true)
    (hb : KBn X.K fd ps np ks (pk2 ix) (pk2 ix)) (hl : ks.length = nk) (ha : PDA X (e :: es) fa) (hkw : PDK X kws fk) (hall : (backToKw pos (keywordEach kws X.env)).all (·.1.isSome) = true := by rfl) (hks : (backToKw pos (keywordEach kws X.env)).filterMap (·.1) = ks := by rfl)
    (hdb : (x == ("__debug__" : Str)) = false := by decide) (he : starEach (e :: es) X.env = (false, eval e X.env) :: starEach es X.env := by rfl)
    (hpl : ((backTo pos (starEach (e :: es) X.env)).any (·.1) || (backToKw pos (keywordEach kws X.env)).any (·.1.isNone)) = false := by rfl) :
    PX X W (.Call (.Name x p) (e :: es) kws pos) (xCallK mm n np nk ix G fa fk) := PE.weak (pe_callXN tk Fk hr hg hm hk hb ha hkw hall hks hdb he hpl) fun σ H Q hh => by
  obtain ⟨B, F, ad, δ, r, δ', S, e, kk⟩ := hh
  unfold xCallK at e
  obtain ⟨⟨rs, δ1⟩, e1, e⟩ := Option.bind_eq_some_iff.mp e
  obtain ⟨⟨ss, δ2⟩, e2, e⟩ := Option.bind_eq_some_iff.mp e
  split at e
  · rename_i hl2
    obtain ⟨h0, h1, h2⟩ := hl2
    refine ⟨B, F, ad, δ, rs, δ1, S, e1, fun B1 ad1 vs H1 s1 p1 S1 r1 => ?_⟩
    refine ⟨B1, F, ad1, δ1, ss, δ2, S1, e2, fun B2 ad2 ws H2 s2 p2 S2 r2 => ?_⟩
    refine ⟨by rw [r1.length]; exact h0, by rw [r2.length]; exact h1.trans hl.symm, ?_⟩
    have rr : RpVs X.K X.mg B2 ad2 (pick ix (rs ++ ss)) (pick ix (vs ++ ws)) := pick_rpvs (rpvs_app (r1.mono s2 p2) r2) ix
    exact call_wX S2 rr (by rw [rr.length]; exact h2) e fun B' ad' H' s3 p3 S' => kk B' ad' H' ((s1.trans s2).trans s3) ((p1.trans p2).trans p3) S'
  · cases e
/-! o.m(..) -/
noncomputable def xMeth (mm : Bool) (c m : Str) (n : Nat) (G : GX) (fo : EF) (fa : AF) : EX := fun δ => (fo δ).bind fun p => if recvOk c m p.1 then (fa p.2).bind fun q => if (p.1 :: q.1).length = n then callX mm G (p.1 :: q.1) q.2 else none else none
/-- what an own method asks, at the slots -/
def tMethX (C : Addr) (m : Str) (l : Nat) (W : WX) (sp : Sp) (gV : List V → List V → List V) (ta : TE) (tz : TA) : TE := fun σ H Q => ta σ H fun x H1 => ∃ a dx fs, x = .ref a ∧ H1 a = some (.ins C dx fs) ∧ fs.lookup m = none ∧ tz σ H1 fun zs H2 => zs.length = l ∧ sp (gV [.ref a] zs) H2 Q (WE W σ)
theorem pe_methXK {pl : Sem Bool} {sp : Sp} {g : List Value → List Value → List Value} {gV : List V → List V → List V} {ta : TE} {tz : TA} (tk : Takes X W) (ho : PE X o ta) (cl : Cls X.K C) (hm : Meth X.K C m f) (Fk : FnOk X.prog X.w X.K X.mg X.base (L2.CX X.prog X.w) k f fd ps sp) (hr : Room k X.A)
    (hb : KBn X.K fd ps 1 ks g gV) (ha : L2.PK X kws tz) (hall : (backToKw pos (keywordEach kws X.env)).all (·.1.isSome) = true) (hks : (backToKw pos (keywordEach kws X.env)).filterMap (·.1) = ks)
    (hpl : ((backTo pos (starEach [] X.env)).any (·.1) || (backToKw pos (keywordEach kws X.env)).any (·.1.isNone)) = false)
    (ht : eval (.Call (.Attribute o m apos) [] kws pos) X.env = (do
      let ov ← eval o X.env
      standAt apos.atName
      let (f, first) ← holding [ov] (getMethod ov m pl)
      callWith pos f first (backTo pos (starEach [] X.env)) (backToKw pos (keywordEach kws X.env)))) :
    PE X (.Call (.Attribute o m apos) [] kws pos) (tMethX C m ks.length W sp gV ta tz) := ⟨fun pins s σ H Q I h => by
  refine PySem.W.methodCall_KW (pl := pl) (thn (ho.run pins s σ H _ I h) fun v s1 hx => ?_) ht
  obtain ⟨x, H1, I1, rx, a, dx, fs, ex, ea, hlk, q⟩ := hx
  subst ex
  obtain rfl : v = Value.ref a := rx
  refine getmeth_ok I1 ea cl hm hlk (PySem.W.callWith_KW0 (first := [.ref a]) (h₀ := X.base) I1.ok.mod.kin hm.kp hall ?_ hpl)
  refine thn (ha.run pos pins s1 σ H1 _ I1 q) fun ws s2 hz => ?_
  obtain ⟨zs, H2, I2, rz, l2, q2⟩ := hz
  refine ⟨I2.kIn, ?_⟩
  rw [hks]
  exact runXK Fk hr (hb.to s2 [.ref a] ws I2.kIn rfl (rz.length.symm.trans l2)) tk I2 (hb.rel (vs := [V.ref a]) (us := [Value.ref a]) (.cons rfl .nil) rz) q2⟩
noncomputable def xMethK (mm : Bool) (c m : Str) (n nk : Nat) (ix : List Nat) (G : GX) (fo : EF) (fk : AF) : EX := fun δ => (fo δ).bind fun p => if recvOk c m p.1 then (fk p.2).bind fun q => if q.1.length = nk ∧ (pick ix ([p.1] ++ q.1)).length = n then callX mm G (pick ix ([p.1] ++ q.1)) q.2 else none else none
theorem px_methK {pl : Sem Bool} (mm : Bool) (tk : Takes X W) (ho : PD X o fo) (hC : X.mg c = some (.ref C)) (cl : Cls X.K C) (hm : Meth X.K C m f) (Fk : FnOk X.prog X.w X.K X.mg X.base (L2.CX X.prog X.w) k f fd ps (spDX X.K X.mg n G)) (hr : Room k X.A)
    (hb : KBn X.K fd ps 1 ks (pk2 ix) (pk2 ix)) (hlk : ks.length = nk) (ha : PDK X kws fk)
    (hall : (backToKw pos (keywordEach kws X.env)).all (·.1.isSome) = true := by rfl) (hks : (backToKw pos (keywordEach kws X.env)).filterMap (·.1) = ks := by rfl)
    (hpl : ((backTo pos (starEach [] X.env)).any (·.1) || (backToKw pos (keywordEach kws X.env)).any (·.1.isNone)) = false := by rfl)
    (ht : eval (.Call (.Attribute o m apos) [] kws pos) X.env = (do
      let ov ← eval o X.env
      standAt apos.atName
      let (f, first) ← holding [ov] (getMethod ov m pl)
      callWith pos f first (backTo pos (starEach [] X.env)) (backToKw pos (keywordEach kws X.env))) := by rfl) :
    PX X W (.Call (.Attribute o m apos) [] kws pos) (xMethK mm c m n nk ix G fo fk) :=
  PE.weak (pe_methXK tk ho cl hm Fk hr hb ha hall hks hpl ht) fun σ H Q hh => by
  obtain ⟨B, F, ad, δ, r, δ', S, e, kk⟩ := hh
  unfold xMethK at e
  obtain ⟨⟨x, δ1⟩, e1, e⟩ := Option.bind_eq_some_iff.mp e
  split at e
  · rename_i hx
    obtain ⟨⟨rs, δ2⟩, e2, e⟩ := Option.bind_eq_some_iff.mp e
    split at e
    · rename_i hl
      refine ⟨B, F, ad, δ, x, δ1, S, e1, fun B1 ad1 v1 H1 s1 p1 S1 r1 => ?_⟩
      obtain ⟨a, dx, fs, h1, h2, h3⟩ := recv_of hC S1.exB r1 hx
      subst h1
      refine ⟨a, dx, fs, rfl, h2, h3, B1, F, ad1, δ1, rs, δ2, S1, e2, fun B2 ad2 vs H2 s2 p2 S2 r2 => ?_⟩
      have rr : RpVs X.K X.mg B2 ad2 (x :: rs) (V.ref a :: vs) := ⟨_, vs, rfl, r1.mono s2 p2, r2⟩
      have rp := pick_rpvs rr ix
      refine ⟨r2.length.trans (hl.1.trans hlk.symm), ?_⟩
      exact call_wX S2 rp (rp.length.trans hl.2) e fun B' ad' H' s3 p3 S' => kk B' ad' H' ((s1.trans s2).trans s3) ((p1.trans p2).trans p3) S'
    · cases e
  · cases e
theorem px_meth {pl : Sem Bool} (mm : Bool) (tk : Takes X W) (ho : PD X o fo) (hC : X.mg c = some (.ref C)) (cl : Cls X.K C) (hm : Meth X.K C m f) (Fk : FnOk X.prog X.w X.K X.mg X.base (L2.CX X.prog X.w) k f fd ps (spDX X.K X.mg n G)) (hr : Room k X.A)
    (hb : Binds X.K fd ps []) (ha : PDA X (e :: es) fa)
    (hst : starEach (e :: es) X.env = (false, eval e X.env) :: starEach es X.env := by rfl) (hpl : (backTo pos (starEach es X.env)).any (·.1) = false := by rfl)
    (ht : eval (.Call (.Attribute o m apos) (e :: es) [] pos) X.env = (do
      let ov ← eval o X.env
      standAt apos.atName
      let (f, first) ← holding [ov] (getMethod ov m pl)
      callWith pos f first (backTo pos (starEach (e :: es) X.env)) (backToKw pos (keywordEach [] X.env))) := by rfl) :
    PX X W (.Call (.Attribute o m apos) (e :: es) [] pos) (xMeth mm c m n G fo fa) := ⟨fun pins s σ H Q I hh => by
  obtain ⟨B, F, ad, δ, r, δ', S, e, kk⟩ := hh
  unfold xMeth at e
  obtain ⟨⟨x, δ1⟩, e1, e⟩ := Option.bind_eq_some_iff.mp e
  split at e
  · rename_i hx
    obtain ⟨⟨rs, δ2⟩, e2, e⟩ := Option.bind_eq_some_iff.mp e
    split at e
    · rename_i hl
      have go : ∀ B1 ad1 v1 H1, Same B B1 → Pre ad ad1 → SRep X.K X.mg B1 F ad1 σ δ1 H1 → RpV X.K X.mg B1 ad1 x v1 → ∃ a dx fs, v1 = .ref a ∧ H1 a = some (.ins C dx fs) ∧ fs.lookup m = none ∧
          tDA X.K X.mg fa σ H1 fun vs H2 => spDX X.K X.mg n G (V.ref a :: vs) H2 Q (WE W σ) := fun B1 ad1 v1 H1 s1 p1 S1 r1 => by
        obtain ⟨a, dx, fs, h1, h2, h3⟩ := recv_of hC S1.exB r1 hx
        subst h1
        refine ⟨a, dx, fs, rfl, h2, h3, B1, F, ad1, δ1, rs, δ2, S1, e2, fun B2 ad2 vs H2 s2 p2 S2 r2 => ?_⟩
        have rr : RpVs X.K X.mg B2 ad2 (x :: rs) (V.ref a :: vs) := ⟨_, vs, rfl, r1.mono s2 p2, r2⟩
        exact call_wX S2 rr (by rw [rr.length]; exact hl) e fun B' ad' H' s3 p3 S' => kk B' ad' H' ((s1.trans s2).trans s3) ((p1.trans p2).trans p3) S'
      refine PySem.W.methodCall_KW (pl := pl) (thn (ho.run pins s σ H _ I ⟨B, F, ad, δ, x, δ1, S, e1, go⟩) fun v s1 hz => ?_) ht
      obtain ⟨y, H1, I1, rx, a, dx, fs, ex, ea, hlk, q⟩ := hz
      subst ex
      obtain rfl : v = Value.ref a := rx
      refine getmeth_ok I1 ea cl hm hlk ?_
      refine PySem.W.callWith_K (first := [.ref a]) (h₀ := X.base) I.ok.mod.kin hm.kp (thn (ha.run pos pins s1 σ H1 _ I1 q) fun us s2 hv => ?_) hst hpl
      obtain ⟨vs, H2, I2, r2, q2⟩ := hv
      refine ⟨I2.kIn, run_fnS (E := WE W) (us := .ref a :: us) (vs := .ref a :: vs) Fk hr hb (passAt tk σ) I2 (.cons rfl r2) q2⟩
    · cases e
  · cases e⟩
theorem px_meth0 {pl : Sem Bool} (mm : Bool) (tk : Takes X W) (ho : PD X o fo) (hC : X.mg c = some (.ref C)) (cl : Cls X.K C) (hm : Meth X.K C m f) (Fk : FnOk X.prog X.w X.K X.mg X.base (L2.CX X.prog X.w) k f fd ps (spDX X.K X.mg n G)) (hr : Room k X.A)
    (hb : Binds X.K fd ps [])
    (ht : eval (.Call (.Attribute o m apos) [] [] pos) X.env = (do
      let ov ← eval o X.env
      standAt apos.atName
      let (f, first) ← holding [ov] (getMethod ov m pl)
      callWith pos f first (backTo pos (starEach [] X.env)) (backToKw pos (keywordEach [] X.env))) := by rfl) :
    PX X W (.Call (.Attribute o m apos) [] [] pos) (xMeth mm c m n G fo aNil) := ⟨fun pins s σ H Q I hh => by
  obtain ⟨B, F, ad, δ, r, δ', S, e, kk⟩ := hh
  unfold xMeth at e
  obtain ⟨⟨x, δ1⟩, e1, e⟩ := Option.bind_eq_some_iff.mp e
  split at e
  · rename_i hx
    unfold aNil at e
    rw [Option.bind_some] at e
    split at e
    · rename_i hl
      have go : ∀ B1 ad1 v1 H1, Same B B1 → Pre ad ad1 → SRep X.K X.mg B1 F ad1 σ δ1 H1 → RpV X.K X.mg B1 ad1 x v1 → ∃ a dx fs, v1 = .ref a ∧ H1 a = some (.ins C dx fs) ∧ fs.lookup m = none ∧
          spDX X.K X.mg n G [V.ref a] H1 Q (WE W σ) := fun B1 ad1 v1 H1 s1 p1 S1 r1 => by
        obtain ⟨a, dx, fs, h1, h2, h3⟩ := recv_of hC S1.exB r1 hx
        subst h1
        refine ⟨a, dx, fs, rfl, h2, h3, ?_⟩
        have rr : RpVs X.K X.mg B1 ad1 [x] [V.ref a] := ⟨_, [], rfl, r1, rfl⟩
        exact call_wX S1 rr hl e fun B' ad' H' s3 p3 S' => kk B' ad' H' (s1.trans s3) (p1.trans p3) S'
      refine PySem.W.methodCall_KW (pl := pl) (thn (ho.run pins s σ H _ I ⟨B, F, ad, δ, x, δ1, S, e1, go⟩) fun v s1 hz => ?_) ht
      obtain ⟨y, H1, I1, rx, a, dx, fs, ex, ea, hlk, q⟩ := hz
      subst ex
      obtain rfl : v = Value.ref a := rx
      refine getmeth_ok I1 ea cl hm hlk ?_
      exact PySem.W.callWith_K0 (first := [.ref a]) I1.kIn hm.kp (run_fnS (E := WE W) (us := [.ref a]) (vs := [.ref a]) Fk hr hb (passAt tk σ) I1 (.cons rfl .nil) q)
    · cases e
  · cases e⟩
end
end PK

namespace PK
open PySem L2 PySem.Spec PyProof.Rows

/-! ### an __init__ that may raise -/
inductive Jl where
  | ok (i : Il) | ex (c : Str) (d : D) (dl : Dl)
inductive Iy where
  | ok (ns : List Str) (ds : List D) | ex (c : Str) (d : D)
abbrev JFn := Il → Option Jl
abbrev GIX := List Vl → List (List D) → Option (Iy × List (List D))
def tInX (K : PySem.W.Frag) (mg : Str → Option Value) (W : WX) (c : Str) (f : JFn) : TS := fun D σ H => ∃ B F ad i j x C dx xs, mg c = some (.ref C) ∧ σ[0]? = some (some (.ref x)) ∧ x ≠ dx ∧ F x = none ∧ F dx = none ∧
  SRep K mg B (upd (upd F dx (.own x)) x (.ins C dx (i.ns.zip xs))) ad σ i.dl H ∧ i.ns.length = xs.length ∧ Rps K mg B i.ds xs ∧ f i = some j ∧
  match j with
  | .ok i' => ∀ B' ad' σ' H' ys, Same B B' → Pre ad ad' → σ'[0]? = some (some (.ref x)) → SRep K mg B' (upd (upd F dx (.own x)) x (.ins C dx (i'.ns.zip ys))) ad' σ' i'.dl H' → i'.ns.length = ys.length → Rps K mg B' i'.ds ys → D.nx σ' H'
  | .ex cc d dl => ∀ B' ad' σ' H' ys cls dd, Same B B' → Pre ad ad' → SRep K mg B' (upd (upd F dx (.own x)) x (.ins C dx ys)) ad' σ' dl H' → Fly K mg B' cc d cls dd → W cls dd σ' H'
def jOk (f : IFn) : JFn := fun i => (f i).map .ok
def jSeq (f g : JFn) : JFn := fun i => (f i).bind fun j => match j with
  | .ok i' => g i'
  | j => some j
def jDrop (f : EX) : JFn := fun i => (f i.dl).map fun p => match p.1 with
  | .ok _ => .ok { i with dl := p.2 }
  | .ex c d => .ex c d p.2
section
variable {X : Cx} {W : WX} {e : Expr} {f : EX} {pos : Pos} {st : Stmt} {rest : List Stmt} {c : Str} {C : Addr} {g h : JFn}
theorem pjn_ok {u : IFn} (h1 : PS X.nox st (tIn X.K X.mg c u)) : PS X st (tInX X.K X.mg W c (jOk u)) := PS.weak (PS.nox h1) fun D σ H hh => by
  obtain ⟨B, F, ad, i, j, x, C, dx, xs, hC, h0, hne, hF1, hF2, S, hl, r, e, k⟩ := hh
  unfold jOk at e
  obtain ⟨i', e1, e2⟩ := Option.map_eq_some_iff.mp e
  subst e2
  exact ⟨B, F, ad, i, i', x, C, dx, xs, hC, h0, hne, hF1, hF2, S, hl, r, e1, k⟩
theorem pjn_one (h1 : PS X st (tInX X.K X.mg W c g)) : PSs X [st] (tInX X.K X.mg W c g) := pss_one h1
theorem pjn_cons (h1 : PS X st (tInX X.K X.mg W c g)) (h2 : PSs X rest (tInX X.K X.mg W c h)) : PSs X (st :: rest) (tInX X.K X.mg W c (jSeq g h)) := PSs.weak (pss_cons h1 h2) fun D σ H hh => by
  obtain ⟨B, F, ad, i, j, x, C, dx, xs, hC, h0, hne, hF1, hF2, S, hl, r, e, k⟩ := hh
  unfold jSeq at e
  obtain ⟨j1, e1, e2⟩ := Option.bind_eq_some_iff.mp e
  refine ⟨B, F, ad, i, j1, x, C, dx, xs, hC, h0, hne, hF1, hF2, S, hl, r, e1, ?_⟩
  cases j1 with
  | ok i1 =>
    intro B1 ad1 σ1 H1 ys s1 p1 z1 S1 l1 r1
    refine ⟨B1, F, ad1, i1, j, x, C, dx, ys, hC, z1, hne, hF1, hF2, S1, l1, r1, e2, ?_⟩
    cases j with
    | ok i2 => exact fun B2 ad2 σ2 H2 ws s2 p2 z2 S2 l2 r2 => k B2 ad2 σ2 H2 ws (s1.trans s2) (p1.trans p2) z2 S2 l2 r2
    | ex cc d dl => exact fun B2 ad2 σ2 H2 ws cls dd s2 p2 S2 fly => k B2 ad2 σ2 H2 ws cls dd (s1.trans s2) (p1.trans p2) S2 fly
  | ex cc d dl =>
    cases e2
    exact k
theorem pjn_drop (he : PX X W e f) (hs : swapsWith e none pos.line X.env = pure false := by rfl) : PS X (.Expr e pos) (tInX X.K X.mg W c (jDrop f)) := PS.weak (ps_expr he hs) fun D σ H hh => by
  obtain ⟨B, F, ad, i, j, x, C, dx, xs, hC, h0, hne, hF1, hF2, S, hl, r, e, k⟩ := hh
  unfold jDrop at e
  obtain ⟨⟨y, δ1⟩, e1, e2⟩ := Option.map_eq_some_iff.mp e
  refine ⟨B, _, ad, i.dl, y, δ1, S, e1, fun B1 ad1 H1 s1 p1 S1 => ?_⟩
  cases y with
  | ok v =>
    cases e2
    exact fun u hu => k B1 ad1 σ H1 xs s1 p1 h0 S1 hl (Rps.mono s1 _ _ r)
  | ex cc d =>
    cases e2
    exact fun cls dd fly => k B1 ad1 σ H1 (i.ns.zip xs) cls dd s1 p1 S1 fly
end
/-- the promise of such an __init__ -/
def spIX (K : PySem.W.Frag) (mg : Str → Option Value) (c : Str) (n : Nat) (G : GIX) : Sp := fun vs H Q E => vs.length = n ∧ ∃ B F ad rs cs y cs' x C dx ws, vs = .ref x :: ws ∧ mg c = some (.ref C) ∧ x ≠ dx ∧ F x = none ∧ F dx = none ∧
  SRep K mg B (upd (upd F dx (.own x)) x (.ins C dx [])) ad [] ⟨[], cs.map some⟩ H ∧ RpVs K mg B ad rs ws ∧ G rs cs = some (y, cs') ∧ cs'.length = cs.length ∧
  match y with
  | .ok ns ds => ∀ B' H' xs, Same B B' → SRep K mg B' (upd (upd F dx (.own x)) x (.ins C dx (ns.zip xs))) ad [] ⟨[], cs'.map some⟩ H' → ns.length = xs.length → Rps K mg B' ds xs → Q .non H'
  | .ex cc d => ∀ B' H' ys cls dd, Same B B' → SRep K mg B' (upd (upd F dx (.own x)) x (.ins C dx ys)) ad [] ⟨[], cs'.map some⟩ H' → Fly K mg B' cc d cls dd → E cls dd H'
def okI (G : GIX) : GIF := fun rs cs => match G rs cs with
  | some (.ok ns ds, cs') => some (ns, ds, cs')
  | _ => none
def initX (n : Nat) (f : JFn) : GIX := fun rs cs => (f ⟨⟨none :: rs.map some ++ List.replicate (n - rs.length) none, cs.map some⟩, [], []⟩).bind fun j => match j with
  | .ok i => (lives i.dl (List.range cs.length)).map fun cs' => (.ok i.ns i.ds, cs')
  | .ex c d dl => (lives dl (List.range cs.length)).map fun cs' => (.ex c d, cs')
theorem spIX_ok {K : PySem.W.Frag} {mg : Str → Option Value} {c : Str} {n : Nat} {G : GIX} {vs : List V} {H : Hp} {Q : VK} {E E' : XK} (h : spI K mg c n (okI G) vs H Q E) : spIX K mg c n G vs H Q E' := by
  obtain ⟨hn, B, F, ad, rs, cs, ns, ds, cs', x, C, dx, ws, h1, hC, hne, hF1, hF2, S, rv, e, hl, k⟩ := h
  unfold okI at e
  split at e
  · rename_i ns2 ds2 cs2 e2
    cases e
    exact ⟨hn, B, F, ad, rs, cs, .ok ns ds, cs', x, C, dx, ws, h1, hC, hne, hF1, hF2, S, rv, e2, hl, k⟩
  · cases e
section
variable {P : Program} {w : World} {K : PySem.W.Frag} {mg : Str → Option Value} {base : Heap}
theorem calmI {k n : Nat} {c : Str} {f : Addr} {fd : FuncData} {ps : List Str} {G : GIX} (F : FnOk P w K mg base (L2.CX P w) k f fd ps (spIX K mg c n G)) : FnOk P w K mg base CX0 k f fd ps (spI K mg c n (okI G)) :=
  ⟨fun vs H Q E h => F.len vs H Q E (spIX_ok h), fun A outer s H args us vs Q E hr he hb hv h =>
    codeAny_mono (F.run A outer s H args us vs Q (fun _ _ _ => False) hr he hb hv (spIX_ok h)) fun r s' hq => by
      cases r with
      | ok fl =>
        cases fl with
        | ret u => exact hq
        | next => exact hq
        | brk => exact hq
        | cont => exact hq
      | error e =>
        obtain ⟨_, _, _, _, _, _, _, _, _, _, _, _, z⟩ := hq
        exact z.elim⟩
theorem init_okX {c qual : Str} {st : Stmt} {f : Addr} {fd : FuncData} {N ps : List Str} {k : Nat} {fi : JFn} (F : Fun K "__init__" qual st f fd) (S : FnScope N ps (defScope st)) (hp : 0 < ps.length) (hNp : ps.length ≤ N.length)
    (hbody : ∀ (cdv : Value) (A : Around) (outer : List Env) (s : Shared) (H : Hp) (E : XK), Room k (A.deeper (envOfC qual (defScope st) s.heap.objs.size f cdv)) →
      Takes (cxOf (L2.CX P w) P w K mg base N qual (defScope st) f cdv A outer s H E) (fun cls d _ H => E cls d H) →
      PSs (cxOf (L2.CX P w) P w K mg base N qual (defScope st) f cdv A outer s H E) (defBody st) (tInX K mg (fun cls d _ H => E cls d H) c fi)) :
    FnOk P w K mg base (L2.CX P w) (k + 1) f fd ps (spIX K mg c ps.length (PK.initX (N.length - 1) fi)) := by
  refine F.okX S (fun vs H Q E h => h.1) (fun cdv A outer s H vs Q E hr h => ?_)
  refine ⟨_, hbody cdv A outer s H E hr (takes_of rfl rfl rfl rfl), ?_⟩
  obtain ⟨hlen, B, Fr, ad, rs, cs, y, cs', x, C, dx, ws, rfl, hC, hne, hF1, hF2, S0, rv, e, hl, kk⟩ := h
  unfold PK.initX at e
  obtain ⟨j, e1, e⟩ := Option.bind_eq_some_iff.mp e
  have hadl : ad.length = cs.length := by
    have := S0.len
    simpa using this
  have hwl := RpVs.length rv
  have S1 := rps_start (δ := ⟨[], cs.map some⟩) (n := N.length - 1) S0 rv
  have hst : start N (.ref x :: ws) = some (.ref x) :: (ws.map some ++ List.replicate (N.length - 1 - ws.length) none) := by
    unfold L2.start
    rw [List.map_cons, List.cons_append, List.length_cons]
    congr 3
    omega
  have S2 : SRep K mg B (upd (upd Fr dx (.own x)) x (.ins C dx [])) ad (start N (.ref x :: ws)) ⟨none :: rs.map some ++ List.replicate (N.length - 1 - rs.length) none, cs.map some⟩ H := by
    rw [hst]
    refine ⟨S1.exB, S1.exF, S1.dis, S1.nd, S1.len, by simp [hwl], S1.cell, S1.dead, fun j d ej => ?_⟩
    cases j with
    | zero => simp at ej
    | succ j =>
      obtain ⟨v, h1, h2⟩ := S1.slot j d (by simpa using ej)
      exact ⟨v, by simpa using h1, h2⟩
  refine ⟨B, Fr, ad, (⟨⟨none :: rs.map some ++ List.replicate (N.length - 1 - rs.length) none, cs.map some⟩, [], []⟩ : Il), j, x, C, dx, [], hC, by rw [hst]; rfl, hne, hF1, hF2, S2, rfl, rfl, e1, ?_⟩
  cases j with
  | ok i' =>
    obtain ⟨cs2, e2, e3⟩ := Option.map_eq_some_iff.mp e
    cases e3
    intro B' ad' σ' H' ys sB pA h0 S' hl' r'
    obtain ⟨m, rfl⟩ := pA
    have base : SRep K mg B' (upd (upd Fr dx (.own x)) x (.ins C dx (i'.ns.zip ys))) ad [] ⟨[], cs'.map some⟩ H' := by
      have := S'.pick e2 List.nodup_range
      rw [← hadl, addrs_range] at this
      exact this
    exact kk B' H' ys sB base hl' r'
  | ex cc d dl =>
    obtain ⟨cs2, e2, e3⟩ := Option.map_eq_some_iff.mp e
    cases e3
    intro B' ad' σ' H' ys cls dd sB pA S' fly
    obtain ⟨m, rfl⟩ := pA
    have base : SRep K mg B' (upd (upd Fr dx (.own x)) x (.ins C dx ys)) ad [] ⟨[], cs'.map some⟩ H' := by
      have := S'.pick e2 List.nodup_range
      rw [← hadl, addrs_range] at this
      exact this
    exact kk B' H' ys cls dd sB base fly
end
noncomputable def makeX (c : Str) (G : GIX) (rs : List Vl) (δ : Dl) : Option (Vx × Dl) := match makeG c (okI G) rs δ with
  | some (r, δ') => some (.ok r, δ')
  | none => if (refs rs).Nodup then (lives δ (refs rs)).bind fun cs => match G (renum 0 rs) cs with
      | some (.ex c d, cs') => if cs'.length = cs.length then some (.ex c d, { δ with st := putAll δ.st (refs rs) cs' }) else none
      | _ => none
    else none
noncomputable def xMake (c : Str) (n : Nat) (G : GIX) (fa : AF) : EX := fun δ => (fa δ).bind fun p => if p.1.length + 1 = n then makeX c G p.1 p.2 else none
section
variable {K : PySem.W.Frag} {mg : Str → Option Value} {B B' F : Hp} {ad ad' : List Addr} {σ : L2.St} {δ δ' : Dl} {H H' : Hp}
theorem make_wX {c : Str} {C : Addr} {G : GIX} {rs : List Vl} {vs : List V} {r : Vx} {n : Nat} {Q : VK} {W : WX} {x dx : Addr} (hC : mg c = some (.ref C)) (S : SRep K mg B F ad σ δ H) (hv : RpVs K mg B ad rs vs) (hn : vs.length + 1 = n) (e : makeX c G rs δ = some (r, δ')) (hx : H x = none) (hd : H dx = none) (hne : dx ≠ x)
    (k : ∀ B' ad' H', Same B B' → Pre ad ad' → SRep K mg B' F ad' σ δ' H' → VxOk K mg B' ad' Q W σ H' r) : spIX K mg c n G (.ref x :: vs) (upd (upd H dx (.own x)) x (.ins C dx [])) (fun v H2 => v = .non ∧ Q (.ref x) H2) (WE W σ) := by
  unfold makeX at e
  split at e
  · rename_i r0 δ0 e0
    cases e
    exact spIX_ok (E := E0) (make_w hC S hv hn e0 hx hd hne fun B1 ad1 v H1 s1 p1 S1 r1 => k B1 ad1 H1 s1 p1 S1 v r1)
  · split at e
    · rename_i hnd
      obtain ⟨cs, e1, e⟩ := Option.bind_eq_some_iff.mp e
      split at e
      · rename_i cc d cs' e2
        split at e
        · rename_i hl
          cases e
          have hlt := S.live_lt e1
          have Sd := (S.down e1 hnd).own2 (o := .ins C dx []) (u := .own x) hx hd hne
          have fx : frameOf F ad δ (refs rs) H x = none := (S.down e1 hnd).exF.free hx
          have fd : frameOf F ad δ (refs rs) H dx = none := (S.down e1 hnd).exF.free hd
          refine ⟨hn, B, frameOf F ad δ (refs rs) H, addrs ad (refs rs), renum 0 rs, cs, .ex cc d, cs', x, C, dx, vs, rfl, hC, Ne.symm hne, fx, fd, Sd, renum_ok (ks := []) (by simpa using hlt) hv, e2, hl, ?_⟩
          intro B1 H1 ys cls dd sB S1 fly
          have S1' := S1.weakF (F' := frameOf F ad δ (refs rs) H) fun a o e => by
            rw [upd_ne (ne_of_none e fx), upd_ne (ne_of_none e fd)]
            exact e
          have S2 := S.up (m := []) (ms := []) e1 hnd hl sB (by simpa using S1')
          simp only [List.append_nil, List.map_nil] at S2
          exact k B1 ad H1 sB (Pre.refl _) S2 cls dd fly
        · cases e
      · cases e
    · cases e
end
section
variable {X : Cx} {W : WX} {e : Expr} {pos p : Pos} {es : List Expr} {fs : AF} {c : Str} {C : Addr}
/-- C(e, ..), at the slots -/
theorem pe_makeX {k : Nat} {f : Addr} {fd : FuncData} {ps : List Str} {sp : Sp} {t : TA} (tk : Takes X W) (M : Mk X.K C f) (Fk : FnOk X.prog X.w X.K X.mg X.base (L2.CX X.prog X.w) k f fd ps sp) (hr : Room (k + 1) X.A) (hg : Gl X c) (hm : X.mg c = some (.ref C)) (hb : Binds X.K fd ps [])
    (ha : PA X (e :: es) t) (hdb : (c == ("__debug__" : Str)) = false) (he : starEach (e :: es) X.env = (false, eval e X.env) :: starEach es X.env) (hpl : (backTo pos (starEach es X.env)).any (·.1) = false) :
    PE X (.Call (.Name c p) (e :: es) [] pos) (fun σ H Q => t σ H fun vs H1 => ∀ x dx, H1 x = none → H1 dx = none → dx ≠ x → sp (.ref x :: vs) (upd (upd H1 dx (.own x)) x (.ins C dx [])) (fun v H2 => v = .non ∧ Q (.ref x) H2) (WE W σ)) := ⟨fun pins s σ H Q I h => by
  refine wpAny_Call_Name_kw (ld_glob I hg hm ?_ hdb)
  refine PySem.W.callWith_K (h₀ := X.base) I.ok.mod.kin M.kp (thn (ha.run pos pins s σ H _ I h) fun us s1 hv => ?_) he hpl
  obtain ⟨vs, H1, I1, r, q⟩ := hv
  refine ⟨I1.kIn, ?_⟩
  show wpAny (model X.prog X.w) X.A (call (.ref C) us) _ _ _
  have n1 : H1 (s1.heap.objs.size + 1) = none := I1.hok.fresh (Nat.le_succ _)
  have n2 : H1 s1.heap.objs.size = none := I1.hok.fresh (Nat.le_refl _)
  have hq := q (s1.heap.objs.size + 1) s1.heap.objs.size n1 n2 (Nat.ne_of_lt (Nat.lt_succ_self _))
  have I2 := Inv.made (C := C) I1
  have r2 : Vals (V.ref (s1.heap.objs.size + 1) :: vs) (Value.ref (s1.heap.objs.size + 1) :: us) := .cons rfl r
  have hl : (Value.ref (s1.heap.objs.size + 1) :: us).length = ps.length := r2.length.symm.trans (Fk.len _ _ _ _ hq)
  have hb2 := hb _ (Value.ref (s1.heap.objs.size + 1) :: us) I2.kIn (by rw [List.append_nil]; exact hl)
  rw [List.append_nil] at hb2
  refine wpAny_call (make_map (f := f) I1.kIn M.makes M.init (beq_iff_eq.mp M.fn) (codeAny_mono (Fk.run _ X.stack _ _ ⟨Value.ref (s1.heap.objs.size + 1) :: us, []⟩ _ _ _ _ (hr.make C us []) (I2.env0.make C us []) hb2 r2 hq) fun rr s' hz => ?_))
  have z := leftX tk I2 hz
  cases rr with
  | error u => exact z
  | ok fl =>
    cases fl with
    | ret u =>
      obtain ⟨v, H', I3, rv, ev, q3⟩ := z
      subst ev
      exact ⟨rv, ⟨V.ref (s1.heap.objs.size + 1), H', I3, rfl, q3⟩⟩
    | next => exact z.elim
    | brk => exact z.elim
    | cont => exact z.elim⟩
theorem px_make {k n : Nat} {f : Addr} {fd : FuncData} {ps : List Str} {G : GIX} (tk : Takes X W) (M : Mk X.K C f) (Fk : FnOk X.prog X.w X.K X.mg X.base (L2.CX X.prog X.w) k f fd ps (spIX X.K X.mg c n G)) (hr : Room (k + 1) X.A) (hg : Gl X c) (hm : X.mg c = some (.ref C)) (hb : Binds X.K fd ps [])
    (ha : PDA X (e :: es) fs) (hdb : (c == ("__debug__" : Str)) = false := by decide) (he : starEach (e :: es) X.env = (false, eval e X.env) :: starEach es X.env := by rfl) (hpl : (backTo pos (starEach es X.env)).any (·.1) = false := by rfl) :
    PX X W (.Call (.Name c p) (e :: es) [] pos) (xMake c n G fs) := PE.weak (pe_makeX tk M Fk hr hg hm hb ha hdb he hpl) fun σ H Q hh => by
  obtain ⟨B, F, ad, δ, r, δ', S, e, k⟩ := hh
  unfold xMake at e
  obtain ⟨⟨rs, δ1⟩, e1, e⟩ := Option.bind_eq_some_iff.mp e
  split at e
  · rename_i hl
    refine ⟨B, F, ad, δ, rs, δ1, S, e1, fun B1 ad1 vs H1 s1 p1 S1 r1 => fun x dx hx hd hne => ?_⟩
    exact make_wX hm S1 r1 (by rw [RpVs.length r1]; exact hl) e hx hd hne fun B' ad' H' s2 p2 S' => k B' ad' H' (s1.trans s2) (p1.trans p2) S'
  · cases e
end
end PK

namespace PK
open PySem L2 PySem.Spec PyProof.Rows

/-! ### the exceptions' classes -/
def veT : List Value := [.type "ValueError", .type "Exception", .type "BaseException", .type "object"]
/-- what an own exception class is: the one below ValueError ("LiftError", at L), or one below that -/
def bmOf (L : Addr) (c : Str) : List Value := if c = ("LiftError" : Str) then veT else .ref L :: veT
structure ExK (K : PySem.W.Frag) (mg : Str → Option Value) (L : Addr) (c : Str) (C : Addr) : Prop where
  g : mg c = some (.ref C)
  lk : ∃ q N bs sn sub ab col dd k0 k1 k2 k3 k5, K.lookup C = some (excClassObj c q C N bs (bmOf L c) true sn sub ab col dd k0 k1 k2 k3 k5 "ValueError.__new__")
/-- what its instances' fields and their class ask -/
structure ExH (K : PySem.W.Frag) (C : Addr) : Prop where
  ga : PySem.W.findIn K (.ref C) "__getattribute__" = some (some (.builtin "BaseException.__getattribute__"))
  gg : PySem.W.findIn K (.ref C) "__getattr__" = some none
  ha : PySem.W.findIn K (.ref C) "__class__" = some (some (.builtin "object.__class__"))
  noN : PySem.W.findIn K (.ref C) "value" = some none
structure ExG (K : PySem.W.Frag) : Prop where
  hn : PySem.W.specialIn K (.builtin "object.__class__") "__get__" = some (some (.builtin "getset_descriptor.__get__"))
  ht : PySem.W.takesIn K (.builtin "object.__class__") = some true
section
variable {K : PySem.W.Frag} {mg : Str → Option Value} {L C C' : Addr} {c c' : Str}
theorem ExK.cls (T : ExK K mg L c C) : ∃ cd, PySem.W.clsIn K C = some cd ∧ cd.mro = .ref C :: bmOf L c ∧ cd.hasDict = true := by
  obtain ⟨q, N, bs, sn, sub, ab, col, dd, k0, k1, k2, k3, k5, h⟩ := T.lk
  refine ⟨{ name := c, bases := bs, mro := .ref C :: bmOf L c, ns := N, qualname := q, hasDict := true, slotNames := sn, subclasses := sub, abstract := ab, collection := col, hasDel := false }, ?_, rfl, rfl⟩
  unfold PySem.W.clsIn
  rw [h]
theorem ExK.ty (T : ExK K mg L c C) : PySem.W.typeIn K (.ref C) = some (.type "type") := by
  obtain ⟨q, N, bs, sn, sub, ab, col, dd, k0, k1, k2, k3, k5, h⟩ := T.lk
  show (K.lookup C).map _ = _
  rw [h]
  rfl
theorem ExK.sub (T : ExK K mg L c C) (b : Value) : PySem.W.subIn K (.ref C) b = some ((Value.ref C :: bmOf L c).contains b) := by
  obtain ⟨cd, h1, h2, _⟩ := T.cls
  show PySem.W.mroIn K C b = _
  unfold PySem.W.mroIn
  rw [h1, Option.bind_some, h2]
  rfl
theorem bm_base {L : Addr} {c : Str} {X : String} (h : veT.contains (.type X) = true) : (bmOf L c).contains (.type X) = true := by
  unfold bmOf
  split
  · exact h
  · rw [List.contains_cons, h, Bool.or_true]
theorem ExK.base (T : ExK K mg L c C) : PySem.W.subIn K (.ref C) (.type "BaseException") = some true := by
  rw [T.sub, List.contains_cons, bm_base (by decide), Bool.or_true]
theorem ExK.obj (T : ExK K mg L c C) : PySem.W.mroIn K C (.type "object") = some true := by
  have h := T.sub (.type "object")
  rw [List.contains_cons, bm_base (by decide), Bool.or_true] at h
  exact h
theorem ExK.hd (T : ExK K mg L c C) : PySem.W.hasDictIn K C = true := by
  obtain ⟨cd, h1, _, h3⟩ := T.cls
  show (PySem.W.clsIn K C).any (·.hasDict) = true
  rw [h1]
  exact h3
theorem ExK.ne (T : ExK K mg L c C) (T' : ExK K mg L c' C') (h : c ≠ c') : C ≠ C' := fun e => by
  obtain ⟨q, N, bs, sn, sub, ab, col, dd, k0, k1, k2, k3, k5, h1⟩ := T.lk
  obtain ⟨q', N', bs', sn', sub', ab', col', dd', k0', k1', k2', k3', k5', h2⟩ := T'.lk
  subst e
  rw [h1] at h2
  have := congrArg (fun o : Option Obj => o.map (fun o => match o.data with | .cls cd => cd.name | _ => c)) h2
  exact h (Option.some.inj this)
theorem bm_ve : ∀ (L : Addr) (c : Str), HandSPX.refsVE (bmOf L c) = true := fun L c => by
  unfold bmOf
  split
  · decide +kernel
  · rfl
/-- the class c is below the class n -/
def isE (c n : Str) : Bool := n = c || n = ("LiftError" : Str) || n = ("ValueError" : Str)
/-- a named class as a value -/
def clE (mg : Str → Option Value) (n : Str) (u : Value) : Prop := (mg n = some u ∧ n ≠ ("ValueError" : Str)) ∨ (n = ("ValueError" : Str) ∧ u = .type "ValueError")
theorem ExK.one (T : ExK K mg L c C) (TL : ExK K mg L "LiftError" L) {n : Str} {u : Value} (hn : clE mg n u) (ho : n ≠ ("ValueError" : Str) → ∃ C', ExK K mg L n C') : PySem.W.kitOne K (.ref C) u = some (isE c n) := by
  have hm : PySem.W.kitMeta "ValueError" = true := by decide +kernel
  rcases hn with ⟨hu, hv⟩ | ⟨hv, rfl⟩
  · obtain ⟨C', T'⟩ := ho hv
    rw [T'.g] at hu
    cases hu
    unfold PySem.W.kitOne
    by_cases hc : n = c
    · subst hc
      have e : C' = C := Value.ref.inj (Option.some.inj (T'.g.symm.trans T.g))
      subst e
      rw [if_pos (by simp)]
      simp [isE]
    · have hne : C ≠ C' := T.ne T' fun z => hc z.symm
      rw [if_neg (by simpa using hne)]
      have h1 : PySem.W.kitCls K (.ref C) (.ref C') = PySem.W.subIn K (.ref C) (.ref C') := by
        obtain ⟨cd, hcd, _⟩ := T'.cls
        show (if ((PySem.W.clsIn K C').isSome && PySem.W.typeIn K (.ref C') == some (.type "type")) = true then _ else none) = _
        rw [hcd, T'.ty]
        rfl
      rw [h1, T.sub]
      congr 1
      unfold isE bmOf
      by_cases hL : n = ("LiftError" : Str)
      · subst hL
        have e : C' = L := Value.ref.inj (Option.some.inj (T'.g.symm.trans TL.g))
        subst e
        rw [if_neg (fun z => hc z.symm)]
        simp
      · have hCL : C' ≠ L := T'.ne TL hL
        split
        · simp [veT, hc, hL, hv, Ne.symm hne]
        · simp [veT, hc, hL, hv, Ne.symm hne, hCL]
  · subst hv
    unfold PySem.W.kitOne
    rw [if_neg (by simp)]
    show (if PySem.W.kitMeta "ValueError" = true then PySem.W.subIn K (.ref C) (.type "ValueError") else none) = _
    rw [if_pos hm, T.sub, List.contains_cons, bm_base (by decide), Bool.or_true]
    simp [isE]
end
end PK

namespace PK
open PySem L2 PySem.Spec PyProof.Rows

/-! ### isinstance of an exception, its value -/
structure ExAll (K : PySem.W.Frag) (mg : Str → Option Value) (L : Addr) (own rs : List Str) : Prop where
  gen : ExG K
  top : ExK K mg L "LiftError" L
  all : ∀ n ∈ own, ∃ C, ExK K mg L n C
  held : ∀ c ∈ rs, ∃ C, ExK K mg L c C ∧ ExH K C
inductive ClsL (mg : Str → Option Value) : List Str → List V → List Value → Prop where
  | nil : ClsL mg [] [] []
  | cons {n : Str} {c : V} {u : Value} {ns : List Str} {cs : List V} {us : List Value} (h1 : ClsV c u) (h2 : clE mg n u) (h3 : ClsL mg ns cs us) : ClsL mg (n :: ns) (c :: cs) (u :: us)
theorem ClsL.vs {mg : Str → Option Value} {ns : List Str} {cs : List V} {us : List Value} (h : ClsL mg ns cs us) : Paired ClsV cs us := by
  induction h with
  | nil => exact .nil
  | cons h1 _ _ ih => exact .cons h1 ih
theorem ClsL.len {mg : Str → Option Value} {ns : List Str} {cs : List V} {us : List Value} (h : ClsL mg ns cs us) : cs.length = ns.length := by
  induction h with
  | nil => rfl
  | cons _ _ _ ih => simp [ih]
section
variable {K : PySem.W.Frag} {mg : Str → Option Value} {L C : Addr} {c : Str} {own rs : List Str}
theorem ExAll.any (A : ExAll K mg L own rs) (T : ExK K mg L c C) {ns : List Str} {cs : List V} {us : List Value} (h : ClsL mg ns cs us) (ho : ∀ n ∈ ns, n ∈ own ∨ n = ("ValueError" : Str)) : PySem.W.kitAny K (.ref C) us = some (ns.any (isE c)) := by
  induction h with
  | nil => rfl
  | @cons n cv u ns cs us h1 h2 h3 ih =>
    have e := T.one A.top h2 fun hv => by
      rcases ho n List.mem_cons_self with z | z
      · exact A.all n z
      · exact absurd z hv
    have ih' := ih fun m hm => ho m (List.mem_cons_of_mem _ hm)
    unfold PySem.W.kitAny
    rw [e]
    cases hb : isE c n with
    | true => simp [hb]
    | false =>
      show PySem.W.kitAny K (.ref C) us = _
      rw [ih']
      simp [hb]
end
def isD (rs : List Str) (ns : List Str) (f : EF) : EF := fun δ => (f δ).bind fun p => match p.1 with
  | .fz (.exc c _) => if c ∈ rs then some (.fz (.bl (ns.any (isE c))), p.2) else none
  | _ => none
def exvD (rs : List Str) (f : EF) : EF := fun δ => (f δ).bind fun p => match p.1 with
  | .fz (.exc c d) => if c ∈ rs then some (.fz d, p.2) else none
  | _ => none
section
variable {X : Cx} {L : Addr} {own rs : List Str} {e : Expr} {f : EF} {pos p1 p2 : Pos} {n : Str} {ns : List Str} {es : List Expr}
/-- an exception that is held, as the library's rules want it -/
theorem exc_at {pins : List (Addr × Obj)} {σ : L2.St} {H : Hp} {s : Shared} {a C dd : Addr} {fs : List (Str × V)} (I : Inv X pins σ H s) (ha : H a = some (exk a C dd)) (hd : H dd = some (.xd fs)) :
    ∃ (oe od : Obj) (mA : Str → Option Value), PySem.W.InstAt s.heap a oe C (some od) ∧ (∀ name, PySem.W.lookIn name od = some (mA name)) ∧ ∀ f, RelO (fs.lookup f) (mA f) := by
  have x : ObjOk X.prog X.w H s.heap a (.ext fun h => ∃ (oe : Obj) (vs : Array Value), h.get? a = some oe ∧ oe.cls = .ref C ∧ oe.dict = some dd ∧ oe.data = .fields vs) := I.hok a _ ha
  obtain ⟨⟨oe, vs, h1, h2, h3, h4⟩, _, _⟩ := x
  have y : ObjOk X.prog X.w H s.heap dd (.xd fs) := I.hok dd _ hd
  obtain ⟨mA, hns, hr⟩ := y
  obtain ⟨od, ho, hl⟩ := lookIn_ns hns
  exact ⟨oe, od, mA, ⟨h1, h2, by unfold PySem.W.notCls; rw [h4] <;> rfl, by rw [h3]; exact ho⟩, hl, hr⟩
theorem exc_kit {a C : Addr} {oe od : Obj} {c : Str} (A : ExAll X.K X.mg L own rs) (T : ExK X.K X.mg L c C) (h : ExH X.K C) : PySem.W.KitX X.K (.ref a) (.ref C) (fun hp => PySem.W.InstAt hp a oe C (some od)) := by
  obtain ⟨cd, h1, _⟩ := T.cls
  exact PySem.W.kitx_exc (by rw [h1]; rfl) h.ga h.gg T.base h.ha A.gen.hn A.gen.ht T.obj
/-- isinstance(e, C), e held -/
def rIsE1 (K : PySem.W.Frag) (mg : Str → Option Value) (L : Addr) (n : Str) : List V → Hp → VK → Prop := fun xs H Q => ∃ (a C dd : Addr) (c : Str) (fs : List (Str × V)) (cv : V) (u : Value), xs = [.ref a, cv] ∧ H a = some (exk a C dd) ∧ H dd = some (.xd fs) ∧ ExK K mg L c C ∧ ExH K C ∧ ClsV cv u ∧ clE mg n u ∧ Q (.bl (isE c n)) H
theorem oc_isE1 (A : ExAll X.K X.mg L own rs) (ho : n ∈ own ∨ n = ("ValueError" : Str)) : CallR X (.builtin "isinstance") (rIsE1 X.K X.mg L n) := by
  intro pins s σ H xs us Q I r h
  obtain ⟨a, C, dd, c, fs, cv, u, rfl, ha, hd, T, hh, kc, hn, q⟩ := h
  obtain ⟨u1, u2, rfl, r1, r2⟩ := vals2 r
  obtain rfl : u1 = Value.ref a := r1
  have e2 := kc.eq r2
  subst e2
  obtain ⟨oe, od, mA, J, _, _⟩ := exc_at I ha hd
  refine PySem.W.kia_one (exc_kit A T hh) I.kIn J (T.one A.top hn fun hv => ?_) (fun z => nomatch z) fun tk => ⟨.bl (isE c n), H, I.tok tk, rfl, q⟩
  rcases ho with z | z
  · exact A.all n z
  · exact absurd z hv
/-- isinstance(e, (C, ..)), the tuple just laid -/
def rIsET (K : PySem.W.Frag) (mg : Str → Option Value) (L : Addr) (ns : List Str) : List V → Hp → VK → Prop := fun xs H Q => ∃ (a C dd tp : Addr) (c : Str) (fs : List (Str × V)) (cs : List V) (us : List Value), xs = [.ref a, .ref tp] ∧ H a = some (exk a C dd) ∧ H dd = some (.xd fs) ∧ ExK K mg L c C ∧ ExH K C ∧
  H tp = some (.tup cs) ∧ ClsL mg ns cs us ∧ Q (.bl (ns.any (isE c))) H
theorem oc_isET (A : ExAll X.K X.mg L own rs) (ho : ∀ n ∈ ns, n ∈ own ∨ n = ("ValueError" : Str)) : CallR X (.builtin "isinstance") (rIsET X.K X.mg L ns) := by
  intro pins s σ H xs us Q I r h
  obtain ⟨a, C, dd, tp, c, fs, cs, ws, rfl, ha, hd, T, hh, hT, kc, q⟩ := h
  obtain ⟨u1, u2, rfl, r1, r2⟩ := vals2 r
  obtain rfl : u1 = Value.ref a := r1
  obtain rfl : u2 = Value.ref tp := r2
  obtain ⟨oe, od, mA, J, _, _⟩ := exc_at I ha hd
  have z : ObjOk X.prog X.w H s.heap tp (.tup cs) := I.hok tp _ hT
  obtain ⟨_, its, rv, o, h1, h2, m, h3⟩ := z
  have e3 := ClsV.all kc.vs rv
  subst e3
  obtain ⟨oc, od', dt, sl⟩ := o
  simp only at h2 h3
  subst h2 h3
  exact PySem.W.kia_tup (exc_kit A T hh) I.kIn J h1 (A.any T kc ho) (fun z => nomatch z) fun tk => ⟨.bl (ns.any (isE c)), H, I.tok tk, rfl, q⟩
def tCn (mg : Str → Option Value) (n : Str) : TE := fun σ H Q => ∀ cv u, ClsV cv u → clE mg n u → Q cv H
def tCns (mg : Str → Option Value) (ns : List Str) : TA := fun σ H Q => ∀ cs us, ClsL mg ns cs us → Q cs H
theorem pcn_own {C : Addr} (hg : Gl X n) (hm : X.mg n = some (.ref C)) (hv : n ≠ ("ValueError" : Str) := by decide) (hdb : (n == ("__debug__" : Str)) = false := by decide) : PE X (.Name n p1) (tCn X.mg n) :=
  PE.weak (pe_glob (v := .ref C) hg hm rfl hdb) fun σ H Q h => h _ _ (.own C) (.inl ⟨hm, hv⟩)
theorem pcn_ve (hg : Gl X "ValueError") (hm : X.mg "ValueError" = none) : PE X (.Name "ValueError" p1) (tCn X.mg "ValueError") :=
  PE.weak (pe_bltn (v := .ty "ValueError") hg hm PyProof.Rows.Boot.«ValueError» rfl (by decide) (by decide)) fun σ H Q h => h _ _ (.ty "ValueError") (.inr ⟨rfl, rfl⟩)
theorem pcs_nil : PA X [] (tCns X.mg []) := PA.weak pa_nil fun σ H Q h => h [] [] .nil
theorem pcs_cons (h1 : PE X e (tCn X.mg n)) (h2 : PA X es (tCns X.mg ns)) (hs : starEach (e :: es) X.env = (false, eval e X.env) :: starEach es X.env := by rfl) : PA X (e :: es) (tCns X.mg (n :: ns)) :=
  PA.weak (pa_cons h1 h2 hs) fun σ H Q h => fun cv u k1 k2 => fun cs us k3 => h _ _ (.cons k1 k2 k3)
theorem isD_ex {rs ns : List Str} {f : EF} {δ δ' : Dl} {r : Vl} (e : isD rs ns f δ = some (r, δ')) : ∃ c d, f δ = some (.fz (.exc c d), δ') ∧ c ∈ rs ∧ r = .fz (.bl (ns.any (isE c))) := by
  unfold isD at e
  obtain ⟨⟨x, δ1⟩, e1, e⟩ := Option.bind_eq_some_iff.mp e
  split at e
  · rename_i c d hx
    have hx' : x = .fz (.exc c d) := hx
    subst hx'
    split at e
    · rename_i hc
      cases e
      exact ⟨c, d, e1, hc, rfl⟩
    · cases e
  · cases e
theorem pd_isE1 (A : ExAll X.K X.mg L own rs) (ho : n ∈ own ∨ n = ("ValueError" : Str)) (hg : Gl X "isinstance") (hm : X.mg "isinstance" = none) (he : PD X e f) (hn : PE X (.Name n p1) (tCn X.mg n))
    (hs : starEach [e, .Name n p1] X.env = (false, eval e X.env) :: starEach [.Name n p1] X.env := by rfl) (hs2 : starEach [.Name n p1] X.env = (false, eval (.Name n p1) X.env) :: starEach [] X.env := by rfl)
    (hpl : (backTo pos (starEach [.Name n p1] X.env)).any (·.1) = false := by rfl) : PD X (.Call (.Name "isinstance" p2) [e, .Name n p1] [] pos) (isD rs [n] f) :=
  PE.weak (pe_callB (oc_isE1 A ho) hg hm (by decide +kernel) (pa_cons he (pa_cons hn pa_nil hs2) hs) (by decide) (by decide) hs hpl) fun σ H Q h => by
    obtain ⟨B, F, ad, δ, r, δ', S, e1, k⟩ := h
    obtain ⟨c, d, e2, hc, rfl⟩ := isD_ex e1
    refine ⟨B, F, ad, δ, _, δ', S, e2, fun B1 ad1 v H1 s1 p1 S1 r1 => ?_⟩
    intro cv u k1 k2
    obtain ⟨a, C, dd, w, h1, h2, h3, h4, h5⟩ := r1
    subst h1
    obtain ⟨C', T, hh⟩ := A.held c hc
    have eC : C' = C := Value.ref.inj (Option.some.inj (T.g.symm.trans h2))
    subst eC
    refine ⟨a, C', dd, c, _, cv, u, rfl, S1.exB _ _ h3, S1.exB _ _ h4, T, hh, k1, k2, ?_⟩
    have := k B1 ad1 (.bl ([n].any (isE c))) H1 s1 p1 S1 rfl
    simpa using this
theorem pd_isET {kt : Nat} {pt : Pos} (A : ExAll X.K X.mg L own rs) (ho : ∀ n ∈ ns, n ∈ own ∨ n = ("ValueError" : Str)) (hl : ns.length ≤ small) (hg : Gl X "isinstance") (hm : X.mg "isinstance" = none) (he : PD X e f) (hn : PA X es (tCns X.mg ns))
    (hs : starEach [e, .Tuple es kt pt] X.env = (false, eval e X.env) :: starEach [.Tuple es kt pt] X.env := by rfl) (hs2 : starEach [.Tuple es kt pt] X.env = (false, eval (.Tuple es kt pt) X.env) :: starEach [] X.env := by rfl)
    (hpl : (backTo pos (starEach [.Tuple es kt pt] X.env)).any (·.1) = false := by rfl) : PD X (.Call (.Name "isinstance" p2) [e, .Tuple es kt pt] [] pos) (isD rs ns f) :=
  PE.weak (pe_callB (oc_isET A ho) hg hm (by decide +kernel) (pa_cons he (pa_cons (pe_tup hn) pa_nil hs2) hs) (by decide) (by decide) hs hpl) fun σ H Q h => by
    obtain ⟨B, F, ad, δ, r, δ', S, e1, k⟩ := h
    obtain ⟨c, d, e2, hc, rfl⟩ := isD_ex e1
    refine ⟨B, F, ad, δ, _, δ', S, e2, fun B1 ad1 v H1 s1 p1 S1 r1 => ?_⟩
    intro cs us k1
    refine ⟨by rw [k1.len]; exact small_sz hl, fun tp htp => ?_⟩
    obtain ⟨a, C, dd, w, h1, h2, h3, h4, h5⟩ := r1
    subst h1
    obtain ⟨C', T, hh⟩ := A.held c hc
    have eC : C' = C := Value.ref.inj (Option.some.inj (T.g.symm.trans h2))
    subst eC
    have S2 := S1.alloc (o := .tup cs) htp
    have s2 : Same B1 (upd B1 tp (.tup cs)) := same_new (S1.exB.free htp)
    exact ⟨a, C', dd, tp, c, _, cs, us, rfl, S2.exB _ _ (s2 _ _ h3), S2.exB _ _ (s2 _ _ h4), T, hh, upd_same, k1, k _ ad1 _ _ (s1.trans s2) p1 S2 rfl⟩
/-- e.value -/
theorem pd_exv (A : ExAll X.K X.mg L own rs) (he : PD X e f) (hb : attributeBase e "value" X.env (eval e X.env) = eval e X.env := by rfl) : PD X (.Attribute e "value" pos) (exvD rs f) := ⟨fun pins s σ H Q I hh => by
  obtain ⟨B, F, ad, δ, r, δ', S, e1, k⟩ := hh
  unfold exvD at e1
  obtain ⟨⟨x, δ1⟩, e2, e3⟩ := Option.bind_eq_some_iff.mp e1
  refine attr_of hb (thn (he.run pins s σ H (fun v H1 => ∃ (a C dd : Addr) (w : V) (c : Str), v = .ref a ∧ ExK X.K X.mg L c C ∧ ExH X.K C ∧ H1 a = some (exk a C dd) ∧ H1 dd = some (.xd [(("value" : Str), w)]) ∧ Q w H1) I ⟨B, F, ad, δ, x, δ1, S, e2, fun B1 ad1 v H1 s1 p1 S1 r1 => ?_⟩) fun u s1 hv => ?_)
  · split at e3
    · rename_i c d hx0
      have hx' : x = .fz (.exc c d) := hx0
      subst hx'
      split at e3
      · rename_i hc
        cases e3
        obtain ⟨a, C, dd, w, h1, h2, h3, h4, h5⟩ := r1
        obtain ⟨C', T, hx⟩ := A.held c hc
        have eC : C' = C := Value.ref.inj (Option.some.inj (T.g.symm.trans h2))
        subst eC
        exact ⟨a, C', dd, w, c, h1, T, hx, S1.exB _ _ h3, S1.exB _ _ h4, k B1 ad1 w H1 s1 p1 S1 h5⟩
      · cases e3
    · cases e3
  · obtain ⟨v, H1, I1, rv, a, C, dd, w, c, hva, T, hx, ha, hd, q⟩ := hv
    subst hva
    obtain rfl : u = Value.ref a := rv
    obtain ⟨oe, od, mA, J, hl, hr⟩ := exc_at I1 ha hd
    have l : List.lookup ("value" : Str) [(("value" : Str), w)] = some w := by simp [List.lookup]
    obtain ⟨u, hu, ru⟩ := RelO.some_of (v := w) (o := mA "value") (by rw [← l]; exact hr "value")
    exact HandSPX.exc_get I1.kIn J hx.ga hx.gg T.base (PySem.W.findObj_own T.hd hx.noN rfl (by rw [hl, hu])) (handed_of ru) ⟨w, H1, I1.tok _, ru, q⟩⟩
end
end PK

namespace PK
open PySem L2 PySem.Spec PyProof.Rows

/-! ### try: .. except C as n: .., the exception known to all rules -/
section
variable {X : Cx} {pins : List (Addr × Obj)} {σ : L2.St} {H : Hp} {s : Shared}
theorem exk_ok {P : Program} {w : World} {H : Hp} {h : Heap} {a C dd : Addr} {oe : Obj} {vs : Array Value} (h1 : h.get? a = some oe) (h2 : oe.cls = .ref C) (h3 : oe.dict = some dd) (h4 : oe.data = .fields vs) : ObjOk P w H h a (exk a C dd) :=
  ⟨⟨oe, vs, h1, h2, h3, h4⟩, ⟨oe, h1⟩, fun _ _ ⟨o, v, q1, q2⟩ k => ⟨o, v, k o q1, q2⟩⟩
theorem inv_hold {a C dd : Addr} {oe : Obj} {vs : Array Value} (I : Inv X pins σ H s) (h1 : s.heap.get? a = some oe) (h2 : oe.cls = .ref C) (h3 : oe.dict = some dd) (h4 : oe.data = .fields vs) (na : H a = none) (nL : a ≠ X.env.locals) (n0 : X.s_0.heap.get? a = none)
    (np : ∀ p ∈ X.pn ++ pins, p.1 ≠ a) : Inv (X.suite a (X.pn ++ pins)) [] σ (upd H a (exk a C dd)) s := by
  refine ⟨I.ok.suite _ _, I.os, I.bare, ⟨I.base.keep, I.base.slot, fun b o e n hb => ?_, I.base.there, fun b xs e => ?_, fun b o u e => ?_, fun b ps e => ?_⟩, I.loc, I.cell, ?_, fun y c e => ?_, fun p hp => ?_, fun b ob e => ?_, I.len⟩
  · rw [upd_ne (fun z => by rw [z, n0] at e; cases e)]
    exact I.base.free b o e n hb
  · have q := I.base.tups b xs e
    rw [upd_ne (ne_of_none q na)]; exact q
  · have q := I.base.frzs b o u e
    rw [upd_ne (ne_of_none q na)]; exact q
  · obtain ⟨m, q⟩ := I.base.tbls b ps e
    exact ⟨m, by rw [upd_ne (ne_of_none q na)]; exact q⟩
  · show upd H a (exk a C dd) X.env.locals = none
    rw [upd_ne (Ne.symm nL)]; exact I.free
  · have hc : c ≠ a := fun z => by
      obtain ⟨v, ob, e1, e2⟩ := I.cell y c e
      rw [z, h1] at e1
      cases e1
      rw [h4] at e2
      cases e2
    rw [upd_ne hc]; exact I.freeC y c e
  · have hp' : p ∈ X.pn ++ pins := by rw [List.append_nil] at hp; exact hp
    obtain ⟨q1, q2, q3, q4, q5⟩ := I.pin p hp'
    exact ⟨q1, by rw [upd_ne (np p hp')]; exact q2, q3, q4, q5⟩
  · by_cases hb : b = a
    · subst hb
      rw [upd_same] at e
      cases e
      exact exk_ok h1 h2 h3 h4
    · rw [upd_ne hb] at e
      exact (I.hok b ob e).stay (fun _ _ _ q => q) (fun c q => by rw [upd_ne (ne_of_none q na)]; exact q) fun c xs q => by rw [upd_ne (ne_of_none q na)]; exact q
theorem inv_freed {a : Addr} (I : Inv (X.suite a (X.pn ++ pins)) [] σ H s) (ok : X.Ok) : Inv X pins σ H s :=
  ⟨ok, I.os, I.bare, I.base, I.loc, I.cell, I.free, I.freeC, fun p hp => I.pin p (List.mem_append_left _ hp), I.hok, I.len⟩
end
/-- the clause's wish of an exception of the body -/
def wHold (K : PySem.W.Frag) (c : Value) (i : Nat) (ts : TS) (D : Ends) : WX := fun cls d σ H => PySem.W.exmOne K cls c = some true ∧ ∃ C dd, cls = .ref C ∧ d = some dd ∧
  ∀ a, H a = none → ts { nx := fun σ' H' => D.nx (σ'.set i none) H', rt := D.rt, bk := fun σ' H' => D.bk (σ'.set i none) H', ct := fun σ' H' => D.ct (σ'.set i none) H' } (σ.set i (some (.ref a))) (upd H a (exk a C dd))
section
variable {X : Cx} {x n : Str} {c : Value} {i : Nat} {body suite : List Stmt} {b₀ : Stmt} {np pos pos' : Pos} {tb : WX → TS} {ts : TS}
theorem ps_tryHold (hs : X.stack = X.env :: X.outer) (hf : X.env.frame = some X.env.locals) (hex : X.ex = []) (hN : X.N.Nodup) (hi : X.N[i]? = some n) (hln : X.env.kindOf n = some .local) (hc : Names X x c)
    (hb : ∀ (W : WX) (pn : List (Addr × Obj)) (xe : Value → Shared → Prop), Takes (X.tr pn xe) W → PSs (X.tr pn xe) body (tb W))
    (hsu : ∀ (a : Addr) (pn : List (Addr × Obj)), PSs (X.suite a pn) (b₀ :: suite) ts) :
    PS X (.Try body [.ExceptHandler (some (.Name x np)) (some n) (b₀ :: suite) pos'] [] [] pos) (fun D σ H => tb (wHold X.K c i ts D) D σ H) := by
  refine ⟨fun pins s σ H D I h => wpAny_Try_except ?_⟩
  have ok := I.ok
  have hfr : X.A.frames = some (X.env :: X.outer) := ok.frames.trans (congrArg some hs)
  let hd : List ExceptHandler := [.ExceptHandler (some (.Name x np)) (some n) (b₀ :: suite) pos']
  let xe : Value → Shared → Prop := fun e t1 => wpAny (model X.prog X.w) X.A (noteFrame e X.env) (fun _ t2 => wpAny (model X.prog X.w) X.A (setFlight e none) (fun _ t3 => wpAny (model X.prog X.w) X.A (handleBy e X.env hd) (SP X pins D) X.xe t3) X.xe t2) X.xe t1
  have tk : Takes (X.tr (X.pn ++ pins) xe) (wHold X.K c i ts D) := by
    rintro u t ⟨a, B, sI, pins', σ', H', cls, d, rfl, J', nb, up, sky, na, os, ag, hm, C, dd, hcls, hdd, hw⟩
    have J : Inv X pins σ' H' sI := J'.ofTry ok
    have fresh : ∀ {o : Obj}, a ∉ frs X.stack → sI.heap.get? a = some o → B.get? a = none → False := fun {o} q e z => by
      have y := nb a o e q
      rw [z] at y
      cases y
    show wpAny (model X.prog X.w) X.A (noteFrame (.ref a) X.env) _ X.xe t
    refine Sky.land (env := X.env) (outer := X.outer) Zc.steady hfr hf (by rw [← hs]; exact sky) fun h3 fl3 up3 => ?_
    have J3 : Inv X pins σ' H' { t with heap := h3 } := J.landed nb fl3.1 (up.trans up3) os ag
    obtain ⟨oe3, vs3, he3, hz3, hd3⟩ := fl3.there
    have out : a ∉ frs (X.env :: X.outer) := fun hm => by
      obtain ⟨_, o', e', hnf⟩ := fl3.2.2.1.mem hm
      rw [he3] at e'
      cases e'
      exact hnf _ hd3
    have out' : a ∉ frs X.stack := by rw [hs]; exact out
    have hB : B.get? a = none := fl3.2.1
    have nL : a ≠ X.env.locals := fun z => out (List.mem_filterMap.mpr ⟨X.env, List.mem_cons_self, by rw [hf, z]⟩)
    have n0 : X.s_0.heap.get? a = none := by
      cases e : X.s_0.heap.get? a with
      | none => rfl
      | some o =>
        obtain ⟨o', e'⟩ := J.base.there a o e (by rw [hex]; exact fun z => nomatch z)
        exact (fresh out' e' hB).elim
    have npn : ∀ p ∈ X.pn ++ pins, p.1 ≠ a := fun p hp z => by
      obtain ⟨q1, _⟩ := J.pin p hp
      rw [z] at q1
      exact fresh out' q1 hB
    refine wpAny_handleBy_cons (codeAny_handlers_test ?_) (by intro q; cases q)
    have LT : PySem.W.Looks (model X.prog X.w) h3 (typeOf (.ref a)) cls := fun A Q E t k q => wpAny_typeOf_ref (k _ _ he3) (by rw [hz3.1]; exact q)
    have look : ∀ {Q : Value → Shared → Prop} {E : Value → Shared → Prop}, Q c { t with heap := h3 } → wpAny (model X.prog X.w) (X.A.mark (some (.ref a))) (eval (.Name x np) X.env) Q E { t with heap := h3 } := fun {Q E} q => by
      have T3 := inv_hold J3 he3 (hz3.1.trans hcls) (hz3.2.trans hdd) hd3 na nL n0 npn
      obtain ⟨hg, hdbg, hmm | ⟨hmm, hv, hnn⟩⟩ := hc
      · exact ld_glob (X := X.suite a (X.pn ++ pins)) T3 hg hmm q hdbg
      · exact ld_blt (X := X.suite a (X.pn ++ pins)) T3 hg hmm hv q hnn hdbg
    refine look ((PySem.W.exm_one J3.kIn LT hm).here (codeAny_handlers_suite_as ?_))
    refine HandSPX.lands_againZ fl3 fun h4 fl4 up4 => ?_
    have J4 : Inv X pins σ' H' { t with heap := h4 } := J.landed nb fl4.1 ((up.trans up3).trans up4) os ag
    obtain ⟨oe4, vs4, he4, hz4, hd4⟩ := fl4.there
    have T4 := inv_hold J4 he4 (hz4.1.trans hcls) (hz4.2.trans hdd) hd4 na nL n0 npn
    refine store_ok (X := X.suite a (X.pn ++ pins)) (v := .ref a) T4 hN hi (.inl hln) rfl (fun s5 T5 => ?_) (.inr hln)
    refine wpAny_mono ((hsu a (X.pn ++ pins)).run [] s5 _ _ _ T5 (hw a na)) (fun f s6 hsp => ?_) fun _ _ z => False.elim z
    have last : ∀ {σ6 : L2.St} {H6 : Hp} {Q : Shared → Prop}, Inv (X.suite a (X.pn ++ pins)) [] σ6 H6 s6 → (∀ s7, Inv X pins (σ6.set i none) H6 s7 → Q s7) →
        wpAny (model X.prog X.w) X.A (do bindName X.env n .none; unbindBehindTheSuite X.env n pos') (fun _ s7 => Q s7) X.xe s6 := fun {σ6 H6 Q} S6 hq => gone_ok (inv_freed S6 ok) hN hi hln hq
    cases f with
    | next =>
      obtain ⟨σ6, H6, S6, q6⟩ := hsp
      exact last S6 fun s7 J7 => ⟨_, _, J7, q6⟩
    | brk =>
      obtain ⟨σ6, H6, S6, q6⟩ := hsp
      exact last S6 fun s7 J7 => ⟨_, _, J7, q6⟩
    | cont =>
      obtain ⟨σ6, H6, S6, q6⟩ := hsp
      exact last S6 fun s7 J7 => ⟨_, _, J7, q6⟩
    | ret u =>
      obtain ⟨v6, σ6, H6, S6, r6, q6⟩ := hsp
      exact last S6 fun s7 J7 => ⟨_, _, _, J7, r6, q6⟩
  refine wpAny_mono ((hb (wHold X.K c i ts D) (X.pn ++ pins) xe tk).run [] s σ H D (I.toTry _) h) (fun f s1 hsp => ?_) fun e s1 he => he
  cases f with
  | next =>
    obtain ⟨σ', H', J', q⟩ := hsp
    exact wpAny_execs_nil ⟨σ', H', J'.ofTry ok, q⟩
  | brk =>
    obtain ⟨σ', H', J', q⟩ := hsp
    exact ⟨σ', H', J'.ofTry ok, q⟩
  | cont =>
    obtain ⟨σ', H', J', q⟩ := hsp
    exact ⟨σ', H', J'.ofTry ok, q⟩
  | ret u =>
    obtain ⟨v, σ', H', J', r, q⟩ := hsp
    exact ⟨v, σ', H', J'.ofTry ok, r, q⟩
end
/-- try: body except C as n (at slot i): suite -/
def sTry (i : Nat) (cs : List Str) (fb : XF) (fs : SF) : SF := fun δ => (fb δ).bind fun p => match p.1 with
  | .ok fl => some (fl, p.2)
  | .ex c d => if c ∈ cs then (fs { p.2 with sl := p.2.sl.set i (some (.fz (.exc c d))) }).map fun q => (q.1, match q.1 with
      | .rt _ => q.2
      | _ => { q.2 with sl := q.2.sl.set i none }) else none
section
variable {X : Cx} {x n : Str} {C : Addr} {i : Nat} {body suite : List Stmt} {b₀ : Stmt} {np pos pos' : Pos} {fb : XF} {fs : SF} {cs : List Str}
theorem pds_try (hs : X.stack = X.env :: X.outer) (hf : X.env.frame = some X.env.locals) (hex : X.ex = []) (hN : X.N.Nodup) (hi : X.N[i]? = some n) (hln : X.env.kindOf n = some .local) (hg : Gl X x) (hm : X.mg x = some (.ref C)) (hdb : (x == ("__debug__" : Str)) = false)
    (hcs : ∀ c ∈ cs, ∀ C', X.mg c = some (.ref C') → PySem.W.exmOne X.K (.ref C') (.ref C) = some true)
    (hb : ∀ (W : WX) (pn : List (Addr × Obj)) (xe : Value → Shared → Prop), Takes (X.tr pn xe) W → PXSs (X.tr pn xe) W body fb)
    (hsu : ∀ (a : Addr) (pn : List (Addr × Obj)), PDSs (X.suite a pn) (b₀ :: suite) fs) :
    PDS X (.Try body [.ExceptHandler (some (.Name x np)) (some n) (b₀ :: suite) pos'] [] [] pos) (sTry i cs fb fs) :=
  PS.weak (ps_tryHold (tb := fun W => xD X.K X.mg W fb) (ts := sD X.K X.mg fs) hs hf hex hN hi hln ⟨hg, hdb, .inl hm⟩ hb hsu) fun D σ H hh => by
    obtain ⟨B, F, ad, δ, r, δ', S, e, k⟩ := hh
    unfold sTry at e
    obtain ⟨⟨fx, δ1⟩, e1, e⟩ := Option.bind_eq_some_iff.mp e
    refine ⟨B, F, ad, δ, fx, δ1, S, e1, fun B1 ad1 σ1 H1 s1 p1 S1 => ?_⟩
    cases fx with
    | ok fl =>
      cases e
      exact k B1 ad1 σ1 H1 s1 p1 S1
    | ex c d =>
      intro cls dd fly
      obtain ⟨C', a1, w, rfl, rfl, hC', h4, h5⟩ := fly
      simp only at e
      split at e
      · rename_i hc
        obtain ⟨⟨fl, δ2⟩, e2, e3⟩ := Option.map_eq_some_iff.mp e
        refine ⟨hcs c hc C' hC', C', a1, rfl, rfl, fun a na => ?_⟩
        have S2 := S1.alloc (o := exk a C' a1) na
        have s2 : Same B1 (upd B1 a (exk a C' a1)) := same_new (S1.exB.free na)
        have S3 := S2.setS (i := i) (d := .fz (.exc c d)) (v := .ref a) ⟨a, C', a1, w, rfl, hC', upd_same, s2 _ _ h4, Rp.mono s2 _ _ h5⟩
        refine ⟨_, F, ad1, _, fl, δ2, S3, e2, fun B4 ad4 σ4 H4 s4 p4 S4 => ?_⟩
        have sA := (s1.trans s2).trans s4
        have pA := p1.trans p4
        cases fl with
        | nx =>
          cases e3
          exact k B4 ad4 _ H4 sA pA (S4.dropS (i := i) (x := none))
        | bk =>
          cases e3
          exact k B4 ad4 _ H4 sA pA (S4.dropS (i := i) (x := none))
        | ct =>
          cases e3
          exact k B4 ad4 _ H4 sA pA (S4.dropS (i := i) (x := none))
        | rt v =>
          cases e3
          exact k B4 ad4 _ H4 sA pA S4
      · cases e
end

/-! ### defs called where an exception is handled; they raise nothing -/
structure RmQ (k : Nat) (A : Around) : Prop where
  dp : A.depth + 3 * k + 5 < recursionLimit
  un : A.units + 16 * k + 200 < cLine
theorem RmQ.mono {j k : Nat} {A : Around} (r : RmQ k A) (h : j ≤ k) : RmQ j A := ⟨by have := r.dp; omega, by have := r.un; omega⟩
theorem RmQ.units {k : Nat} {A : Around} (r : RmQ k A) : A.units + 64 < cLine := by have := r.un; omega
theorem RmQ.units0 {k : Nat} {A : Around} (r : RmQ k A) : A.units < cLine := by have := r.un; omega
theorem rmq_of {k : Nat} {A : Around} (r : Room k A) (h : Option Value) : RmQ k (A.mark h) := ⟨r.dp, r.un⟩
/-- the context of such a def's body -/
def cxQ (P : Program) (w : World) (K : PySem.W.Frag) (mg : Str → Option Value) (base : Heap) (N : List Str) (qual : Str) (scope : Scope) (f : Addr) (cd : Value) (A : Around) (outer : List Env) (s : Shared) (H : Hp) : Cx :=
  { cxOf CX0 P w K mg base N qual scope f cd A outer s H E0 with calm := false, xe := fun _ _ => False }
structure FnQ (P : Program) (w : World) (K : PySem.W.Frag) (mg : Str → Option Value) (base : Heap) (k : Nat) (f : Addr) (fd : FuncData) (ps : List Str) (sp : Sp) : Prop where
  len : ∀ vs H Q E, sp vs H Q E → vs.length = ps.length
  run : ∀ (A : Around) (outer : List Env) (s : Shared) (H : Hp) (args : Args) (us : List Value) (vs : List V) (Q : VK), RmQ k A → Env0 P w K mg base A outer s H → BindsTo s fd args (ps.zip us) → Vals vs us → sp vs H Q E0 →
    codeAny (model P w) A (.call (.ref f) args) (CR CX0 outer P w H s Q E0) s
section
variable {P : Program} {w : World} {K : PySem.W.Frag} {mg : Str → Option Value} {base : Heap}
theorem fn_okQ {x qual : Str} {st : Stmt} {f : Addr} {fd : FuncData} {N ps : List Str} {k : Nat} {fs : SF} (F : Fun K x qual st f fd) (S : FnScope N ps (defScope st))
    (hbody : ∀ (cdv : Value) (A : Around) (outer : List Env) (s : Shared) (H : Hp), RmQ k (A.deeper (envOfC qual (defScope st) s.heap.objs.size f cdv)) → PDSs (cxQ P w K mg base N qual (defScope st) f cdv A outer s H) (defBody st) fs) :
    FnQ P w K mg base (k + 1) f fd ps (spD K mg ps.length (fnD N.length fs)) := by
  obtain ⟨oc, od, kV, doc, pm, an, cdv, ct, osl, rfl, lk, hcd⟩ := F.ex
  refine ⟨fun vs H Q E h => h.1, fun A outer s H args us vs Q hr e0 hb r hsp => ?_⟩
  have hl : vs.length = ps.length := hsp.1
  have KX : K.In s.heap := e0.mod.kin.keeps fun b o e => (e0.bs b o e).1
  have lim : s.heap.NoLimit := e0.mod.nolimit.keeps fun b o e => (e0.bs b o e).1
  have hkd : ∀ y ∈ ps.zip us, (defScope st).names.lookup y.1 = some .local ∨ ((defScope st).names.lookup y.1 = some .cell ∧ ((cellsFrom (s.heap.objs.size + 1) (defScope st).names []).lookup y.1).isSome = true) := fun ⟨m, v⟩ hy => by
    rcases S.par m (List.of_mem_zip hy).1 with q | q
    · exact .inl q
    · exact .inr ⟨q, PySem.W.cellsFrom_some _ _ _ (.inl q)⟩
  have hdep : A.depth < recursionLimit := by have := hr.dp; omega
  refine codeAny_call_function hdep (KX _ _ lk) rfl S.co S.gen rfl (PySem.W.codeRec_of KX hcd) (hb _ _ _ _ (wpAny_newFunctionEnv_cells S.kind hkd fun env he s1 x => ?_))
  subst he
  refine ⟨lim.keeps x.toInCall.keep, codeAny_func ?_⟩
  have hrd : RmQ k (A.deeper (envOfC qual (defScope st) s.heap.objs.size f cdv)) := ⟨by have := hr.dp; show A.depth + 1 + 3 * k + 5 < _; omega, by have := hr.un; show A.units + 3 + 16 * k + 200 < _; omega⟩
  have e00 : Env0 P w K mg base { A with handled := none } outer s H := ⟨e0.frames, e0.mod, e0.bs, e0.bsz, e0.funs, e0.frf, e0.hok, e0.bare⟩
  have I0 := inv_start (CX := CX0) (E := E0) (A := { A with handled := none }) S rfl e00 hl r x
  have I : Inv (cxQ P w K mg base N qual (defScope st) f cdv A outer s H) [] (start N vs) H s1 :=
    ⟨⟨I0.ok.mod, I0.ok.kind, I0.ok.glob, I0.ok.blt, I0.ok.above, I0.ok.inj, I0.ok.has, I0.ok.cab, (fun z => Bool.noConfusion (show false = true from z)), I0.ok.frames, I0.ok.stk, I0.ok.exf, I0.ok.bs, I0.ok.bsz, I0.ok.noex, I0.ok.exfs, I0.ok.funs, I0.ok.frf⟩,
      I0.os, I0.bare, I0.base, I0.loc, I0.cell, I0.free, I0.freeC, I0.pin, I0.hok, I0.len⟩
  have ht := hbody cdv A outer s H hrd
  have hq : sD K mg fs { nx := fun _ H' => Q .non H', rt := Q } (start N vs) H := by
    obtain ⟨hlen, B, Fr, ad, rs, cs, r, cs', S0, rv, e, hl, kk⟩ := hsp
    unfold fnD at e
    obtain ⟨⟨fl, δ'⟩, e1, e⟩ := Option.bind_eq_some_iff.mp e
    obtain ⟨cs2, e2, e⟩ := Option.bind_eq_some_iff.mp e
    have S1 : SRep K mg B Fr ad (start N vs) ⟨rs.map some ++ List.replicate (N.length - rs.length) none, cs.map some⟩ H := rps_start (δ := ⟨[], cs.map some⟩) S0 rv
    have hadl : ad.length = cs.length := by
      have := S0.len
      simpa using this
    refine ⟨B, Fr, ad, _, fl, δ', S1, e1, fun B' ad' σ' H' sB pA S' => ?_⟩
    obtain ⟨m, rfl⟩ := pA
    have base : SRep K mg B' Fr ad [] ⟨[], cs2.map some⟩ H' := by
      have := S'.pick e2 List.nodup_range
      rw [← hadl, addrs_range] at this
      exact this
    cases fl with
    | nx =>
      cases e
      exact kk B' .non H' sB ⟨base, rfl⟩
    | bk => cases e
    | ct => cases e
    | rt v =>
      intro u hu
      cases v with
      | fz d =>
        cases e
        exact kk B' u H' sB ⟨base, hu⟩
      | rf j =>
        simp only at e
        split at e
        · rename_i hj
          split at e
          · rename_i es hes
            cases e
            obtain ⟨a, rfl, ha⟩ := hu
            refine kk B' _ H' sB ⟨a, rfl, ?_⟩
            have hnd : (List.range cs.length ++ [j]).Nodup := by
              rw [List.nodup_append]
              refine ⟨List.nodup_range, by simp, fun x hx y hy => ?_⟩
              have hy' : y = j := by simpa using hy
              have hx' : x < cs.length := by simpa using hx
              omega
            have := S'.pick (lives_app e2 hes) hnd
            rw [addrs_app _ _ _ _ ha, ← hadl, addrs_range] at this
            exact this
          · cases e
        · cases e
  refine wpAny_mono (ht.run [] s1 (start N vs) H _ I hq) (fun fl s' hs => ?_) fun e s' hs => hs.elim
  have fin : ∀ {σ' : L2.St} {H' : Hp} {v : V} {u : Value}, Inv (cxQ P w K mg base N qual (defScope st) f cdv A outer s H) [] σ' H' s' → RelV v u → Q v H' → CE outer P w H s Q u s' :=
    fun {σ' H' v u} J rv q => ⟨v, H', J.os, J.bare, J.base, J.hok, rv, q⟩
  cases fl with
  | ret u =>
    obtain ⟨v, σ', H', J, rv, q⟩ := hs
    exact fin J rv q
  | next =>
    obtain ⟨σ', H', J, q⟩ := hs
    exact fin (v := V.non) (u := Value.none) J rfl q
  | brk =>
    obtain ⟨_, _, _, q⟩ := hs
    exact q.elim
  | cont =>
    obtain ⟨_, _, _, q⟩ := hs
    exact q.elim
end
section
variable {X : Cx} {x : Str} {p pos : Pos} {e : Expr} {es : List Expr} {fa : AF} {k n : Nat} {f : Addr} {fd : FuncData} {ps : List Str} {G : GF}
theorem pe_callQ {sp : Sp} {t : TA} (Fk : FnQ X.prog X.w X.K X.mg X.base k f fd ps sp) (hr : RmQ k X.A) (hg : Gl X x) (hm : X.mg x = some (.ref f)) (hk : PySem.W.keepIn X.K (.ref f) = true) (hb : Binds X.K fd ps []) (ha : PA X (e :: es) t)
    (hdb : (x == ("__debug__" : Str)) = false) (he : starEach (e :: es) X.env = (false, eval e X.env) :: starEach es X.env) (hpl : (backTo pos (starEach es X.env)).any (·.1) = false) :
    PE X (.Call (.Name x p) (e :: es) [] pos) (fun σ H Q => t σ H fun vs H1 => sp vs H1 Q E0) := ⟨fun pins s σ H Q I h => by
  refine wpAny_Call_Name_kw (ld_glob I hg hm ?_ hdb)
  refine PySem.W.callWith_K (h₀ := X.base) I.ok.mod.kin hk (thn (ha.run pos pins s σ H _ I h) fun us s1 hv => ?_) he hpl
  obtain ⟨vs, H1, I1, r, q⟩ := hv
  refine ⟨I1.kIn, ?_⟩
  have hl : us.length = ps.length := r.length.symm.trans (Fk.len _ _ _ _ q)
  have b := hb s1 us I1.kIn (by rw [List.append_nil]; exact hl)
  rw [List.append_nil] at b
  refine wpAny_call (codeAny_mono (Fk.run X.A X.stack s1 H1 ⟨us, []⟩ us vs Q hr I1.env0 b r q) fun rr s' hq => ?_)
  cases rr with
  | error u => exact hq.elim
  | ok fl =>
    cases fl with
    | ret u => exact I1.after hq
    | next => exact hq.elim
    | brk => exact hq.elim
    | cont => exact hq.elim⟩
theorem pd_callQ (mm : Bool) (Fk : FnQ X.prog X.w X.K X.mg X.base k f fd ps (spD X.K X.mg n G)) (hr : RmQ k X.A) (hg : Gl X x) (hm : X.mg x = some (.ref f)) (hk : PySem.W.keepIn X.K (.ref f) = true)
    (hb : Binds X.K fd ps []) (ha : PDA X (e :: es) fa) (hdb : (x == ("__debug__" : Str)) = false := by decide) (he : starEach (e :: es) X.env = (false, eval e X.env) :: starEach es X.env := by rfl)
    (hpl : (backTo pos (starEach es X.env)).any (·.1) = false := by rfl) : PD X (.Call (.Name x p) (e :: es) [] pos) (dCallN mm n G fa) :=
  PE.weak (pe_callQ Fk hr hg hm hk hb ha hdb he hpl) fun σ H Q h => by
    obtain ⟨B, F, ad, δ, r, δ', S, e, kk⟩ := h
    unfold dCallN at e
    obtain ⟨⟨rs, δ1⟩, e1, e⟩ := Option.bind_eq_some_iff.mp e
    split at e
    · rename_i hl
      refine ⟨B, F, ad, δ, rs, δ1, S, e1, fun B1 ad1 vs H1 s1 p1 S1 r1 => ?_⟩
      exact call_w S1 r1 (by rw [r1.length]; exact hl) e fun B' ad' v H' s2 p2 S' r' => kk B' ad' v H' (s1.trans s2) (p1.trans p2) S' r'
    · cases e
end
/-- what an except clause of LiftError takes -/
theorem exm_below {K : PySem.W.Frag} {mg : Str → Option Value} {L C C' : Addr} {c n : Str} (T : ExK K mg L c C) (T' : ExK K mg L n C') (TL : ExK K mg L "LiftError" L) (h : isE c n = true) (hv : n ≠ ("ValueError" : Str)) : PySem.W.exmOne K (.ref C) (.ref C') = some true := by
  have h1 := T.one TL (n := n) (u := .ref C') (.inl ⟨T'.g, hv⟩) fun _ => ⟨C', T'⟩
  rw [h] at h1
  refine PySem.W.exm_ref T'.base T'.hd T'.ty ?_
  rw [T.sub]
  congr 1
  unfold PySem.W.kitOne at h1
  by_cases hc : (Value.ref C == Value.ref C') = true
  · have e : C = C' := Value.ref.inj (beq_iff_eq.mp hc)
    subst e
    simp
  · rw [if_neg hc] at h1
    obtain ⟨cd, hcd, _⟩ := T'.cls
    have h2 : PySem.W.kitCls K (.ref C) (.ref C') = PySem.W.subIn K (.ref C) (.ref C') := by
      show (if ((PySem.W.clsIn K C').isSome && PySem.W.typeIn K (.ref C') == some (.type "type")) = true then _ else none) = _
      rw [hcd, T'.ty]
      rfl
    rw [h2, T.sub] at h1
    exact Option.some.inj h1
end PK

namespace PK
open PySem L2 PySem.Spec PyProof.Rows
theorem exm_all {K : PySem.W.Frag} {mg : Str → Option Value} {L C : Addr} {own rs cs : List Str} {n : Str} (A : ExAll K mg L own rs) (hm : mg n = some (.ref C)) (hn : n ∈ own) (hv : n ≠ ("ValueError" : Str)) (hcs : ∀ c ∈ cs, c ∈ rs ∧ isE c n = true) :
    ∀ c ∈ cs, ∀ C', mg c = some (.ref C') → PySem.W.exmOne K (.ref C') (.ref C) = some true := fun c hc C' hC' => by
  obtain ⟨h1, h2⟩ := hcs c hc
  obtain ⟨C1, T, _⟩ := A.held c h1
  obtain ⟨C2, T'⟩ := A.all n hn
  have e1 : C1 = C' := Value.ref.inj (Option.some.inj (T.g.symm.trans hC'))
  have e2 : C2 = C := Value.ref.inj (Option.some.inj (T'.g.symm.trans hm))
  subst e1 e2
  exact exm_below T T' A.top h2 hv
end PK

namespace PK
open PySem L2 PySem.Spec PyProof.Rows
/-! ### reckoning with data functions that may raise -/
theorem xSeq_ok {f g : XF} {δ δ1 : Dl} (h : f δ = some (.ok .nx, δ1)) : xSeq f g δ = g δ1 := by simp [xSeq, h]
theorem xSeq_ex {f g : XF} {δ δ1 : Dl} {c : Str} {d : D} (h : f δ = some (.ex c d, δ1)) : xSeq f g δ = some (.ex c d, δ1) := by simp [xSeq, h]
theorem xOk_ {f : SF} {δ δ1 : Dl} {fl : Fl} (h : f δ = some (fl, δ1)) : xOk f δ = some (.ok fl, δ1) := by simp [xOk, h]
theorem xDrop_ok {f : EX} {δ δ1 : Dl} {r : Vl} (h : f δ = some (.ok r, δ1)) : xDrop f δ = some (.ok .nx, δ1) := by simp [xDrop, h]
theorem xDrop_ex {f : EX} {δ δ1 : Dl} {c : Str} {d : D} (h : f δ = some (.ex c d, δ1)) : xDrop f δ = some (.ex c d, δ1) := by simp [xDrop, h]
theorem xRet_ok {f : EX} {δ δ1 : Dl} {r : Vl} (h : f δ = some (.ok r, δ1)) : xRet f δ = some (.ok (.rt r), δ1) := by simp [xRet, h]
theorem xRet_ex {f : EX} {δ δ1 : Dl} {c : Str} {d : D} (h : f δ = some (.ex c d, δ1)) : xRet f δ = some (.ex c d, δ1) := by simp [xRet, h]
theorem xIf_ {t : BF} {f g : XF} {δ δ1 : Dl} {b : Bool} (h : t δ = some (b, δ1)) : xIf t f g δ = if b = true then f δ1 else g δ1 := by simp [xIf, h]
theorem xRaise_ {c : Str} {f : EF} {δ δ1 : Dl} {d : D} (h : f δ = some (.fz d, δ1)) : xRaise c f δ = some (.ex c d, δ1) := by simp [xRaise, h, frz]
theorem okG_ok {G : GX} {rs : List Vl} {cs cs' : List (List D)} {r : Res} (h : G rs cs = some (.ok r, cs')) : okG G rs cs = some (r, cs') := by simp [okG, h]
theorem callX_ok {m : Bool} {G : GX} {rs : List Vl} {δ δ' : Dl} {r : Vl} (h : callG m (okG G) rs δ = some (r, δ')) : callX m G rs δ = some (.ok r, δ') := by simp [callX, h]
theorem callX_ex {m : Bool} {G : GX} {rs : List Vl} {δ : Dl} {c : Str} {d : D} (hr : refs rs = []) (h : G (renum 0 rs) [] = some (.ex c d, [])) : callX m G rs δ = some (.ex c d, δ) := by
  have h1 : callG m (okG G) rs δ = none := by
    unfold callG
    rw [hr]
    simp [lives, okG, h]
  unfold callX
  rw [h1, hr]
  simp [lives, h, putAll]
theorem callG_0 {G : GF} {m : Bool} {rs : List Vl} {δ : Dl} {d : D} (hr : refs rs = []) (eG : G (renum 0 rs) [] = some (.val d, [])) : callG m G rs δ = some (.fz d, δ) := by
  unfold callG
  rw [hr]
  simp [lives, eG, putAll]
theorem xcl0 {G : GX} {m : Bool} {n : Nat} {fa : AF} {δ δ' : Dl} {rs : List Vl} {d : D} (ea : fa δ = some (rs, δ')) (hl : rs.length = n) (hr : refs rs = []) (eG : G (renum 0 rs) [] = some (.ok (.val d), [])) : xCallN m n G fa δ = some (.ok (.fz d), δ') := by
  rw [xCallN, ea, Option.bind_some, if_pos hl, callX_ok (callG_0 hr (okG_ok eG))]
theorem xcl0e {G : GX} {m : Bool} {n : Nat} {fa : AF} {δ δ' : Dl} {rs : List Vl} {c : Str} {d : D} (ea : fa δ = some (rs, δ')) (hl : rs.length = n) (hr : refs rs = []) (eG : G (renum 0 rs) [] = some (.ex c d, [])) : xCallN m n G fa δ = some (.ex c d, δ') := by
  rw [xCallN, ea, Option.bind_some, if_pos hl, callX_ex hr eG]
theorem xck0 {G : GX} {m : Bool} {n nk : Nat} {ix : List Nat} {fk : AF} {δ δ' : Dl} {ss rs : List Vl} {d : D} (ea : fk δ = some (ss, δ')) (h1 : ss.length = nk) (h2 : pick ix ss = rs) (hl : rs.length = n) (hr : refs rs = []) (eG : G (renum 0 rs) [] = some (.ok (.val d), [])) : xCallK m n 0 nk ix G aNil fk δ = some (.ok (.fz d), δ') := by
  simp only [xCallK, aNil, Option.bind_some, ea, List.nil_append, h1, h2, hl, and_self, List.length_nil, if_true]
  exact callX_ok (callG_0 hr (okG_ok eG))
theorem xck0e {G : GX} {m : Bool} {n nk : Nat} {ix : List Nat} {fk : AF} {δ δ' : Dl} {ss rs : List Vl} {c : Str} {d : D} (ea : fk δ = some (ss, δ')) (h1 : ss.length = nk) (h2 : pick ix ss = rs) (hl : rs.length = n) (hr : refs rs = []) (eG : G (renum 0 rs) [] = some (.ex c d, [])) : xCallK m n 0 nk ix G aNil fk δ = some (.ex c d, δ') := by
  simp only [xCallK, aNil, Option.bind_some, ea, List.nil_append, h1, h2, hl, and_self, List.length_nil, if_true]
  exact callX_ex hr eG
theorem sTry_ok {i : Nat} {cs : List Str} {fb : XF} {fs : SF} {δ δ1 : Dl} {fl : Fl} (h : fb δ = some (.ok fl, δ1)) : sTry i cs fb fs δ = some (fl, δ1) := by simp [sTry, h]
theorem sTry_ex {i : Nat} {cs : List Str} {fb : XF} {fs : SF} {δ δ1 δ2 : Dl} {c : Str} {d : D} (h : fb δ = some (.ex c d, δ1)) (hc : c ∈ cs) (hs : fs { δ1 with sl := δ1.sl.set i (some (.fz (.exc c d))) } = some (.nx, δ2)) : sTry i cs fb fs δ = some (.nx, { δ2 with sl := δ2.sl.set i none }) := by
  simp [sTry, h, hc, hs]
theorem sTry_rt {i : Nat} {cs : List Str} {fb : XF} {fs : SF} {δ δ1 δ2 : Dl} {c : Str} {d : D} {r : Vl} (h : fb δ = some (.ex c d, δ1)) (hc : c ∈ cs) (hs : fs { δ1 with sl := δ1.sl.set i (some (.fz (.exc c d))) } = some (.rt r, δ2)) : sTry i cs fb fs δ = some (.rt r, δ2) := by
  simp [sTry, h, hc, hs]
theorem isD_ {rs ns : List Str} {f : EF} {δ δ1 : Dl} {c : Str} {d : D} (h : f δ = some (.fz (.exc c d), δ1)) (hc : c ∈ rs) : isD rs ns f δ = some (.fz (.bl (ns.any (isE c))), δ1) := by simp [isD, h, hc]
theorem exvD_ {rs : List Str} {f : EF} {δ δ1 : Dl} {c : Str} {d : D} (h : f δ = some (.fz (.exc c d), δ1)) (hc : c ∈ rs) : exvD rs f δ = some (.fz d, δ1) := by simp [exvD, h, hc]
end PK

namespace PK
open PySem L2 PySem.Spec PyProof.Rows

/-! ### a list taken by a step of 1 or -1 -/
theorem pick_one (zs : Array Value) : slicePick zs none none (some 1) = zs := by
  have a : slicePick zs none none (some 1) = slicePick zs none none none := rfl
  have b := slicePick_cut zs.toList none none
  have c : zs.toList.take zs.size = zs.toList := List.take_of_length_le (by simp)
  rw [a]
  simpa [HT.sIx, c] using b
def stepV (n : Int) (xs : List V) : List V := if n = 1 then xs else xs.reverse
def tBy (K : PySem.W.Frag) (te ts : TE) : TE := fun σ H Q => te σ H fun x G => ∃ a, x = .ref a ∧ tPart ts σ G fun y J =>
  ∃ n xs, y = some n ∧ (n = 1 ∨ n = -1) ∧ SqL K J a xs ∧ ∀ c, J c = none → Q (.ref c) (upd J c (.lst (stepV n xs)))
section
variable {X : Cx} {e st : Expr} {te ts : TE} {p3 pos : Pos}
theorem pe_by (he : PE X e te) (hs : PE X st ts) : PE X (.Subscript e (.Slice none none (some st) p3) pos) (tBy X.K te ts) := by
  refine ⟨fun pins s σ H Q I h => ?_⟩
  refine Subscript_ (thn (he.run pins s σ H _ I h) fun ov z1 ⟨x, G1, J1, w1, a, hxa, more⟩ => ?_)
  subst hxa
  cases w1
  refine wpAny_Slice (thn (po_none.run pins z1 σ G1 (fun o G => o = none ∧ G = G1) J1 ⟨rfl, rfl⟩) fun lv z2 ⟨l, G2, J2, ql, hl0, hG2⟩ => ?_)
  subst hl0 hG2
  refine thn (po_none.run pins z2 σ G2 (fun o G => o = none ∧ G = G2) J2 ⟨rfl, rfl⟩) fun uv z3 ⟨u, G3, J3, qu, hu0, hG3⟩ => ?_
  subst hu0 hG3
  refine thn ((po_some hs).run pins z3 σ G3 (fun o G => ∃ n xs, o = some n ∧ (n = 1 ∨ n = -1) ∧ SqL X.K G a xs ∧ ∀ c, G c = none → Q (.ref c) (upd G c (.lst (stepV n xs)))) J3 more) fun sv z4 ⟨o, G4, J4, qs, n, xs, ho, hn, hx, more4⟩ => ?_
  subst ho
  have J5 : Inv X pins σ G4 { z4 with heap := z4.heap.push { cls := .type "slice", data := .fields #[lv, uv, sv] } } :=
    J4.kept (t' := z4.toks) fun _ _ q => Heap.get?_push_of_some _ q
  obtain ⟨its, rv, hlst, hz⟩ := J5.list hx
  have len := rv.length
  show wpAny (model X.prog X.w) X.A (subscriptTail e (.Slice none none (some st) p3) (.ref a) (.ref z4.heap.objs.size)) (EP X pins σ Q) X.xe
    { z4 with heap := z4.heap.push { cls := .type "slice", data := .fields #[lv, uv, sv] } }
  refine tail_any (ops := [.ref a, .ref z4.heap.objs.size]) hlst.isList.typeIs PySem.slot_list_getitem.lookup ?_ (by with_unfolding_all rfl)
  refine wpAny_getItem_list_slice hlst.isList (Heap.IsSliceOf.new _ lv uv sv) ql qu qs (by rcases hn with rfl | rfl <;> decide) ?_ (by rw [List.size_toArray]; omega)
  rcases hn with rfl | rfl
  · rw [pick_one]
    refine ⟨.ref _, _, J5.laid (t' := z4.toks) (o := .lst xs) (fun _ _ q => Heap.get?_push_of_some _ q) (Nat.le_refl _) ?_, rfl, more4 _ (J5.hok.fresh (Nat.le_refl _))⟩
    exact ⟨hz, _, 0, rv, Heap.get?_push_size _ rfl⟩
  · rw [PySem.W.krv_pick]
    refine ⟨.ref _, _, J5.laid (t' := z4.toks) (o := .lst xs.reverse) (fun _ _ q => Heap.get?_push_of_some _ q) (Nat.le_refl _) ?_, rfl, more4 _ (J5.hok.fresh (Nat.le_refl _))⟩
    exact ⟨by rw [List.length_reverse]; exact hz, _, 0, rv.reverse, Heap.get?_push_size _ rfl⟩
variable {f fs : EF}
def dBy (m : Bool) (fe fs : EF) : EF := fun δ => (fe δ).bind fun p => (fs p.2).bind fun q => match q.1, der q.2 p.1 with
  | .fz (.int n), some (.lst ds) => if n = 1 then some (mk m ds q.2) else if n = -1 then some (mk m ds.reverse q.2) else none
  | _, _ => none
theorem pd_by (m : Bool) (h : PD X e f) (hs : PD X st fs) : PD X (.Subscript e (.Slice none none (some st) p3) pos) (dBy m f fs) := PE.weak (pe_by h hs) fun σ H Q h => by
  obtain ⟨B, F, ad, δ, r, δ', S, e, k⟩ := h
  unfold dBy at e
  obtain ⟨⟨x, δ1⟩, e1, e⟩ := Option.bind_eq_some_iff.mp e
  obtain ⟨⟨y, δ2⟩, e2, e⟩ := Option.bind_eq_some_iff.mp e
  refine ⟨B, F, ad, δ, x, δ1, S, e1, fun B1 ad1 v H1 s1 p1 S1 r1 => ?_⟩
  split at e
  · rename_i n ds hy e4
    simp only at hy e4
    subst hy
    have isref : ∃ a, v = .ref a := by
      cases x with
      | rf c =>
        obtain ⟨a, h2, _⟩ := r1
        exact ⟨a, h2⟩
      | fz d =>
        cases e4
        obtain ⟨a, _, h2, _⟩ := r1
        exact ⟨a, h2⟩
    obtain ⟨a, rfl⟩ := isref
    refine ⟨a, rfl, B1, F, ad1, δ1, .fz (.int n), δ2, S1, e2, fun B2 ad2 w H2 s2 p2 S2 r2 => ⟨n, r2, ?_⟩⟩
    obtain ⟨q, xs, h1, h2, h3⟩ := S2.vw (r1.mono s2 p2) e4
    cases h1
    by_cases hn : n = 1
    · rw [if_pos hn] at e
      have e' := Option.some.inj e
      refine ⟨n, xs, rfl, .inl hn, SqL.of h2, fun z hz => mk_ok (m := m) S2 hz (xs := stepV n xs) (by rw [stepV, if_pos hn]; exact h3) fun B' ad' v' H' s4 p4 S' r' => ?_⟩
      dsimp only at e'
      rw [e'] at S' r'
      exact k B' ad' v' H' ((s1.trans s2).trans s4) ((p1.trans p2).trans p4) S' r'
    · rw [if_neg hn] at e
      by_cases hm : n = -1
      · rw [if_pos hm] at e
        have e' := Option.some.inj e
        refine ⟨n, xs, rfl, .inr hm, SqL.of h2, fun z hz => mk_ok (m := m) S2 hz (xs := stepV n xs) (by rw [stepV, if_neg hn]; exact Rps.rev h3) fun B' ad' v' H' s4 p4 S' r' => ?_⟩
        dsimp only at e'
        rw [e'] at S' r'
        exact k B' ad' v' H' ((s1.trans s2).trans s4) ((p1.trans p2).trans p4) S' r'
      · rw [if_neg hm] at e
        cases e
  · cases e
end
end PK

namespace PK
open PySem L2 PySem.Spec PyProof.Rows

/-! ### xs[i] += e -/
def gLst : V → V → Hp → VK → Prop := fun o i H Q => ∃ p xs n v, o = .ref p ∧ i = .int n ∧ H p = some (.lst xs) ∧ atI xs n = some v ∧ Q v H
theorem get_lst {X : Cx} : PGet X gLst := by
  intro pins s σ H o i ov iv Q I ho hi h
  obtain ⟨p, xs, n, v, rfl, rfl, hp, hv, q⟩ := h
  cases ho
  obtain ⟨t, rfl⟩ := hi
  obtain ⟨its, k, rv, hob, hz⟩ := I.lst hp
  have hl : s.heap.IsList p its.toArray := ⟨_, hob, rfl, k, rfl⟩
  obtain ⟨j, a1, a2, a3, a4, a5⟩ := atI_get hv
  obtain ⟨w, ew, rw'⟩ := rv.get a2
  have len := rv.length
  have big := line63
  have fin : EP X pins σ Q w s := ⟨v, H, I, rw', q⟩
  by_cases h0 : 0 ≤ n
  · have hj : n.toNat = j := by
      rw [seqIndex_of h0 a5] at a1
      exact Option.some.inj a1
    exact wpAny_getItem_list hl h0 (by omega) (by rw [hj]; simpa using ew) fin
  · have hj : (n + (its.toArray.size : Int)).toNat = j := by
      rw [seqIndex_neg (by omega) a4] at a1
      rw [List.size_toArray, ← len]
      exact Option.some.inj a1
    exact wpAny_getItem_list_neg hl (by omega) (by rw [List.size_toArray] <;> omega) (by omega) (by rw [hj]; simpa using ew) fin
def putBack (z : Vl × Dl) (c : Nat) (n : Int) : Option (Fl × Dl) := match z.1 with
  | .fz d => (setIx z.2 (.rf c) (.fz (.int n)) d).map fun δ' => (.nx, δ')
  | _ => none
def sAugS (fo fi : EF) (g : OF) (fv : EF) : SF := fun δ => (fo δ).bind fun p => (fi p.2).bind fun q => match p.1, q.1 with
  | .rf c, .fz (.int n) => match q.2.st[c]? with
    | some (some ds) => (atI ds n).bind fun a => (fv q.2).bind fun r => (der r.2 r.1).bind fun b => (g r.2 a b).bind fun z => putBack z c n
    | _ => none
  | _, _ => none
section
variable {X : Cx} {o i e : Expr} {fo fi fv : EF} {g : OF} {op : Operator} {tpos pos : Pos}
theorem pds_augS (hop : OpR X (inplaceOp op) (rD X.K X.mg g)) (ho : PD X o fo) (hi : PD X i fi) (he : PD X e fv)
    (hst : ∀ u w nw, augStore i u w nw = (do
      holding [nw, u, w] (setItem u w nw)
      release [nw, u, w] []
      pure .next) := by intros; rfl) : PDS X (.AugAssign (.Subscript o i tpos) op e pos) (sAugS fo fi g fv) :=
  PS.weak (ps_augS (tip := rD X.K X.mg g) ho hi get_lst he (fun pins s σ H x y v u Q I rx ry h => hop pins s σ H x y v u Q I rx ry h) set_list hst) fun D σ H h => by
  obtain ⟨B, F, ad, δ, r, δ', S, e, k⟩ := h
  unfold sAugS at e
  obtain ⟨⟨x, δ1⟩, e1, e⟩ := Option.bind_eq_some_iff.mp e
  obtain ⟨⟨y, δ2⟩, e2, e⟩ := Option.bind_eq_some_iff.mp e
  refine ⟨B, F, ad, δ, x, δ1, S, e1, fun B1 ad1 v1 H1 s1 p1 S1 r1 => ?_⟩
  refine ⟨B1, F, ad1, δ1, y, δ2, S1, e2, fun B2 ad2 v2 H2 s2 p2 S2 r2 => ?_⟩
  split at e
  · rename_i c n hx hy
    simp only at hx hy
    subst hx hy
    split at e
    · rename_i ds hk
      obtain ⟨a, ea, e⟩ := Option.bind_eq_some_iff.mp e
      obtain ⟨⟨w, δ3⟩, e3, e⟩ := Option.bind_eq_some_iff.mp e
      obtain ⟨b, e4, e⟩ := Option.bind_eq_some_iff.mp e
      obtain ⟨⟨z, δ4⟩, e5, e⟩ := Option.bind_eq_some_iff.mp e
      have r1' := r1.mono s2 p2
      obtain ⟨A, h1, h2⟩ := r1'
      obtain ⟨q, xs, g1, g2, g3, _, _⟩ := S2.cell _ _ hk
      rw [h2] at g1
      cases g1
      obtain ⟨va, hva, ra⟩ := atI_rps g3 ea
      refine ⟨A, xs, n, va, h1, r2, g2, hva, ?_⟩
      refine ⟨B2, F, ad2, δ2, w, δ3, S2, e3, fun B3 ad3 v3 H3 s3 p3 S3 r3 => ?_⟩
      refine ⟨B3, F, ad3, σ, δ3, a, b, z, δ4, S3, Rp.vw S3.exB (Rp.mono s3 _ _ ra), S3.vw r3 e4, e5, fun B4 ad4 v4 H4 s4 p4 S4 r4 => ?_⟩
      unfold putBack at e
      cases z with
      | rf _ => cases e
      | fz d =>
        obtain ⟨δ5, e6, e7⟩ := Option.map_eq_some_iff.mp e
        cases e7
        unfold setIx at e6
        simp only at e6
        split at e6
        · rename_i es hk4
          obtain ⟨j, e8, e9⟩ := Option.map_eq_some_iff.mp e6
          cases e9
          obtain ⟨q', ys, f1, f2, f3, _, _⟩ := S4.cell _ _ hk4
          have hA : ad4[c]? = some A := (p3.trans p4).get h2
          rw [hA] at f1
          cases f1
          have hl := Rps.length f3
          exact ⟨A, ys, n, j, h1, r2, f2, by rw [hl]; exact e8, k B4 ad4 σ _ (((s1.trans s2).trans s3).trans s4) (((p1.trans p2).trans p3).trans p4) (S4.cellSet hk4 hA f2 (Rps.set f3 r4))⟩
        · cases e6
    · cases e
  · cases e
end
end PK

namespace PK
open PySem L2 PySem.Spec PyProof.Rows

/-! ### is, is not of two booleans -/
def isBD (neg : Bool) : OF := fun δ x y => match x, y with
  | .bl a, .bl b => some (.fz (.bl (if neg then !decide (a = b) else decide (a = b))), δ)
  | _, _ => none
section
variable {X : Cx}
theorem od_isB : OpR X (compareOp .Is) (rD X.K X.mg (isBD false)) := by
  intro pins s σ H x y v u Q I rx ry h
  obtain ⟨B, F, ad, σ', δ, dx, dy, r, δ', S, vx, vy, e, k⟩ := h
  unfold isBD at e
  split at e
  · rename_i a b
    cases e
    exact op_isBl pins s σ H x y v u Q I rx ry ⟨a, b, vx, vy, here (d := .bl (decide (a = b))) S rfl k⟩
  · cases e
theorem od_notB : OpR X (compareOp .IsNot) (rD X.K X.mg (isBD true)) := by
  intro pins s σ H x y v u Q I rx ry h
  obtain ⟨B, F, ad, σ', δ, dx, dy, r, δ', S, vx, vy, e, k⟩ := h
  unfold isBD at e
  split at e
  · rename_i a b
    cases e
    exact op_notBl pins s σ H x y v u Q I rx ry ⟨a, b, vx, vy, here (d := .bl (!decide (a = b))) S rfl k⟩
  · cases e
theorem bo_isB {neg : Bool} : BoolOf (isBD neg) := by
  intro δ x y r δ' e
  unfold isBD at e
  split at e
  · cases e
    exact ⟨_, rfl⟩
  · cases e
end
end PK

namespace PK
open PySem L2 PySem.Spec PyProof.Rows

/-! ### bs.count(b), bs.index(b) of booleans -/
theorem upd_back {H : Hp} {a : Addr} {o : HO} (h : H a = some o) : upd H a o = H := by
  funext z
  unfold upd
  split
  · rename_i e
    rw [e, h]
  · rfl
def rCntB (K : PySem.W.Frag) : V → List V → Hp → VK → Prop := fun x xs H Q => ∃ (a : Addr) (bs : List Bool) (b : Bool), x = .ref a ∧ xs = [.bl b] ∧ SqL K H a (bs.map V.bl) ∧ Q (.int (bs.count b : Nat)) H
theorem flat_bls (bs : List Bool) : (bs.map V.bl).all flatV = true := by
  induction bs with
  | nil => rfl
  | cons b bs ih => simp [flatV]
theorem cnt_bls {b : Bool} : ∀ {bs : List Bool} {us : List Value}, Vals (bs.map V.bl) us → us.countP (eqU (.bl b)) = bs.count b
  | [], us, r => by cases r; rfl
  | c :: bs, us, r => by
    cases r with
    | cons ry rt =>
      have ih := cnt_bls (b := b) rt
      rw [List.countP_cons, List.count_cons, ih, eqU_of ry rfl]
      cases c <;> cases b <;> rfl
section
variable {X : Cx} {o e : Expr} {fo fe : EF}
theorem mt_cntB : MtR X "list.count" (rCntB X.K) := by
  intro pins s σ H x xs v us Q I rx rxs h
  obtain ⟨a, bs, b, rfl, rfl, hs, q⟩ := h
  cases rx
  cases rxs with
  | cons ry rt =>
    rename_i uy ut
    cases rt
    obtain ⟨its, rv, ⟨⟨cls, dd, data, sl⟩, n, ho, hc, hdn, hd⟩, hlen⟩ := I.list hs
    simp only at hc hd
    subst hc hd
    refine call_meets PySem.F.slot_list_count ⟨_, ho, rfl⟩ PySem.F.entry_list_count (PySem.F.args_list_count_2 _ _)
      (SeqAt.list_countAt a its.toArray n dd sl uy (eqU (.bl b))) ⟨ho, fun u' hu' => mem_eqAt ry rfl rv (flat_bls bs) u' (by simpa using hu'), ?_⟩
    have ec : its.toArray.toList.countP (eqU (.bl b)) = bs.count b := cnt_bls rv
    refine ⟨.int (bs.count b : Nat), H, I.tok _, ⟨s.toks, ?_⟩, q⟩
    show Value.int ((its.toArray.toList.countP (eqU (.bl b)) : Nat) : Int) s.toks = _
    rw [ec]
def cntD : MF := fun as ds => match as, bls ds with
  | [.bl b], some bs => some (.int (bs.count b : Nat), ds)
  | _, _ => none
theorem mtd_cnt : MtD X cntD (rCntB X.K) := by
  intro B F ad σ δ H k ds as z a xs vs Q S hk ha hx r rv e q
  unfold cntD at e
  split at e
  · rename_i b bs hb
    cases e
    obtain ⟨v, w, rfl, h2, h3⟩ := rv
    have h3' : w = [] := h3
    subst h3'
    have h2' : v = .bl b := h2
    subst h2'
    have hxs := bls_rps r hb
    subst hxs
    exact ⟨a, bs, b, rfl, rfl, SqL.of hx, q _ _ _ (upd_back hx).symm r rfl⟩
  · cases e
/-- the place of the first one -/
def idxB (b : Bool) : List Bool → Option Nat
  | [] => none
  | c :: bs => if c = b then some 0 else (idxB b bs).map (· + 1)
theorem idxB_get {b : Bool} : ∀ {bs : List Bool} {j : Nat}, idxB b bs = some j → bs[j]? = some b ∧ ∀ m, m < j → bs[m]? ≠ some b
  | [], j, h => by cases h
  | c :: bs, j, h => by
    unfold idxB at h
    split at h
    · rename_i hc
      cases h
      exact ⟨by simp [hc], fun m hm => by omega⟩
    · rename_i hc
      obtain ⟨i, hi, rfl⟩ := Option.map_eq_some_iff.mp h
      obtain ⟨h1, h2⟩ := idxB_get hi
      refine ⟨by simpa using h1, fun m hm => ?_⟩
      cases m with
      | zero => simpa using hc
      | succ m => simpa using h2 m (by omega)
def idxD : MF := fun as ds => match as, bls ds with
  | [.bl b], some bs => (idxB b bs).map fun j => (.int (j : Nat), ds)
  | _, _ => none
theorem mtd_idx : MtD X idxD (rIndex X.K) := by
  intro B F ad σ δ H k ds as z a xs vs Q S hk ha hx r rv e q
  unfold idxD at e
  split at e
  · rename_i b bs hb
    obtain ⟨j, hj, e2⟩ := Option.map_eq_some_iff.mp e
    cases e2
    obtain ⟨v, w, rfl, h2, h3⟩ := rv
    have h3' : w = [] := h3
    subst h3'
    have h2' : v = .bl b := h2
    subst h2'
    have hxs := bls_rps r hb
    subst hxs
    obtain ⟨g1, g2⟩ := idxB_get hj
    refine ⟨a, bs.map V.bl, .bl b, j, .bl b, rfl, rfl, SqL.of hx, rfl, flat_bls bs, by rw [List.getElem?_map, g1]; rfl, by cases b <;> rfl, fun m z' hm hz => ?_, q _ _ _ (upd_back hx).symm r rfl⟩
    rw [List.getElem?_map] at hz
    obtain ⟨c, hc, rfl⟩ := Option.map_eq_some_iff.mp hz
    have hne : c ≠ b := fun h => g2 m hm (by rw [hc, h])
    cases c <;> cases b <;> first | rfl | exact absurd rfl hne
  · cases e
theorem pd_cnt {ap cp : Pos} (ho : PD X o fo) (he : PD X e fe) (hbase : attributeBase o "count" X.env (eval o X.env) = eval o X.env := by rfl)
    (hfw : ((backTo cp (starEach [e] X.env)).all (fun x => !x.1) && (backToKw cp (keywordEach [] X.env)).all (fun x => x.1.isSome)
      && decide ([e].length + ([] : List Keyword).length + (if ([] : List Keyword).isEmpty then 0 else 1) < 30)) = true := by rfl)
    (hln : (ap.endLine == cp.line) = true := by rfl) (hse : starEach [e] X.env = (false, eval e X.env) :: starEach [] X.env := by rfl)
    (hpn : (backTo cp (starEach [] X.env)).any (·.1) = false := by rfl) : PD X (.Call (.Attribute o "count" ap) [e] [] cp) (dMt cntD fo (aCons fe aNil)) :=
  PE.weak (pe_bm PySem.F.plainAttrs_list PySem.F.slot_list_count PySem.F.type_list_count mt_cntB ho (pda_cons he pda_nil hse) hbase hfw hln hse hpn) fun σ H Q h => mt_w mtd_cnt h
theorem pd_idx {ap cp : Pos} (ho : PD X o fo) (he : PD X e fe) (hbase : attributeBase o "index" X.env (eval o X.env) = eval o X.env := by rfl)
    (hfw : ((backTo cp (starEach [e] X.env)).all (fun x => !x.1) && (backToKw cp (keywordEach [] X.env)).all (fun x => x.1.isSome)
      && decide ([e].length + ([] : List Keyword).length + (if ([] : List Keyword).isEmpty then 0 else 1) < 30)) = true := by rfl)
    (hln : (ap.endLine == cp.line) = true := by rfl) (hse : starEach [e] X.env = (false, eval e X.env) :: starEach [] X.env := by rfl)
    (hpn : (backTo cp (starEach [] X.env)).any (·.1) = false := by rfl) : PD X (.Call (.Attribute o "index" ap) [e] [] cp) (dMt idxD fo (aCons fe aNil)) :=
  PE.weak (pe_bm PySem.F.plainAttrs_list PySem.F.slot_list_index PySem.F.type_list_index mt_index ho (pda_cons he pda_nil hse) hbase hfw hln hse hpn) fun σ H Q h => mt_w mtd_idx h
end
end PK

namespace PK
open PySem L2 PySem.Spec PyProof.Rows

/-! ### min(ns), max(ns) of a list of integers -/
def minI : List Int → Option Int
  | [] => none
  | x :: r => match minI r with
    | none => some x
    | some m => some (if x ≤ m then x else m)
def maxI : List Int → Option Int
  | [] => none
  | x :: r => match maxI r with
    | none => some x
    | some m => some (if m ≤ x then x else m)
theorem minI_none : ∀ {ns : List Int}, minI ns = none → ns = []
  | [], _ => rfl
  | x :: r, h => by
    unfold minI at h
    split at h <;> cases h
theorem maxI_none : ∀ {ns : List Int}, maxI ns = none → ns = []
  | [], _ => rfl
  | x :: r, h => by
    unfold maxI at h
    split at h <;> cases h
theorem minI_of : ∀ {ns : List Int} {m : Int}, minI ns = some m → m ∈ ns ∧ ∀ y ∈ ns, m ≤ y
  | [], m, h => by cases h
  | x :: r, m, h => by
    unfold minI at h
    split at h
    · rename_i e
      cases h
      rw [minI_none e]
      exact ⟨List.mem_singleton.mpr rfl, fun y hy => by rw [List.mem_singleton.mp hy]; omega⟩
    · rename_i k e
      cases h
      obtain ⟨h1, h2⟩ := minI_of e
      refine ⟨?_, fun y hy => ?_⟩
      · split
        · exact List.mem_cons_self
        · exact List.mem_cons_of_mem _ h1
      · rcases List.mem_cons.mp hy with rfl | hy
        · split <;> omega
        · have := h2 y hy
          split <;> omega
theorem maxI_of : ∀ {ns : List Int} {m : Int}, maxI ns = some m → m ∈ ns ∧ ∀ y ∈ ns, y ≤ m
  | [], m, h => by cases h
  | x :: r, m, h => by
    unfold maxI at h
    split at h
    · rename_i e
      cases h
      rw [maxI_none e]
      exact ⟨List.mem_singleton.mpr rfl, fun y hy => by rw [List.mem_singleton.mp hy]; omega⟩
    · rename_i k e
      cases h
      obtain ⟨h1, h2⟩ := maxI_of e
      refine ⟨?_, fun y hy => ?_⟩
      · split
        · exact List.mem_cons_self
        · exact List.mem_cons_of_mem _ h1
      · rcases List.mem_cons.mp hy with rfl | hy
        · split <;> omega
        · have := h2 y hy
          split <;> omega
def minLD : CF := g1 fun δ d => match d with
  | .lst ds => (intsD ds).bind fun ns => (minI ns).map fun m => (.fz (.int m), δ)
  | _ => none
def maxLD : CF := g1 fun δ d => match d with
  | .lst ds => (intsD ds).bind fun ns => (maxI ns).map fun m => (.fz (.int m), δ)
  | _ => none
section
variable {X : Cx}
theorem oc_minL (hc : X.calm = true) : CallR X (.builtin "min") (rDC X.K X.mg minLD) := by
  intro pins s σ H xs us Q I r h
  obtain ⟨v, rfl, B, F, ad, σ', δ, d, r', δ', S, vw, e, k⟩ := rDC1 h
  refine cr_min hc pins s σ H _ us Q I r ?_
  cases d with
  | lst ds =>
    obtain ⟨ns, e1, e2⟩ := Option.bind_eq_some_iff.mp e
    obtain ⟨m, e3, e4⟩ := Option.map_eq_some_iff.mp e2
    cases e4
    obtain ⟨q, xs, h1, h2, h3⟩ := vw
    have := ints_rps h3 e1
    subst this
    obtain ⟨g1, g2⟩ := minI_of e3
    refine ⟨q, ns, by rw [h1], SqL.of h2, List.length_pos_of_mem g1, fun m' a1 a2 => ?_⟩
    have : m' = m := by
      have := g2 m' a1
      have := a2 m g1
      omega
    rw [this]
    exact here (d := .int _) S rfl k
  | _ => cases e
theorem oc_maxL (hc : X.calm = true) : CallR X (.builtin "max") (rDC X.K X.mg maxLD) := by
  intro pins s σ H xs us Q I r h
  obtain ⟨v, rfl, B, F, ad, σ', δ, d, r', δ', S, vw, e, k⟩ := rDC1 h
  refine cr_max hc pins s σ H _ us Q I r ?_
  cases d with
  | lst ds =>
    obtain ⟨ns, e1, e2⟩ := Option.bind_eq_some_iff.mp e
    obtain ⟨m, e3, e4⟩ := Option.map_eq_some_iff.mp e2
    cases e4
    obtain ⟨q, xs, h1, h2, h3⟩ := vw
    have := ints_rps h3 e1
    subst this
    obtain ⟨g1, g2⟩ := maxI_of e3
    refine ⟨q, ns, by rw [h1], SqL.of h2, List.length_pos_of_mem g1, fun m' a1 a2 => ?_⟩
    have : m' = m := by
      have := g2 m' a1
      have := a2 m g1
      omega
    rw [this]
    exact here (d := .int _) S rfl k
  | _ => cases e
end
end PK

namespace PK
open PySem PySem.Spec PyProof.Rows L2 RZ
/-! ### enumerate(tuple) -/
/-- the heap behind the making of the enumerator: the tuple's iterator, and it -/
def etHeap (h : Heap) (q : Addr) : Heap :=
  Heap.push (Heap.push h ⟨.type "tuple_iterator", Option.none, .fields #[.ref q, .int 0 0], #[]⟩) ⟨.type "enumerate", Option.none, .fields #[.none, .bool false, .ref h.objs.size, rawInt 0, .none, .none], #[]⟩
theorem et_meets (q : Addr) (xs : Array Value) (c : Nat) (di : Option Addr) (ss : Array (Option Value)) :
    Meets (Builtin.«enumerate.__new__» ⟨[.type "enumerate", .ref q], []⟩) (fun _ R z => z.heap.get? q = some ⟨.type "tuple", di, .seq xs c, ss⟩ ∧ R (.ok (.ret (.ref (z.heap.objs.size + 1)))) { z with heap := etHeap z.heap q }) :=
  .of_wp fun P W A R z both => by
    obtain ⟨hh, gg, dd, tt, oo⟩ := z
    obtain ⟨gq, good⟩ := both
    have sz : (Heap.push hh ⟨.type "tuple_iterator", Option.none, .fields #[.ref q, .int 0 0], #[]⟩).objs.size = hh.objs.size + 1 := Heap.size_push ..
    have good' : R (.ok (.ret (.ref (Heap.push hh ⟨.type "tuple_iterator", Option.none, .fields #[.ref q, .int 0 0], #[]⟩).objs.size))) ⟨etHeap hh q, gg, dd, tt, oo⟩ := by
      rw [sz]
      exact good
    have hsub := sub_enumerate
    have tq : Heap.IsTuple (Shared.heap ⟨hh, gg, dd, tt, oo⟩) q xs := ⟨_, gq, rfl, c, rfl⟩
    wp_walk using AutoSeq1.wpAny_loadPart' gq
    refine wpAny_stack_any fun _ => wpAny_pure ?_
    split
    · rename_i T _ _ _ _ _
      cases (T == Value.type "enumerate") <;>
        (wp_walk using AutoSeq1.wpAny_loadPart' gq, wpAny_pyIter_tuple tq
         exact ⟨_, rfl, good'⟩)
    · wp_walk using AutoSeq1.wpAny_loadPart' gq, wpAny_pyIter_tuple tq
      exact ⟨_, rfl, good'⟩
theorem et_call {P : Program} {W : World} {A : Around} {E : Value → Shared → Prop} {z : Shared} {q : Addr} {xs : Array Value} {Q : Value → Shared → Prop} (tq : z.heap.IsTuple q xs)
    (good : IsEnum (etHeap z.heap q) (z.heap.objs.size + 1) z.heap.objs.size 0 .none → (etHeap z.heap q).IsTupleIter z.heap.objs.size q 0 → (∀ b o, z.heap.get? b = some o → (etHeap z.heap q).get? b = some o) → Q (.ref (z.heap.objs.size + 1)) { z with heap := etHeap z.heap q }) :
    wpAny (model P W) A (call (.type "enumerate") [.ref q]) Q E z := by
  obtain ⟨⟨k, di, da, ss⟩, gq, hk, c, hd⟩ := tq
  obtain rfl : k = .type "tuple" := hk
  obtain rfl : da = .seq xs c := hd
  have sz : (Heap.push z.heap ⟨.type "tuple_iterator", Option.none, .fields #[.ref q, .int 0 0], #[]⟩).objs.size = z.heap.objs.size + 1 := Heap.size_push ..
  have en : IsEnum (etHeap z.heap q) (z.heap.objs.size + 1) z.heap.objs.size 0 .none := by
    have e := Heap.get?_push_size (Heap.push z.heap ⟨.type "tuple_iterator", Option.none, .fields #[.ref q, .int 0 0], #[]⟩) (o := ⟨.type "enumerate", Option.none, .fields #[.none, .bool false, .ref z.heap.objs.size, rawInt 0, .none, .none], #[]⟩) rfl
    rw [sz] at e
    exact e
  have new := callType_new (prog := P) (w := W) (A := A) (E := E) (s := z) (Q := Q) F.called_enumerate (by decide) (F.typeCall_enumerate_1 (.ref q)) (F.newCall_enumerate_1 _) (fun o => F.args_object_init_2 o _) F.entry_enumerate_new (et_meets q xs c di ss)
  exact new ⟨gq, ⟨_, en, rfl⟩, good en ⟨_, Heap.get?_push_of_some _ (Heap.get?_push_size _ rfl), rfl, rfl⟩ fun b o x => Heap.get?_push_of_some _ (Heap.get?_push_of_some _ x)⟩
theorem et_draws {P : Program} {W : World} {A : Around} (hd : A.handled = none) {i q : Addr} (ne : q ≠ i) (xs : Array Value) :
    Draws P W A i [i, q] xs.size (fun k v => xs[k]? = some v) (fun k h => h.IsTupleIter i q k ∧ h.IsTuple q xs) where
  live := by
    rintro k h ⟨⟨o, g, _⟩, _⟩
    exact ⟨o, g⟩
  frame := by
    rintro k h h' ⟨a, b⟩ keep
    exact ⟨a.at (keep i (by simp)), b.at (keep q (by simp))⟩
  item := by
    rintro k z Q E hk ⟨a, b⟩ good
    have g : xs[k]? = some xs[k] := by simp [hk]
    exact nextOf_tuple_item a b g fun h' a' sb => good _ h' z.toks g ⟨a', b.extBut sb.extBut ne⟩ sb
  done := by
    rintro z Q E ⟨a, b⟩ good
    exact nextOf_tuple_end hd a b (by simp) good
/-- the tuple at a, each item in a new pair -/
def Iet (K : PySem.W.Frag) (a : Addr) (n : Nat) : It :=
  ⟨fun i H => i < n ∧ ∃ (xs : List V) (x : V), SqT K H a xs ∧ xs.length = n ∧ xs[i]? = some x, fun i H v H' => ∃ T x, v = .ref T ∧ H T = none ∧ H' = upd H T (.tup [.int (i : Nat), x]) ∧ ∀ xs, SqT K H a xs → xs[i]? = some x, fun i H => i = n ∧ ∃ xs : List V, SqT K H a xs ∧ xs.length = n⟩
theorem et_turn {P : Program} {w : World} {K : PySem.W.Frag} {elts : List Expr} {kk n : Nat} {tpos : Pos} (a e it : Addr) :
    Turn P w K (.Tuple elts kk tpos) (Iet K a n) [e, it] e (fun i h => (∃ old, IsEnum h e it ((i : Nat) : Int) old) ∧ h.IsTupleIter it a i ∧ e ≠ it ∧ a ≠ it ∧ e ≠ a) where
  mem := List.mem_cons_self
  obj := by
    rintro i h ⟨⟨old, he⟩, ⟨o, ho, hc, hd⟩, _⟩ b hb
    simp only [List.mem_cons, List.not_mem_nil, or_false] at hb
    rcases hb with rfl | rfl
    · exact ⟨_, he, fun v q => nomatch q⟩
    · exact ⟨o, ho, fun v q => by rw [hd] at q; cases q⟩
  keep := by
    rintro i h h' ⟨⟨old, he⟩, hi, rest⟩ k
    exact ⟨⟨old, k e (by simp) _ he⟩, hi.at (k it (by simp)), rest⟩
  item := by
    intro X hP hw hK hc i pins s σ H E I hf st hg
    subst hP hw hK
    obtain ⟨⟨old, he⟩, hit, hne, hai, hea⟩ := st
    obtain ⟨_, xs, x, hq, _, hx⟩ := hg
    obtain ⟨us, rv, tup, _⟩ := I.tuple hq
    obtain ⟨u, hu, ru⟩ := rv.get hx
    have ltE : e < s.heap.objs.size := Heap.lt_size he
    have ltI : it < s.heap.objs.size := by obtain ⟨_, q, _⟩ := hit; exact Heap.lt_size q
    have lt : i < us.toArray.size := by
      obtain ⟨l, _⟩ := List.getElem?_eq_some_iff.mp hu
      simpa using l
    have nin : e ∉ [it, a] := by simp [hne, hea]
    refine wpAny_pyNext_enum_itemD (et_draws (A := X.A.in1) (I.ok.hd hc) hai us.toArray) he ⟨hit, tup⟩ lt hne nin fun y h1 tk hy out next got _ same => ?_
    obtain rfl : u = y := Option.some.inj (hu.symm.trans (by simpa using hy))
    refine ⟨_, rfl, wpAny_letOwnedTupleGo_enum (s := { s with heap := h1, toks := tk + 1 }) out fun h2 he2 sb => ?_⟩
    have got2 : h2.get? s.heap.objs.size = some { cls := .type "tuple", data := .seq #[.int i tk, u] } := (sb.2 _ (Nat.ne_of_gt ltE)).trans got
    have fresh : ObjOk X.prog X.w (upd H s.heap.objs.size (.tup [.int (i : Nat), x])) h2 s.heap.objs.size (.tup [.int (i : Nat), x]) :=
      ⟨(by decide : 2 ≤ sizeLine), [.int i tk, u], .cons ⟨_, rfl⟩ (.cons ru .nil), _, got2, rfl, _, rfl⟩
    have old1 : ∀ b o, b ∉ [e, it] → s.heap.get? b = some o → h2.get? b = some o := fun b o hb q => by
      simp only [List.mem_cons, List.not_mem_nil, or_false, not_or] at hb
      exact (sb.2 b hb.1).trans (same b o hb.1 hb.2 q)
    have I1 := I.turnedNew (t' := tk + 1) (ch := [e, it]) old1 hf (Nat.le_refl _) fresh
    have s2 : h2.IsTupleIter it a (i + 1) := next.1.at fun o q => (sb.2 it (Ne.symm hne)).trans q
    have en2 : IsEnum h2 e it (((i + 1 : Nat) : Nat) : Int) u := by
      rw [show (((i + 1 : Nat) : Nat) : Int) = (i : Int) + 1 by omega]
      exact he2
    refine ⟨.ref s.heap.objs.size, _, I1, rfl, ⟨_, x, rfl, I.hok.fresh (Nat.le_refl _), rfl, fun ys hy => by rw [I.tuple_inj hy hq]; exact hx⟩, ⟨⟨u, en2⟩, s2, hne, hai, hea⟩, fun b hb => ?_⟩
    have old2 := (hf b hb).1
    simp only [List.mem_cons, List.not_mem_nil, or_false] at hb
    have lb : b ≠ s.heap.objs.size := hb.elim (fun q => by rw [q]; exact Nat.ne_of_lt ltE) fun q => by rw [q]; exact Nat.ne_of_lt ltI
    rw [upd_ne lb]
    exact old2
  done := by
    intro X hP hw hK hc i pins s σ H E I hf st hg
    subst hP hw hK
    obtain ⟨⟨old, he⟩, hit, hne, hai, hea⟩ := st
    obtain ⟨hin, xs, hq, hl⟩ := hg
    obtain ⟨us, rv, tup, _⟩ := I.tuple hq
    obtain ⟨f0, f1, f2, f3, f4, f5⟩ := hf it (by simp)
    have sz : us.toArray.size = i := by
      have := rv.length
      simp
      omega
    have st : s.heap.IsTupleIter it a us.toArray.size ∧ s.heap.IsTuple a us.toArray := ⟨by rw [sz]; exact hit, tup⟩
    exact wpAny_pyNext_enum_endD (et_draws (A := X.A.in1) (I.ok.hd hc) hai us.toArray) he st fun h1 eb => ⟨rfl, I.turned (t' := s.toks) (fun b o hb q => eb b o hb q) f0 f1 f3 f4 f5⟩
  self := fun _ _ _ _ _ st h => let ⟨⟨_, he⟩, _⟩ := st; wpAny_pyIter_enum he h
theorem et_walk {K : PySem.W.Frag} {a : Addr} {xs : List V} : Walk (Iet K a xs.length) xs.length (fun H => SqT K H a xs) (YPair (fun i => some (.int (i : Nat))) (fun i => xs[i]?)) :=
  ⟨fun i _ hi q => ⟨hi, xs, xs[i], q, rfl, by simp [hi]⟩, fun _ q => ⟨rfl, xs, q, rfl⟩, fun i H v H' _ q ⟨T, x, h1, h2, h3, h4⟩ => ⟨T, .int (i : Nat), x, h1, h2, h3, rfl, h4 xs q⟩⟩
def iEnumT (K : PySem.W.Frag) (ta : TA) : TI := fun σ H R => ta σ H fun vs H1 => ∃ a xs, vs = [.ref a] ∧ SqT K H1 a xs ∧ R (Iet K a xs.length) H1
theorem pi_enumT {X : Cx} {e : Expr} {ta : TA} {p pos tpos : Pos} {elts : List Expr} {kk : Nat} (hg : Gl X "enumerate") (hm : X.mg "enumerate" = none) (ha : PA X [e] ta) (hs : starEach [e] X.env = [(false, eval e X.env)] := by rfl) :
    PI X (.Tuple elts kk tpos) (.Call (.Name "enumerate" p) [e] [] pos) (iEnumT X.K ta) := by
  refine ⟨fun pins s σ H R I h => Call_ (ld_blt I hg hm boot_enumerate (PyProof.Rows.callWith_type1 (thn (ha.run pos pins s σ H _ I h) ?_) hs rfl))⟩
  rintro us z ⟨vs, H1, I1, r1, a, xs, rfl, hq, good⟩
  cases r1 with
  | cons r rr =>
    cases rr
    cases r
    obtain ⟨us, rv, tup, _⟩ := I1.tuple hq
    have la : a < z.heap.objs.size := by obtain ⟨o, g, _⟩ := tup; exact Heap.lt_size g
    refine et_call tup fun en it keep => wpAny_pyIter_enum en ?_
    have I2 : Inv X pins σ H1 { z with heap := etHeap z.heap a } := I1.kept (t' := z.toks) keep
    refine ⟨z.heap.objs.size + 1, [z.heap.objs.size + 1, z.heap.objs.size], _, _, H1, rfl, I2, et_turn a (z.heap.objs.size + 1) z.heap.objs.size, ⟨⟨.none, en⟩, it, Nat.succ_ne_self _, Nat.ne_of_lt la, Nat.ne_of_gt (Nat.lt_succ_of_lt la)⟩, fun b hb => ?_, good⟩
    simp only [List.mem_cons, List.not_mem_nil, or_false] at hb
    have le : z.heap.objs.size ≤ b := hb.elim (fun q => by rw [q]; exact Nat.le_succ _) fun q => by rw [q]; exact Nat.le_refl _
    exact I1.fpOk le (I1.hok.fresh le)
def iEnumTD (f : EF) : IF := fun δ => (f δ).bind fun p => match p.1 with
  | .fz (.tup ds) => some (enumD 0 ds, [], p.2)
  | _ => none
theorem pdi_enumT {X : Cx} {e : Expr} {f : EF} {p pos tpos : Pos} {elts : List Expr} {kk : Nat} (hg : Gl X "enumerate") (hm : X.mg "enumerate" = none) (ha : PD X e f) (hs : starEach [e] X.env = [(false, eval e X.env)] := by rfl) :
    PDI X (.Tuple elts kk tpos) (.Call (.Name "enumerate" p) [e] [] pos) (iEnumTD f) := PI.weak (pi_enumT hg hm (pa_cons ha pa_nil hs) hs) fun σ H R h => by
  obtain ⟨B, F, ad, δ, its, ck, δ', S, e, hck, k⟩ := h
  unfold iEnumTD at e
  obtain ⟨⟨r, δ1⟩, e1, e⟩ := Option.bind_eq_some_iff.mp e
  cases r with
  | rf _ => cases e
  | fz dd =>
    cases dd with
    | tup ds =>
      cases e
      refine ⟨B, F, ad, δ, _, _, S, e1, fun B1 ad1 v H1 s1 p1 S1 r1 => ?_⟩
      obtain ⟨a, xs, rfl, g2, g3⟩ := r1
      have lx := Rps.length g3
      refine ⟨a, xs, rfl, SqT.of (S1.exB _ _ g2), k B1 ad1 H1 _ (fun H => H a = some (.tup xs)) (YPair (fun i => some (.int (i : Nat))) (fun i => xs[i]?)) s1 p1 S1 ?_ ?_ ?_⟩
      · rw [enumD_len, ← lx]
        exact (et_walk (K := X.K)).mono (fun H q => SqT.of q) fun _ _ _ _ _ _ y => y
      · exact fun B2 F2 ad2 σ2 δ2 H2 s2 p2 S2 c => (s2.trans S2.exB) _ _ g2
      · rintro i x B2 F2 ad2 σ2 δ2 H2 H3 s2 p2 S2 c hi ⟨T, y, z, rfl, hT, rfl, hy, hz⟩
        cases hy
        obtain ⟨d, d1, d2⟩ := Rps.back (Rps.mono s2 _ _ g3) hz
        obtain ⟨B4, s4, S4, r4⟩ := pair_new S2 hT (a := .int (i : Nat)) (b := d) (x := .int (i : Nat)) rfl d2
        exact ⟨B4, s4, S4, _, by simpa using enumD_get (n := 0) d1, r4⟩
    | _ => cases e
end PK

namespace K51
open PySem L2 PySem.Spec PyProof.Rows PK
def topS (i : Nat) : Stmt := PySem.Challenge.pw_liftsteps_k51_rounds_in_few_values.main.body.getD i (.Pass ⟨0, 0, 0, 0⟩)
abbrev s_dot : Stmt := topS 7
abbrev s_are_integers : Stmt := topS 11
abbrev s_check_width : Stmt := topS 17
abbrev s_check_vector : Stmt := topS 18
abbrev s_Chain_steps : Stmt := inClass (topS 22) 2
abbrev s_law_pool : Stmt := topS 25
abbrev s_law_draw : Stmt := topS 26
abbrev s_law_back : Stmt := topS 32
abbrev s_law_done : Stmt := topS 37
abbrev s_are_channels : Stmt := topS 12
abbrev s_apply_step : Stmt := topS 13
abbrev s_law_divisor : Stmt := topS 27
abbrev s_law_weights : Stmt := topS 28
abbrev s_law_more : Stmt := topS 29
abbrev s_law_plain : Stmt := topS 31
abbrev s_law_once : Stmt := topS 38
abbrev s_is_lift : Stmt := topS 10
abbrev s_wrapped_round : Stmt := topS 20
abbrev s_law_lift : Stmt := topS 30
abbrev s_law_pair : Stmt := topS 34
abbrev s_law_wheel : Stmt := topS 35
abbrev s_law_cycle : Stmt := topS 39
abbrev s_is_step : Stmt := topS 9
abbrev s_wrapped_orbit : Stmt := topS 19
abbrev s_law_moves : Stmt := topS 33
abbrev s_law_turning : Stmt := topS 36
abbrev s_wrapped_after : Stmt := topS 15
abbrev s_cycle_length : Stmt := topS 16
abbrev s_check_chain : Stmt := topS 23
abbrev s_Chain_init : Stmt := inClass (topS 22) 0
abbrev s_law_right : Stmt := topS 40
abbrev s_law : Stmt := topS 41
/-- what the top has left -/
structure Tx (K : PySem.W.Frag) (mg : Str → Option Value) (a : Nat → Addr) (fd : Nat → FuncData) (cl pp : Nat → Addr) : Prop where
  F_dot : Fun K "dot" "dot" s_dot (a 0) (fd 0)
  b_dot : Binds K (fd 0) ["first", "second"] []
  g_dot : mg "dot" = some (.ref (a 0))
  F_are_integers : Fun K "_are_integers" "_are_integers" s_are_integers (a 1) (fd 1)
  b_are_integers : Binds K (fd 1) ["items"] []
  g_are_integers : mg "_are_integers" = some (.ref (a 1))
  F_check_width : Fun K "_check_width" "_check_width" s_check_width (a 2) (fd 2)
  b_check_width : Binds K (fd 2) ["width"] []
  g_check_width : mg "_check_width" = some (.ref (a 2))
  F_check_vector : Fun K "_check_vector" "_check_vector" s_check_vector (a 3) (fd 3)
  b_check_vector : Binds K (fd 3) ["width", "vector"] []
  g_check_vector : mg "_check_vector" = some (.ref (a 3))
  F_Chain_steps : Fun K "steps" "Chain.steps" s_Chain_steps (a 4) (fd 4)
  b_Chain_steps : Binds K (fd 4) ["self"] []
  F_law_pool : Fun K "_law_pool" "_law_pool" s_law_pool (a 5) (fd 5)
  b_law_pool : Binds K (fd 5) ["script", "spot"] []
  g_law_pool : mg "_law_pool" = some (.ref (a 5))
  F_law_draw : Fun K "_law_draw" "_law_draw" s_law_draw (a 6) (fd 6)
  b_law_draw : Binds K (fd 6) ["pool", "many"] []
  g_law_draw : mg "_law_draw" = some (.ref (a 6))
  F_law_back : Fun K "_law_back" "_law_back" s_law_back (a 7) (fd 7)
  b_law_back : Binds K (fd 7) ["one"] []
  g_law_back : mg "_law_back" = some (.ref (a 7))
  F_law_done : Fun K "_law_done" "_law_done" s_law_done (a 8) (fd 8)
  b_law_done : Binds K (fd 8) ["one", "place"] []
  g_law_done : mg "_law_done" = some (.ref (a 8))
  F_are_channels : Fun K "_are_channels" "_are_channels" s_are_channels (a 9) (fd 9)
  b_are_channels : Binds K (fd 9) ["channels", "items"] []
  g_are_channels : mg "_are_channels" = some (.ref (a 9))
  F_apply_step : Fun K "apply_step" "apply_step" s_apply_step (a 10) (fd 10)
  b_apply_step : Binds K (fd 10) ["step", "vector"] []
  g_apply_step : mg "apply_step" = some (.ref (a 10))
  F_law_divisor : Fun K "_law_divisor" "_law_divisor" s_law_divisor (a 11) (fd 11)
  b_law_divisor : Binds K (fd 11) ["pool", "room"] []
  g_law_divisor : mg "_law_divisor" = some (.ref (a 11))
  F_law_weights : Fun K "_law_weights" "_law_weights" s_law_weights (a 12) (fd 12)
  b_law_weights : Binds K (fd 12) ["pool", "many", "own"] []
  g_law_weights : mg "_law_weights" = some (.ref (a 12))
  F_law_more : Fun K "_law_more" "_law_more" s_law_more (a 13) (fd 13)
  b_law_more : Binds K (fd 13) ["pool"] []
  g_law_more : mg "_law_more" = some (.ref (a 13))
  F_law_plain : Fun K "_law_plain" "_law_plain" s_law_plain (a 14) (fd 14)
  b_law_plain : Binds K (fd 14) ["pool", "many"] []
  g_law_plain : mg "_law_plain" = some (.ref (a 14))
  F_law_once : Fun K "_law_once" "_law_once" s_law_once (a 15) (fd 15)
  b_law_once : Binds K (fd 15) ["moves", "wide", "place"] []
  g_law_once : mg "_law_once" = some (.ref (a 15))
  F_is_lift : Fun K "_is_lift" "_is_lift" s_is_lift (a 16) (fd 16)
  b_is_lift : Binds K (fd 16) ["channels", "step"] []
  g_is_lift : mg "_is_lift" = some (.ref (a 16))
  F_wrapped_round : Fun K "_wrapped_round" "_wrapped_round" s_wrapped_round (a 17) (fd 17)
  b_wrapped_round : Binds K (fd 17) ["steps", "width", "row"] []
  g_wrapped_round : mg "_wrapped_round" = some (.ref (a 17))
  F_law_lift : Fun K "_law_lift" "_law_lift" s_law_lift (a 18) (fd 18)
  b_law_lift : Binds K (fd 18) ["pool", "many", "room"] []
  g_law_lift : mg "_law_lift" = some (.ref (a 18))
  F_law_pair : Fun K "_law_pair" "_law_pair" s_law_pair (a 19) (fd 19)
  b_law_pair : Binds K (fd 19) ["pool", "many", "room"] []
  g_law_pair : mg "_law_pair" = some (.ref (a 19))
  F_law_wheel : Fun K "_law_wheel" "_law_wheel" s_law_wheel (a 20) (fd 20)
  b_law_wheel : Binds K (fd 20) ["pool", "many"] []
  g_law_wheel : mg "_law_wheel" = some (.ref (a 20))
  F_law_cycle : Fun K "_law_cycle" "_law_cycle" s_law_cycle (a 21) (fd 21)
  b_law_cycle : Binds K (fd 21) ["moves", "wide", "place"] []
  g_law_cycle : mg "_law_cycle" = some (.ref (a 21))
  F_is_step : Fun K "is_step" "is_step" s_is_step (a 22) (fd 22)
  b_is_step : Binds K (fd 22) ["channels", "step"] []
  g_is_step : mg "is_step" = some (.ref (a 22))
  F_wrapped_orbit : Fun K "_wrapped_orbit" "_wrapped_orbit" s_wrapped_orbit (a 23) (fd 23)
  b_wrapped_orbit : Binds K (fd 23) ["chain", "width", "vector"] []
  g_wrapped_orbit : mg "_wrapped_orbit" = some (.ref (a 23))
  F_law_moves : Fun K "_law_moves" "_law_moves" s_law_moves (a 24) (fd 24)
  b_law_moves : Binds K (fd 24) ["pool", "many", "most", "product"] []
  g_law_moves : mg "_law_moves" = some (.ref (a 24))
  F_law_turning : Fun K "_law_turning" "_law_turning" s_law_turning (a 25) (fd 25)
  b_law_turning : Binds K (fd 25) ["pool", "many"] []
  g_law_turning : mg "_law_turning" = some (.ref (a 25))
  F_wrapped_after : Fun K "wrapped_after" "wrapped_after" s_wrapped_after (a 26) (fd 26)
  b_wrapped_after : Binds K (fd 26) ["chain", "width", "vector", "times"] []
  g_wrapped_after : mg "wrapped_after" = some (.ref (a 26))
  F_cycle_length : Fun K "cycle_length" "cycle_length" s_cycle_length (a 27) (fd 27)
  b_cycle_length : Binds K (fd 27) ["chain", "width", "vector"] []
  g_cycle_length : mg "cycle_length" = some (.ref (a 27))
  F_check_chain : Fun K "_check_chain" "_check_chain" s_check_chain (a 28) (fd 28)
  b_check_chain : Binds K (fd 28) ["channels", "steps"] []
  g_check_chain : mg "_check_chain" = some (.ref (a 28))
  F_Chain_init : Fun K "__init__" "Chain.__init__" s_Chain_init (a 29) (fd 29)
  b_Chain_init : Binds K (fd 29) ["self", "channels", "steps"] []
  F_law_right : Fun K "_law_right" "_law_right" s_law_right (a 30) (fd 30)
  b_law_right : Binds K (fd 30) ["pool", "many"] []
  g_law_right : mg "_law_right" = some (.ref (a 30))
  F_law : Fun K "law" "law" s_law (a 31) (fd 31)
  b_law : Binds K (fd 31) ["script"] []
  g_law : mg "law" = some (.ref (a 31))
  n_abs : mg "abs" = none
  n_all : mg "all" = none
  n_bool : mg "bool" = none
  n_enumerate : mg "enumerate" = none
  n_int : mg "int" = none
  n_isinstance : mg "isinstance" = none
  n_len : mg "len" = none
  n_list : mg "list" = none
  n_max : mg "max" = none
  n_min : mg "min" = none
  n_range : mg "range" = none
  n_sum : mg "sum" = none
  n_tuple : mg "tuple" = none
  n_zip : mg "zip" = none
  kd_cycle_length_2_vector : KBn K (fd 27) ["chain", "width", "vector"] 2 ["vector"] (pk2 [0, 1, 2]) (pk2 [0, 1, 2])
  kd_wrapped_after_3_times : KBn K (fd 26) ["chain", "width", "vector", "times"] 3 ["times"] (pk2 [0, 1, 2, 3]) (pk2 [0, 1, 2, 3])
  g_Chain : mg "Chain" = some (.ref (cl 0))
  cl_Chain : Cls K (cl 0)
  isi_Chain : IsiC K (cl 0)
  pr_Chain_steps : PropOf K (cl 0) "steps" (pp 4) (a 4)
  mk_Chain : Mk K (cl 0) (a 29)
  na_Chain_channels : NoAttr K (cl 0) "_channels"
  na_Chain_steps : NoAttr K (cl 0) "_steps"
theorem sc_dot : FnScope ["first", "second", "one", "other"] ["first", "second"] (defScope s_dot) := ⟨rfl, rfl, rfl, by decide +kernel, rfl, by decide +kernel, by decide +kernel⟩
theorem sc_are_integers : FnScope ["items", "item"] ["items"] (defScope s_are_integers) := ⟨rfl, rfl, rfl, by decide +kernel, rfl, by decide +kernel, by decide +kernel⟩
theorem sc_check_width : FnScope ["width"] ["width"] (defScope s_check_width) := ⟨rfl, rfl, rfl, by decide +kernel, rfl, by decide +kernel, by decide +kernel⟩
theorem sc_check_vector : FnScope ["width", "vector", "channel", "entry"] ["width", "vector"] (defScope s_check_vector) := ⟨rfl, rfl, rfl, by decide +kernel, rfl, by decide +kernel, by decide +kernel⟩
theorem sc_Chain_steps : FnScope ["self"] ["self"] (defScope s_Chain_steps) := ⟨rfl, rfl, rfl, by decide +kernel, rfl, by decide +kernel, by decide +kernel⟩
theorem sc_law_pool : FnScope ["script", "spot", "cell"] ["script", "spot"] (defScope s_law_pool) := ⟨rfl, rfl, rfl, by decide +kernel, rfl, by decide +kernel, by decide +kernel⟩
theorem sc_law_draw : FnScope ["pool", "many", "mixed", "drawn"] ["pool", "many"] (defScope s_law_draw) := ⟨rfl, rfl, rfl, by decide +kernel, rfl, by decide +kernel, by decide +kernel⟩
theorem sc_law_back : FnScope ["one", "weight"] ["one"] (defScope s_law_back) := ⟨rfl, rfl, rfl, by decide +kernel, rfl, by decide +kernel, by decide +kernel⟩
theorem sc_law_done : FnScope ["one", "place", "found", "total", "weight", "entry"] ["one", "place"] (defScope s_law_done) := ⟨rfl, rfl, rfl, by decide +kernel, rfl, by decide +kernel, by decide +kernel⟩
theorem sc_are_channels : FnScope ["channels", "items", "item"] ["channels", "items"] (defScope s_are_channels) := ⟨rfl, rfl, rfl, by decide +kernel, rfl, by decide +kernel, by decide +kernel⟩
theorem sc_apply_step : FnScope ["step", "vector", "row", "_", "channel", "weights", "more", "divisor", "other"] ["step", "vector"] (defScope s_apply_step) := ⟨rfl, rfl, rfl, by decide +kernel, rfl, by decide +kernel, by decide +kernel⟩
theorem sc_law_divisor : FnScope ["pool", "room", "divisor"] ["pool", "room"] (defScope s_law_divisor) := ⟨rfl, rfl, rfl, by decide +kernel, rfl, by decide +kernel, by decide +kernel⟩
theorem sc_law_weights : FnScope ["pool", "many", "own", "found", "spot"] ["pool", "many", "own"] (defScope s_law_weights) := ⟨rfl, rfl, rfl, by decide +kernel, rfl, by decide +kernel, by decide +kernel⟩
theorem sc_law_more : FnScope ["pool"] ["pool"] (defScope s_law_more) := ⟨rfl, rfl, rfl, by decide +kernel, rfl, by decide +kernel, by decide +kernel⟩
theorem sc_law_plain : FnScope ["pool", "many", "low"] ["pool", "many"] (defScope s_law_plain) := ⟨rfl, rfl, rfl, by decide +kernel, rfl, by decide +kernel, by decide +kernel⟩
theorem sc_law_once : FnScope ["moves", "wide", "place", "found", "one", "entry"] ["moves", "wide", "place"] (defScope s_law_once) := ⟨rfl, rfl, rfl, by decide +kernel, rfl, by decide +kernel, by decide +kernel⟩
theorem sc_is_lift : FnScope ["channels", "step", "_", "channel", "weights", "more", "divisor"] ["channels", "step"] (defScope s_is_lift) := ⟨rfl, rfl, rfl, by decide +kernel, rfl, by decide +kernel, by decide +kernel⟩
theorem sc_wrapped_round : FnScope ["steps", "width", "row", "step", "entry"] ["steps", "width", "row"] (defScope s_wrapped_round) := ⟨rfl, rfl, rfl, by decide +kernel, rfl, by decide +kernel, by decide +kernel⟩
theorem sc_law_lift : FnScope ["pool", "many", "room", "own", "some", "more"] ["pool", "many", "room"] (defScope s_law_lift) := ⟨rfl, rfl, rfl, by decide +kernel, rfl, by decide +kernel, by decide +kernel⟩
theorem sc_law_pair : FnScope ["pool", "many", "room", "own", "some", "few", "divisor", "other", "weight"] ["pool", "many", "room"] (defScope s_law_pair) := ⟨rfl, rfl, rfl, by decide +kernel, rfl, by decide +kernel, by decide +kernel⟩
theorem sc_law_wheel : FnScope ["pool", "many", "one", "two", "weight", "early", "late", "spot"] ["pool", "many"] (defScope s_law_wheel) := ⟨rfl, rfl, rfl, by decide +kernel, rfl, by decide +kernel, by decide +kernel⟩
theorem sc_law_cycle : FnScope ["moves", "wide", "place", "found", "later"] ["moves", "wide", "place"] (defScope s_law_cycle) := ⟨rfl, rfl, rfl, by decide +kernel, rfl, by decide +kernel, by decide +kernel⟩
theorem sc_is_step : FnScope ["channels", "step"] ["channels", "step"] (defScope s_is_step) := ⟨rfl, rfl, rfl, by decide +kernel, rfl, by decide +kernel, by decide +kernel⟩
theorem sc_wrapped_orbit : FnScope ["chain", "width", "vector", "steps", "orbit", "row"] ["chain", "width", "vector"] (defScope s_wrapped_orbit) := ⟨rfl, rfl, rfl, by decide +kernel, rfl, by decide +kernel, by decide +kernel⟩
theorem sc_law_moves : FnScope ["pool", "many", "most", "product", "room", "found", "turn", "way", "one"] ["pool", "many", "most", "product"] (defScope s_law_moves) := ⟨rfl, rfl, rfl, by decide +kernel, rfl, by decide +kernel, by decide +kernel⟩
theorem sc_law_turning : FnScope ["pool", "many", "room", "found", "turn", "part"] ["pool", "many"] (defScope s_law_turning) := ⟨rfl, rfl, rfl, by decide +kernel, rfl, by decide +kernel, by decide +kernel⟩
theorem sc_wrapped_after : FnScope ["chain", "width", "vector", "times", "orbit"] ["chain", "width", "vector", "times"] (defScope s_wrapped_after) := ⟨rfl, rfl, rfl, by decide +kernel, rfl, by decide +kernel, by decide +kernel⟩
theorem sc_cycle_length : FnScope ["chain", "width", "vector"] ["chain", "width", "vector"] (defScope s_cycle_length) := ⟨rfl, rfl, rfl, by decide +kernel, rfl, by decide +kernel, by decide +kernel⟩
theorem sc_check_chain : FnScope ["channels", "steps", "number", "step"] ["channels", "steps"] (defScope s_check_chain) := ⟨rfl, rfl, rfl, by decide +kernel, rfl, by decide +kernel, by decide +kernel⟩
theorem sc_Chain_init : FnScope ["self", "channels", "steps"] ["self", "channels", "steps"] (defScope s_Chain_init) := ⟨rfl, rfl, rfl, by decide +kernel, rfl, by decide +kernel, by decide +kernel⟩
theorem sc_law_right : FnScope ["pool", "many", "moves", "made", "wide", "turn", "place", "due", "size", "asked", "turns", "told", "spot", "entry"] ["pool", "many"] (defScope s_law_right) := ⟨rfl, rfl, rfl, by decide +kernel, rfl, by decide +kernel, by decide +kernel⟩
theorem sc_law : FnScope ["script", "spot", "pool", "many"] ["script"] (defScope s_law) := ⟨rfl, rfl, rfl, by decide +kernel, rfl, by decide +kernel, by decide +kernel⟩
noncomputable def f_dot : SF := (sRet (dCB sumD (aCons (dLc false (iZipXD (dVar 0) (dVar 1)) (.tp [2, 3]) [2, 3] bYes (dOp (mulD false) (dVar 2) (dVar 3))) aNil)))
noncomputable def G_dot : GF := fnD 4 f_dot
noncomputable def f_are_integers : SF := (sRet (dCB allD (aCons (dLc false (iSq (dVar 0)) (.nm 1) [1] bYes (dIsi "int" (dVar 1))) aNil)))
noncomputable def G_are_integers : GF := fnD 2 f_are_integers
noncomputable def f_check_width : SF := (sIf (dB (dOp ltD (dVar 0) (dC (.int 1)))) sNever sNext)
noncomputable def G_check_width : GF := fnD 1 f_check_width
noncomputable def f_check_vector : SF := (sFor (iEnumTD (dVar 1)) (.tp [2, 3]) (sIf (bOr (dB (dOp ltD (dVar 3) (dC (.int 0)))) (dB (dOp geD (dVar 3) (dVar 0)))) sNever sNext))
noncomputable def G_check_vector : GF := fnD 4 f_check_vector
noncomputable def f_Chain_steps : SF := (sRet (dCB (listD true) (aCons (dFld "Chain" "_steps" (dVar 0)) aNil)))
noncomputable def G_Chain_steps : GF := fnD 1 f_Chain_steps
noncomputable def f_law_pool : SF := (sSeq (sSet 2 (dC (.int 0)))
  (sSeq (sIf (dB (dOp ltD (dVar 1) (dCB lenD (aCons (dVar 0) aNil)))) (sSet 2 (dOp ixD (dVar 0) (dVar 1))) sNext)
  (sRet (dLst true (aCons (dCB maxD (aCons (dC (.int 0)) (aCons (dOp subD (dCB absD (aCons (dVar 2) aNil)) (dOp powD (dC (.int 10)) (dC (.int 18)))) aNil))) (aCons (dOp (addD false) (dOp modD (dCB intD (aCons (dVar 2) aNil)) (dC (.int 2305843009213693951))) (dOp (mulD false) (dC (.int 7368787)) (dOp (addD false) (dVar 1) (dC (.int 1))))) (aCons (dC (.int 0)) aNil)))))))
noncomputable def G_law_pool : GF := fnD 3 f_law_pool
noncomputable def f_law_draw : SF := (sSeq (sIf (dB (dOp gtD (dOp ixD (dVar 0) (dC (.int 0))) (dC (.int 0)))) (sSeq (sSet 3 (dOp modD (dCB intD (aCons (dOp ixD (dVar 0) (dC (.int 0))) aNil)) (dVar 1)))
  (sSeq (sAsg (hSub (dVar 0) (dC (.int 0))) (dOp divD (dOp ixD (dVar 0) (dC (.int 0))) (dVar 1)))
  (sRet (dVar 3)))) sNext)
  (sSeq (sAsg (hSub (dVar 0) (dC (.int 2))) (dOp (addD false) (dOp ixD (dVar 0) (dC (.int 2))) (dC (.int 1))))
  (sSeq (sSet 2 (dOp modD (dCB intD (aCons (dOp powD (dOp (addD false) (dOp ixD (dVar 0) (dC (.int 1))) (dOp (mulD false) (dC (.int 15485863)) (dOp ixD (dVar 0) (dC (.int 2))))) (dC (.int 3))) aNil)) (dC (.int 162259276829213363391578010288127))))
  (sSeq (sSet 2 (dOp modD (dCB intD (aCons (dOp powD (dOp (addD false) (dVar 2) (dOp (mulD false) (dC (.int 32452843)) (dOp ixD (dVar 0) (dC (.int 2))))) (dC (.int 3))) aNil)) (dC (.int 170141183460469231731687303715884105727))))
  (sRet (dOp modD (dCB intD (aCons (dOp divD (dVar 2) (dC (.int 1048576))) aNil)) (dVar 1)))))))
noncomputable def G_law_draw : GF := fnD 4 f_law_draw
noncomputable def f_law_back : SF := (sSeq (sIf (dB (dOp (eqD true) (dOp ixD (dVar 0) (dC (.int 0))) (dC (.str "lift")))) (sRet (dVar 0)) sNext)
  (sRet (dTup (aCons (dC (.str "lift")) (aCons (dOp ixD (dVar 0) (dC (.int 1))) (aCons (dCB tupD (aCons (dLc false (iSq (dOp ixD (dVar 0) (dC (.int 2)))) (.nm 1) [1] bYes (dOp subD (dC (.int 0)) (dVar 1))) aNil)) (aCons (dOp subD (dOp subD (dOp ixD (dVar 0) (dC (.int 4))) (dC (.int 1))) (dOp ixD (dVar 0) (dC (.int 3)))) (aCons (dOp ixD (dVar 0) (dC (.int 4))) aNil))))))))
noncomputable def G_law_back : GF := fnD 2 f_law_back
noncomputable def f_law_done : SF := (sSeq (sSet 2 (dCB (listD true) (aCons (dVar 1) aNil)))
  (sSeq (sIf (dB (dOp (eqD false) (dOp ixD (dVar 0) (dC (.int 0))) (dC (.str "swap")))) (sAsg (hTup 2 (hCons (hSub (dVar 2) (dOp ixD (dVar 0) (dC (.int 1)))) (hCons (hSub (dVar 2) (dOp ixD (dVar 0) (dC (.int 2)))) hNil))) (dTup (aCons (dOp ixD (dVar 1) (dOp ixD (dVar 0) (dC (.int 2)))) (aCons (dOp ixD (dVar 1) (dOp ixD (dVar 0) (dC (.int 1)))) aNil)))) (sIf (dB (dOp (eqD false) (dOp ixD (dVar 0) (dC (.int 0))) (dC (.str "turn")))) (sAsg (hSub (dVar 2) (dOp ixD (dVar 0) (dC (.int 1)))) (dOp subD (dC (.int 0)) (dOp ixD (dVar 1) (dOp ixD (dVar 0) (dC (.int 1)))))) (sSeq (sSet 3 (dOp ixD (dVar 0) (dC (.int 3))))
  (sSeq (sFor (iZipD (dOp ixD (dVar 0) (dC (.int 2))) (dVar 1)) (.tp [4, 5]) (sSet 3 (dOp (addD false) (dVar 3) (dOp (mulD false) (dVar 4) (dVar 5)))))
  (sAsg (hSub (dVar 2) (dOp ixD (dVar 0) (dC (.int 1)))) (dOp (addD false) (dOp ixD (dVar 1) (dOp ixD (dVar 0) (dC (.int 1)))) (dOp divD (dCB intD (aCons (dVar 3) aNil)) (dOp ixD (dVar 0) (dC (.int 4))))))))))
  (sRet (dCB tupD (aCons (dVar 2) aNil)))))
noncomputable def G_law_done : GF := fnD 6 f_law_done
noncomputable def f_are_channels : SF := (sRet (dAndV (dCallN false 1 G_are_integers (aCons (dVar 1) aNil)) (dCB allD (aCons (dLc false (iSq (dVar 1)) (.nm 2) [2] bYes (dChain leD ltD (dC (.int 0)) (dVar 2) (dVar 0))) aNil))))
noncomputable def G_are_channels : GF := fnD 3 f_are_channels
noncomputable def f_apply_step : SF := (sSeq (sSet 2 (dCB (listD true) (aCons (dVar 1) aNil)))
  (sSeq (sIf (dB (dOp (eqD false) (dOp ixD (dVar 0) (dC (.int 0))) (dC (.str "lift")))) (sSeq (sAsg (hTup 5 (hCons (hNm 3) (hCons (hNm 4) (hCons (hNm 5) (hCons (hNm 6) (hCons (hNm 7) hNil)))))) (dVar 0))
  (sAsg (hSub (dVar 2) (dVar 4)) (dOp (addD false) (dOp ixD (dVar 2) (dVar 4)) (dOp divD (dOp (addD false) (dCallN false 2 G_dot (aCons (dVar 5) (aCons (dVar 1) aNil))) (dVar 6)) (dVar 7))))) (sIf (dB (dOp (eqD false) (dOp ixD (dVar 0) (dC (.int 0))) (dC (.str "swap")))) (sSeq (sAsg (hTup 3 (hCons (hNm 3) (hCons (hNm 4) (hCons (hNm 8) hNil)))) (dVar 0))
  (sAsg (hTup 2 (hCons (hSub (dVar 2) (dVar 4)) (hCons (hSub (dVar 2) (dVar 8)) hNil))) (dTup (aCons (dOp ixD (dVar 2) (dVar 8)) (aCons (dOp ixD (dVar 2) (dVar 4)) aNil))))) (sAsg (hSub (dVar 2) (dOp ixD (dVar 0) (dC (.int 1)))) (dUn negD (dOp ixD (dVar 2) (dOp ixD (dVar 0) (dC (.int 1))))))))
  (sRet (dCB tupD (aCons (dVar 2) aNil)))))
noncomputable def G_apply_step : GF := fnD 9 f_apply_step
noncomputable def f_law_divisor : SF := (sSeq (sSet 2 (dOp (addD false) (dC (.int 1)) (dCallN false 2 G_law_draw (aCons (dVar 0) (aCons (dCB minD (aCons (dC (.int 6)) (aCons (dOp ixD (dVar 1) (dC (.int 0))) aNil))) aNil)))))
  (sSeq (sAsg (hSub (dVar 1) (dC (.int 0))) (dOp divD (dOp ixD (dVar 1) (dC (.int 0))) (dVar 2)))
  (sRet (dVar 2))))
noncomputable def G_law_divisor : GF := fnD 3 f_law_divisor
noncomputable def f_law_weights : SF := (sSeq (sSet 3 (dLst true aNil))
  (sSeq (sFor (iRg1 (dVar 1)) (.nm 4) (sDrop (dMt appD (dVar 3) (aCons (dOp ixD (dLst false (aCons (dC (.int 0)) (aCons (dC (.int 1)) (aCons (dUn negD (dC (.int 1))) (aCons (dOp subD (dCallN false 2 G_law_draw (aCons (dVar 0) (aCons (dC (.int 13)) aNil))) (dC (.int 6))) (aCons (dC (.int 6)) (aCons (dUn negD (dC (.int 6))) aNil))))))) (dCallN false 2 G_law_draw (aCons (dVar 0) (aCons (dC (.int 6)) aNil)))) aNil))))
  (sSeq (sAsg (hSub (dVar 3) (dVar 2)) (dC (.int 0)))
  (sRet (dCB tupD (aCons (dVar 3) aNil))))))
noncomputable def G_law_weights : GF := fnD 5 f_law_weights
noncomputable def f_law_more : SF := (sRet (dOp ixD (dLst false (aCons (dC (.int 0)) (aCons (dC (.int 1)) (aCons (dUn negD (dC (.int 1))) (aCons (dOp subD (dCallN false 2 G_law_draw (aCons (dVar 0) (aCons (dC (.int 41)) aNil))) (dC (.int 20))) (aCons (dC (.int 20)) (aCons (dUn negD (dC (.int 20))) aNil))))))) (dCallN false 2 G_law_draw (aCons (dVar 0) (aCons (dC (.int 6)) aNil)))))
noncomputable def G_law_more : GF := fnD 1 f_law_more
noncomputable def f_law_plain : SF := (sSeq (sIf (dB (dOp (eqD false) (dCallN false 2 G_law_draw (aCons (dVar 0) (aCons (dC (.int 2)) aNil))) (dC (.int 0)))) (sRet (dTup (aCons (dC (.str "turn")) (aCons (dCallN false 2 G_law_draw (aCons (dVar 0) (aCons (dVar 1) aNil))) aNil)))) sNext)
  (sSeq (sSet 2 (dCallN false 2 G_law_draw (aCons (dVar 0) (aCons (dOp subD (dVar 1) (dC (.int 1))) aNil))))
  (sRet (dTup (aCons (dC (.str "swap")) (aCons (dVar 2) (aCons (dOp (addD false) (dOp (addD false) (dVar 2) (dC (.int 1))) (dCallN false 2 G_law_draw (aCons (dVar 0) (aCons (dOp subD (dOp subD (dVar 1) (dC (.int 1))) (dVar 2)) aNil)))) aNil)))))))
noncomputable def G_law_plain : GF := fnD 3 f_law_plain
noncomputable def f_law_once : SF := (sSeq (sSet 3 (dVar 2))
  (sSeq (sFor (iSq (dVar 0)) (.nm 4) (sSet 3 (dCB tupD (aCons (dLc false (iSq (dCallN false 2 G_law_done (aCons (dVar 4) (aCons (dVar 3) aNil)))) (.nm 5) [5] bYes (dOp modD (dCB intD (aCons (dVar 5) aNil)) (dVar 1))) aNil))))
  (sRet (dVar 3))))
noncomputable def G_law_once : GF := fnD 6 f_law_once
noncomputable def f_is_lift : SF := (sSeq (sAsg (hTup 5 (hCons (hNm 2) (hCons (hNm 3) (hCons (hNm 4) (hCons (hNm 5) (hCons (hNm 6) hNil)))))) (dVar 1))
  (sSeq (sIf (bOr (bNot (dB (dIsi "tuple" (dVar 4)))) (bNot (dB (dCallN false 1 G_are_integers (aCons (dLst false (aStar (dVar 4) (aCons (dVar 5) (aCons (dVar 6) aNil)))) aNil))))) (sRet (dC (.bl false))) sNext)
  (sSeq (sIf (bOr (dB (dOp (eqD true) (dCB lenD (aCons (dVar 4) aNil)) (dVar 0))) (bNot (dB (dCallN false 2 G_are_channels (aCons (dVar 0) (aCons (dLst false (aCons (dVar 3) aNil)) aNil)))))) (sRet (dC (.bl false))) sNext)
  (sRet (dAndV (dOp (eqD false) (dOp ixD (dVar 4) (dVar 3)) (dC (.int 0))) (dOp geD (dVar 6) (dC (.int 1))))))))
noncomputable def G_is_lift : GF := fnD 7 f_is_lift
noncomputable def f_wrapped_round : SF := (sSeq (sFor (iSq (dVar 0)) (.nm 3) (sSet 2 (dCB tupD (aCons (dLc false (iSq (dCallN false 2 G_apply_step (aCons (dVar 3) (aCons (dVar 2) aNil)))) (.nm 4) [4] bYes (dOp modD (dVar 4) (dVar 1))) aNil))))
  (sRet (dVar 2)))
noncomputable def G_wrapped_round : GF := fnD 5 f_wrapped_round
noncomputable def f_law_lift : SF := (sSeq (sSet 3 (dCallN false 2 G_law_draw (aCons (dVar 0) (aCons (dVar 1) aNil))))
  (sSeq (sPar [4, 5] (aCons (dCallN false 3 G_law_weights (aCons (dVar 0) (aCons (dVar 1) (aCons (dVar 3) aNil)))) (aCons (dCallN false 1 G_law_more (aCons (dVar 0) aNil)) aNil)))
  (sRet (dTup (aCons (dC (.str "lift")) (aCons (dVar 3) (aCons (dVar 4) (aCons (dVar 5) (aCons (dCallN false 2 G_law_divisor (aCons (dVar 0) (aCons (dVar 2) aNil))) aNil)))))))))
noncomputable def G_law_lift : GF := fnD 6 f_law_lift
noncomputable def f_law_pair : SF := (sSeq (sSet 3 (dCallN false 2 G_law_draw (aCons (dVar 0) (aCons (dVar 1) aNil))))
  (sSeq (sPar [4, 5] (aCons (dCallN false 3 G_law_weights (aCons (dVar 0) (aCons (dVar 1) (aCons (dVar 3) aNil)))) (aCons (dSl false (dLst false (aCons (dC (.int 1)) (aCons (dC (.int 2)) (aCons (dC (.int 3)) aNil)))) oNone (oSome (dOp (addD false) (dOp (addD false) (dC (.int 1)) (dCB intD (aCons (dOp gtD (dOp ixD (dVar 2) (dC (.int 0))) (dC (.int 3))) aNil))) (dCB intD (aCons (dOp gtD (dOp ixD (dVar 2) (dC (.int 0))) (dC (.int 8))) aNil))))) aNil)))
  (sSeq (sSet 6 (dOp ixD (dVar 5) (dCallN false 2 G_law_draw (aCons (dVar 0) (aCons (dCB lenD (aCons (dVar 5) aNil)) aNil)))))
  (sSeq (sAsg (hSub (dVar 2) (dC (.int 0))) (dOp divD (dOp ixD (dVar 2) (dC (.int 0))) (dOp (mulD false) (dVar 6) (dVar 6))))
  (sSeq (sSet 7 (dCB tupD (aCons (dLc false (iSq (dVar 4)) (.nm 8) [8] bYes (dOp subD (dC (.int 0)) (dVar 8))) aNil)))
  (sRet (dLst true (aCons (dTup (aCons (dC (.str "lift")) (aCons (dVar 3) (aCons (dVar 4) (aCons (dCallN false 1 G_law_more (aCons (dVar 0) aNil)) (aCons (dVar 6) aNil)))))) (aCons (dTup (aCons (dC (.str "lift")) (aCons (dVar 3) (aCons (dVar 7) (aCons (dCallN false 1 G_law_more (aCons (dVar 0) aNil)) (aCons (dVar 6) aNil)))))) aNil)))))))))
noncomputable def G_law_pair : GF := fnD 9 f_law_pair
noncomputable def f_law_wheel : SF := (sSeq (sSet 2 (dCallN false 2 G_law_draw (aCons (dVar 0) (aCons (dVar 1) aNil))))
  (sSeq (sSet 3 (dOp modD (dCB intD (aCons (dOp (addD false) (dOp (addD false) (dVar 2) (dC (.int 1))) (dCallN false 2 G_law_draw (aCons (dVar 0) (aCons (dOp subD (dVar 1) (dC (.int 1))) aNil)))) aNil)) (dVar 1)))
  (sSeq (sSet 4 (dOp (addD false) (dC (.int 1)) (dCallN false 2 G_law_draw (aCons (dVar 0) (aCons (dC (.int 3)) aNil)))))
  (sSeq (sSet 5 (dCB tupD (aCons (dLc false (iRg1 (dVar 1)) (.nm 7) [7] bYes (dOp subD (dC (.int 0)) (dCB intD (aCons (dOp (eqD false) (dVar 7) (dVar 3)) aNil)))) aNil)))
  (sSeq (sSet 6 (dCB tupD (aCons (dLc false (iRg1 (dVar 1)) (.nm 7) [7] bYes (dOp (mulD false) (dVar 4) (dCB intD (aCons (dOp (eqD false) (dVar 7) (dVar 2)) aNil)))) aNil)))
  (sRet (dLst true (aCons (dTup (aCons (dC (.str "lift")) (aCons (dVar 2) (aCons (dVar 5) (aCons (dCallN false 1 G_law_more (aCons (dVar 0) aNil)) (aCons (dC (.int 1)) aNil)))))) (aCons (dTup (aCons (dC (.str "lift")) (aCons (dVar 3) (aCons (dVar 6) (aCons (dCallN false 1 G_law_more (aCons (dVar 0) aNil)) (aCons (dC (.int 1)) aNil)))))) aNil)))))))))
noncomputable def G_law_wheel : GF := fnD 8 f_law_wheel
noncomputable def f_law_cycle : SF := (sSeq (sSet 3 (dLst true (aCons (dVar 2) aNil)))
  (sSeq (sSet 4 (dCallN false 3 G_law_once (aCons (dVar 0) (aCons (dVar 1) (aCons (dVar 2) aNil)))))
  (sSeq (sWhile (dB (dOp (eqD true) (dVar 4) (dVar 2))) (sSeq (sDrop (dMt appD (dVar 3) (aCons (dVar 4) aNil)))
  (sSet 4 (dCallN false 3 G_law_once (aCons (dVar 0) (aCons (dVar 1) (aCons (dVar 4) aNil)))))))
  (sRet (dVar 3)))))
noncomputable def G_law_cycle : GF := fnD 5 f_law_cycle
noncomputable def f_is_step : SF := (sSeq (sIf (dB (dOp (eqD false) (dCB lenD (aCons (dVar 1) aNil)) (dC (.int 5)))) (sRet (dAndV (dOp (eqD false) (dOp ixD (dVar 1) (dC (.int 0))) (dC (.str "lift"))) (dCallN false 2 G_is_lift (aCons (dVar 0) (aCons (dVar 1) aNil))))) sNext)
  (sSeq (sIf (dB (dOp (eqD false) (dCB lenD (aCons (dVar 1) aNil)) (dC (.int 3)))) (sRet (dAndV (dOp (eqD false) (dOp ixD (dVar 1) (dC (.int 0))) (dC (.str "swap"))) (dAndV (dCallN false 2 G_are_channels (aCons (dVar 0) (aCons (dSl false (dVar 1) (oSome (dC (.int 1))) oNone) aNil))) (dOp ltD (dOp ixD (dVar 1) (dC (.int 1))) (dOp ixD (dVar 1) (dC (.int 2))))))) sNext)
  (sRet (dAndV (dOp (eqD false) (dCB lenD (aCons (dVar 1) aNil)) (dC (.int 2))) (dAndV (dOp (eqD false) (dOp ixD (dVar 1) (dC (.int 0))) (dC (.str "turn"))) (dCallN false 2 G_are_channels (aCons (dVar 0) (aCons (dSl false (dVar 1) (oSome (dC (.int 1))) oNone) aNil))))))))
noncomputable def G_is_step : GF := fnD 2 f_is_step
noncomputable def f_wrapped_orbit : SF := (sSeq (sSet 3 (dMeth false "Chain" "" 1 G_Chain_steps (dVar 0) aNil))
  (sSeq (sSet 4 (dLst true (aCons (dCB tupD (aCons (dVar 2) aNil)) aNil)))
  (sSeq (sSet 5 (dCallN false 3 G_wrapped_round (aCons (dVar 3) (aCons (dVar 1) (aCons (dOp ixD (dVar 4) (dC (.int 0))) aNil)))))
  (sSeq (sWhile (dB (dOp (eqD true) (dVar 5) (dOp ixD (dVar 4) (dC (.int 0))))) (sSeq (sDrop (dMt appD (dVar 4) (aCons (dVar 5) aNil)))
  (sSet 5 (dCallN false 3 G_wrapped_round (aCons (dVar 3) (aCons (dVar 1) (aCons (dVar 5) aNil)))))))
  (sRet (dVar 4))))))
noncomputable def G_wrapped_orbit : GF := fnD 6 f_wrapped_orbit
noncomputable def f_law_moves : SF := (sSeq (sPar [4, 5] (aCons (dLst true (aCons (dVar 3) aNil)) (aCons (dLst true aNil) aNil)))
  (sSeq (sFor (iRg1 (dCallN false 2 G_law_draw (aCons (dVar 0) (aCons (dOp (addD false) (dVar 2) (dC (.int 1))) aNil)))) (.nm 6) (sSeq (sPar [7, 8] (aCons (dCallN false 2 G_law_draw (aCons (dVar 0) (aCons (dC (.int 9)) aNil))) (aCons (dC .non) aNil)))
  (sSeq (sIf (bAnd (dB (dOp (eqD true) (dVar 5) (dLst false aNil))) (dB (dOp gtD (dVar 7) (dC (.int 6))))) (sSeq (sSet 8 (dOp ixD (dLst false (aCons (dOp ixD (dVar 5) (dUn negD (dC (.int 1)))) (aCons (dCallN false 1 G_law_back (aCons (dOp ixD (dVar 5) (dUn negD (dC (.int 1)))) aNil)) aNil))) (dOp subD (dVar 7) (dC (.int 7)))))
  (sIf (bAnd (dB (dOp (eqD false) (dOp ixD (dVar 8) (dC (.int 0))) (dC (.str "lift")))) (bOr (dB (dOp gtD (dOp ixD (dVar 8) (dC (.int 4))) (dOp ixD (dVar 4) (dC (.int 0))))) (dB (dOp gtD (dCB absD (aCons (dOp ixD (dVar 8) (dC (.int 3))) aNil)) (dC (.int 20)))))) (sSet 8 (dC .non)) (sIf (dB (dOp (eqD false) (dOp ixD (dVar 8) (dC (.int 0))) (dC (.str "lift")))) (sAsg (hSub (dVar 4) (dC (.int 0))) (dOp divD (dOp ixD (dVar 4) (dC (.int 0))) (dOp ixD (dVar 8) (dC (.int 4))))) sNext))) sNext)
  (sSeq (sIf (dB (dOp isND (dVar 8) (dC .non))) (sSet 8 (dIfE (dB (dOp gtD (dVar 7) (dC (.int 2)))) (dCallN false 3 G_law_lift (aCons (dVar 0) (aCons (dVar 1) (aCons (dVar 4) aNil)))) (dCallN false 2 G_law_plain (aCons (dVar 0) (aCons (dVar 1) aNil))))) sNext)
  (sDrop (dMt appD (dVar 5) (aCons (dVar 8) aNil)))))))
  (sRet (dVar 5))))
noncomputable def G_law_moves : GF := fnD 9 f_law_moves
noncomputable def f_law_turning : SF := (sSeq (sPar [2, 3] (aCons (dLst true (aCons (dOp ixD (dLst false (aCons (dC (.int 12)) (aCons (dC (.int 6)) aNil))) (dOp subD (dVar 1) (dC (.int 2)))) aNil)) (aCons (dLst false aNil) aNil)))
  (sSeq (sIf (dB (dOp (eqD false) (dCallN false 2 G_law_draw (aCons (dVar 0) (aCons (dC (.int 3)) aNil))) (dC (.int 0)))) (sRet (dOp (addD true) (dOp (addD false) (dCallN false 3 G_law_pair (aCons (dVar 0) (aCons (dVar 1) (aCons (dVar 2) aNil)))) (dCallN false 2 G_law_wheel (aCons (dVar 0) (aCons (dVar 1) aNil)))) (dCallN false 3 G_law_pair (aCons (dVar 0) (aCons (dVar 1) (aCons (dVar 2) aNil)))))) sNext)
  (sSeq (sFor (iRg1 (dCallN false 2 G_law_draw (aCons (dVar 0) (aCons (dC (.int 5)) aNil)))) (.nm 4) (sSeq (sSet 5 (dLst false (aCons (dCallN false 2 G_law_plain (aCons (dVar 0) (aCons (dVar 1) aNil))) aNil)))
  (sSeq (sIf (dB (dOp (eqD false) (dCallN false 2 G_law_draw (aCons (dVar 0) (aCons (dC (.int 2)) aNil))) (dC (.int 0)))) (sSet 5 (dCallN false 3 G_law_pair (aCons (dVar 0) (aCons (dVar 1) (aCons (dVar 2) aNil))))) sNext)
  (sSet 3 (dIfE (dB (dOp ltD (dOp (addD false) (dCB lenD (aCons (dVar 3) aNil)) (dCB lenD (aCons (dVar 5) aNil))) (dC (.int 7)))) (dOp (addD false) (dVar 3) (dVar 5)) (dVar 3))))))
  (sRet (dVar 3)))))
noncomputable def G_law_turning : GF := fnD 6 f_law_turning
noncomputable def f_wrapped_after : SF := (sSeq (sDrop (dCallN false 1 G_check_width (aCons (dVar 1) aNil)))
  (sSeq (sDrop (dCallN false 2 G_check_vector (aCons (dVar 1) (aCons (dVar 2) aNil))))
  (sSeq (sIf (dB (dOp ltD (dVar 3) (dC (.int 0)))) sNever sNext)
  (sSeq (sSet 4 (dCallN false 3 G_wrapped_orbit (aCons (dVar 0) (aCons (dVar 1) (aCons (dVar 2) aNil)))))
  (sRet (dOp ixD (dVar 4) (dOp modD (dVar 3) (dCB lenD (aCons (dVar 4) aNil)))))))))
noncomputable def G_wrapped_after : GF := fnD 5 f_wrapped_after
noncomputable def f_cycle_length : SF := (sSeq (sDrop (dCallN false 1 G_check_width (aCons (dVar 1) aNil)))
  (sSeq (sDrop (dCallN false 2 G_check_vector (aCons (dVar 1) (aCons (dVar 2) aNil))))
  (sRet (dCB lenD (aCons (dCallN false 3 G_wrapped_orbit (aCons (dVar 0) (aCons (dVar 1) (aCons (dVar 2) aNil)))) aNil)))))
noncomputable def G_cycle_length : GF := fnD 3 f_cycle_length
noncomputable def f_check_chain : SF := (sSeq (sIf (dB (dOp (PK.inD true) (dVar 0) (dTup (aCons (dC (.int 2)) (aCons (dC (.int 3)) aNil))))) sNever sNext)
  (sFor (iEnumD (dVar 1)) (.tp [2, 3]) (sIf (bNot (dB (dCallN false 2 G_is_step (aCons (dVar 0) (aCons (dVar 3) aNil))))) sNever sNext)))
noncomputable def G_check_chain : GF := fnD 4 f_check_chain
noncomputable def f_Chain_init : IFn := (iSeq (iDrop (dCallN false 2 G_check_chain (aCons (dVar 1) (aCons (dVar 2) aNil))))
  (iSeq (iFld "_channels" (dVar 1))
  (iFld "_steps" (dCB (listD false) (aCons (dVar 2) aNil)))))
noncomputable def G_Chain_init : GIF := PK.initD 2 f_Chain_init
noncomputable def f_law_right : SF := (sSeq (sSet 2 (dCallN false 4 G_law_moves (aCons (dVar 0) (aCons (dVar 1) (aCons (dC (.int 6)) (aCons (dOp ixD (dLst false (aCons (dC (.int 12)) (aCons (dC (.int 6)) aNil))) (dOp subD (dVar 1) (dC (.int 2)))) aNil))))))
  (sSeq (sIf (dB (dOp (eqD false) (dCallN false 2 G_law_draw (aCons (dVar 0) (aCons (dC (.int 4)) aNil))) (dC (.int 0)))) (sSet 2 (dCallN false 2 G_law_turning (aCons (dVar 0) (aCons (dVar 1) aNil)))) sNext)
  (sSeq (sAsg (hTup 2 (hCons (hNm 3) (hCons (hNm 4) hNil))) (dTup (aCons (dMake "Chain" 3 G_Chain_init (aCons (dVar 1) (aCons (dVar 2) aNil))) (aCons (dOp (addD false) (dC (.int 1)) (dCallN false 2 G_law_draw (aCons (dVar 0) (aCons (dOp ixD (dLst false (aCons (dC (.int 16)) (aCons (dC (.int 6)) aNil))) (dOp subD (dVar 1) (dC (.int 2)))) aNil)))) aNil))))
  (sSeq (sFor (iRg1 (dC (.int 3))) (.nm 5) (sSeq (sSet 6 (dCB tupD (aCons (dLc false (iRg1 (dVar 1)) (.nm 12) [12] bYes (dCallN false 2 G_law_draw (aCons (dVar 0) (aCons (dVar 4) aNil)))) aNil)))
  (sSeq (sSet 7 (dCallN false 3 G_law_cycle (aCons (dVar 2) (aCons (dVar 4) (aCons (dVar 6) aNil)))))
  (sSeq (sSet 8 (dCB lenD (aCons (dVar 7) aNil)))
  (sSeq (sIf (dB (dOp (eqD true) (dCallK false 3 2 1 [0, 1, 2] G_cycle_length (aCons (dVar 3) (aCons (dVar 4) aNil)) (aCons (dVar 6) aNil)) (dVar 8))) (sRet (dC (.bl false))) sNext)
  (sSeq (sSet 9 (dLst true (aCons (dC (.int 1)) (aCons (dVar 8) (aCons (dOp subD (dVar 8) (dC (.int 1))) (aCons (dCallN false 2 G_law_draw (aCons (dVar 0) (aCons (dOp (mulD false) (dC (.int 2)) (dVar 8)) aNil))) (aCons (dOp subD (dOp powD (dC (.int 10)) (dC (.int 31))) (dCallN false 2 G_law_draw (aCons (dVar 0) (aCons (dC (.int 300)) aNil)))) (aCons (dC (.int 0)) aNil))))))))
  (sSeq (sDrop (dMt appD (dVar 9) (aCons (dCallN false 2 G_law_draw (aCons (dVar 0) (aCons (dOp powD (dC (.int 10)) (dC (.int 31))) aNil))) aNil)))
  (sSeq (sFor (iSq (dBy false (dVar 9) (dOp subD (dC (.int 1)) (dOp (mulD false) (dC (.int 2)) (dCallN false 2 G_law_draw (aCons (dVar 0) (aCons (dC (.int 2)) aNil))))))) (.nm 10) (sSeq (sSet 11 (dCallK false 4 3 1 [0, 1, 2, 3] G_wrapped_after (aCons (dVar 3) (aCons (dVar 4) (aCons (dVar 6) aNil))) (aCons (dVar 10) aNil)))
  (sSeq (sIf (bOr (bNot (dB (dIsi "tuple" (dVar 11)))) (dB (dOp (eqD true) (dVar 11) (dOp ixD (dVar 7) (dOp modD (dCB intD (aCons (dVar 10) aNil)) (dVar 8)))))) (sRet (dC (.bl false))) sNext)
  (sIf (dB (dOp (eqD true) (dLc false (iSq (dVar 11)) (.nm 13) [13] (bOr (bNot (dB (dIsi "int" (dVar 13)))) (dB (dIsi "bool" (dVar 13)))) (dC (.int 1))) (dLst false aNil))) (sRet (dC (.bl false))) sNext))))
  (sSeq (sSet 11 (dCallN false 3 G_cycle_length (aCons (dVar 3) (aCons (dVar 4) (aCons (dVar 6) aNil)))))
  (sIf (bOr (dB (dOp (eqD true) (dVar 11) (dVar 8))) (bOr (bNot (dB (dIsi "int" (dVar 11)))) (dB (dIsi "bool" (dVar 11))))) (sRet (dC (.bl false))) sNext))))))))))
  (sRet (dOp (eqD false) (dMeth false "Chain" "" 1 G_Chain_steps (dVar 3) aNil) (dVar 2)))))))
noncomputable def G_law_right : GF := fnD 14 f_law_right
noncomputable def f_law : SF := (sSeq (sFor (iRg1 (dCB maxD (aCons (dC (.int 1)) (aCons (dCB minD (aCons (dC (.int 4)) (aCons (dCB lenD (aCons (dVar 0) aNil)) aNil))) aNil)))) (.nm 1) (sSeq (sSet 2 (dCallN true 2 G_law_pool (aCons (dVar 0) (aCons (dVar 1) aNil))))
  (sFor (iTupD (dTup (aCons (dC (.int 2)) (aCons (dC (.int 3)) aNil)))) (.nm 3) (sIf (bNot (dB (dCallN false 2 G_law_right (aCons (dVar 2) (aCons (dVar 3) aNil))))) (sRet (dC (.bl false))) sNext))))
  (sRet (dC (.bl true))))
noncomputable def G_law : GF := fnD 4 f_law
section
variable {P : Program} {w : World} {K : PySem.W.Frag} {mg : Str → Option Value} {base : Heap} {a : Nat → Addr} {fd : Nat → FuncData} {cl pp : Nat → Addr}
theorem ok_dot (T : Tx K mg a fd cl pp) : FnOk P w K mg base CX0 1 (a 0) (fd 0) ["first", "second"] (spD K mg 2 G_dot) :=
  fn_okD (k := 0) T.F_dot sc_dot fun cdv A outer s H E hr =>
    (pds_one (pds_ret (pd_cb (oc_sum rfl) (by rfl) T.n_sum (by decide +kernel) (pda_cons (pd_lc false (.tp [2, 3]) (own := [("one", 2), ("other", 3)]) rfl sc_dot.nd (pdi_zipX (by rfl) T.n_zip (pd_var 0) (pd_var 1)) (blkOk_by (by rfl)) (by decide) (fun _ _ _ _ _ => (pg_tup rfl (pgs_cons (pg_name (i := 2) sc_dot.nd rfl (by first | exact Or.inl rfl | exact Or.inr rfl)) (pgs_cons (pg_name (i := 3) sc_dot.nd rfl (by first | exact Or.inl rfl | exact Or.inr rfl)) pgs_nil)))) (fun _ _ _ _ _ => pdts_nil) (fun _ _ _ _ _ => (pd_op (od_mul false) (pd_var 2) (pd_var 3)))) pda_nil))))
theorem ok_are_integers (T : Tx K mg a fd cl pp) : FnOk P w K mg base CX0 1 (a 1) (fd 1) ["items"] (spD K mg 1 G_are_integers) :=
  fn_okD (k := 0) T.F_are_integers sc_are_integers fun cdv A outer s H E hr =>
    (pds_one (pds_ret (pd_cb (oc_all rfl) (by rfl) T.n_all (by decide +kernel) (pda_cons (pd_lc false (.nm 1) (own := [("item", 1)]) rfl sc_are_integers.nd (pdi_seq (pd_var 0)) (blkOk_by (by rfl)) (by decide) (fun _ _ _ _ _ => (pg_name (i := 1) sc_are_integers.nd rfl (by first | exact Or.inl rfl | exact Or.inr rfl))) (fun _ _ _ _ _ => pdts_nil) (fun _ _ _ _ _ => (pd_isi (by rfl) T.n_isinstance (by rfl) T.n_int (by decide +kernel) (pd_var 1)))) pda_nil))))
theorem ok_check_width (T : Tx K mg a fd cl pp) : FnOk P w K mg base CX0 1 (a 2) (fd 2) ["width"] (spD K mg 1 G_check_width) :=
  fn_okD (k := 0) T.F_check_width sc_check_width fun cdv A outer s H E hr =>
    (pds_one (pds_if (pdt_cmp bo_cmp (od_cmp op_lt) (pd_var 0) pd_int) (pds_one pds_never) pds_nil))
theorem ok_check_vector (T : Tx K mg a fd cl pp) : FnOk P w K mg base CX0 1 (a 3) (fd 3) ["width", "vector"] (spD K mg 2 G_check_vector) :=
  fn_okD (k := 0) T.F_check_vector sc_check_vector fun cdv A outer s H E hr =>
    (pds_one (pds_for (.tp [2, 3]) (pdi_enumT (by rfl) T.n_enumerate (pd_var 1)) (pg_tup rfl (pgs_cons (pg_name (i := 2) sc_check_vector.nd rfl (by first | exact Or.inl rfl | exact Or.inr rfl)) (pgs_cons (pg_name (i := 3) sc_check_vector.nd rfl (by first | exact Or.inl rfl | exact Or.inr rfl)) pgs_nil))) (pds_one (pds_if (pdt_w (pdw_or (pdt_cmp bo_cmp (od_cmp op_lt) (pd_var 3) pd_int) (pdw_or1 (pdt_cmp bo_cmp (od_cmp op_ge) (pd_var 3) (pd_var 0))))) (pds_one pds_never) pds_nil)) PassesOwn.never rfl))
theorem ok_Chain_steps (T : Tx K mg a fd cl pp) : FnOk P w K mg base CX0 1 (a 4) (fd 4) ["self"] (spD K mg 1 G_Chain_steps) :=
  fn_okD (k := 0) T.F_Chain_steps sc_Chain_steps fun cdv A outer s H E hr =>
    (pds_one (pds_ret (pd_ct (oc_list true) (by rfl) T.n_list (by decide +kernel) (pda_cons (pd_fld (pd_var 0) T.g_Chain T.cl_Chain T.na_Chain_steps) pda_nil))))
theorem ok_law_pool (T : Tx K mg a fd cl pp) : FnOk P w K mg base CX0 1 (a 5) (fd 5) ["script", "spot"] (spD K mg 2 G_law_pool) :=
  fn_okD (k := 0) T.F_law_pool sc_law_pool fun cdv A outer s H E hr =>
    (pds_cons (pds_set 2 pd_int sc_law_pool.nd)
    (pds_cons (pds_if (pdt_cmp bo_cmp (od_cmp op_lt) (pd_var 1) (pd_cb (oc_len) (by rfl) T.n_len (by decide +kernel) (pda_cons (pd_var 0) pda_nil))) (pds_one (pds_set 2 (pd_ix (pd_var 0) (pd_var 1)) sc_law_pool.nd)) pds_nil)
    (pds_one (pds_ret (pd_lst true (pda_cons (pd_cb (oc_max rfl) (by rfl) T.n_max (by decide +kernel) (pda_cons pd_int (pda_cons (pd_op od_sub (pd_cb (oc_abs) (by rfl) T.n_abs (by decide +kernel) (pda_cons (pd_var 2) pda_nil)) (pd_op od_pow pd_int pd_int)) pda_nil))) (pda_cons (pd_op (od_add false) (pd_op od_mod (pd_ct oc_int (by rfl) T.n_int (by decide +kernel) (pda_cons (pd_var 2) pda_nil)) pd_int) (pd_op (od_mul false) pd_int (pd_op (od_add false) (pd_var 1) pd_int))) (pda_cons pd_int pda_nil))))))))
theorem ok_law_draw (T : Tx K mg a fd cl pp) : FnOk P w K mg base CX0 1 (a 6) (fd 6) ["pool", "many"] (spD K mg 2 G_law_draw) :=
  fn_okD (k := 0) T.F_law_draw sc_law_draw fun cdv A outer s H E hr =>
    (pds_cons (pds_if (pdt_cmp bo_cmp (od_cmp op_gt) (pd_ix (pd_var 0) pd_int) pd_int) (pds_cons (pds_set 3 (pd_op od_mod (pd_ct oc_int (by rfl) T.n_int (by decide +kernel) (pda_cons (pd_ix (pd_var 0) pd_int) pda_nil)) (pd_var 1)) sc_law_draw.nd)
    (pds_cons (pds_asg (pd_op od_div (pd_ix (pd_var 0) pd_int) (pd_var 1)) (pgd_sub (pd_var 0) pd_int))
    (pds_one (pds_ret (pd_var 3))))) pds_nil)
    (pds_cons (pds_asg (pd_op (od_add false) (pd_ix (pd_var 0) pd_int) pd_int) (pgd_sub (pd_var 0) pd_int))
    (pds_cons (pds_set 2 (pd_op od_mod (pd_ct oc_int (by rfl) T.n_int (by decide +kernel) (pda_cons (pd_op od_pow (pd_op (od_add false) (pd_ix (pd_var 0) pd_int) (pd_op (od_mul false) pd_int (pd_ix (pd_var 0) pd_int))) pd_int) pda_nil)) pd_int) sc_law_draw.nd)
    (pds_cons (pds_set 2 (pd_op od_mod (pd_ct oc_int (by rfl) T.n_int (by decide +kernel) (pda_cons (pd_op od_pow (pd_op (od_add false) (pd_var 2) (pd_op (od_mul false) pd_int (pd_ix (pd_var 0) pd_int))) pd_int) pda_nil)) pd_int) sc_law_draw.nd)
    (pds_one (pds_ret (pd_op od_mod (pd_ct oc_int (by rfl) T.n_int (by decide +kernel) (pda_cons (pd_op od_div (pd_var 2) pd_int) pda_nil)) (pd_var 1))))))))
theorem ok_law_back (T : Tx K mg a fd cl pp) : FnOk P w K mg base CX0 1 (a 7) (fd 7) ["one"] (spD K mg 1 G_law_back) :=
  fn_okD (k := 0) T.F_law_back sc_law_back fun cdv A outer s H E hr =>
    (pds_cons (pds_if (pdt_cmp bo_eq (od_ne hr.units) (pd_ix (pd_var 0) pd_int) pd_str) (pds_one (pds_ret (pd_var 0))) pds_nil)
    (pds_one (pds_ret (pd_tup (pda_cons pd_str (pda_cons (pd_ix (pd_var 0) pd_int) (pda_cons (pd_ct oc_tup (by rfl) T.n_tuple (by decide +kernel) (pda_cons (pd_lc false (.nm 1) (own := [("weight", 1)]) rfl sc_law_back.nd (pdi_seq (pd_ix (pd_var 0) pd_int)) (blkOk_by (by rfl)) (by decide) (fun _ _ _ _ _ => (pg_name (i := 1) sc_law_back.nd rfl (by first | exact Or.inl rfl | exact Or.inr rfl))) (fun _ _ _ _ _ => pdts_nil) (fun _ _ _ _ _ => (pd_op od_sub pd_int (pd_var 1)))) pda_nil)) (pda_cons (pd_op od_sub (pd_op od_sub (pd_ix (pd_var 0) pd_int) pd_int) (pd_ix (pd_var 0) pd_int)) (pda_cons (pd_ix (pd_var 0) pd_int) pda_nil)))))))))
theorem ok_law_done (T : Tx K mg a fd cl pp) : FnOk P w K mg base CX0 1 (a 8) (fd 8) ["one", "place"] (spD K mg 2 G_law_done) :=
  fn_okD (k := 0) T.F_law_done sc_law_done fun cdv A outer s H E hr =>
    (pds_cons (pds_set 2 (pd_ct (oc_list true) (by rfl) T.n_list (by decide +kernel) (pda_cons (pd_var 1) pda_nil)) sc_law_done.nd)
    (pds_cons (pds_if (pdt_cmp bo_eq (od_eq hr.units) (pd_ix (pd_var 0) pd_int) pd_str) (pds_one (pds_asg (pd_tup (pda_cons (pd_ix (pd_var 1) (pd_ix (pd_var 0) pd_int)) (pda_cons (pd_ix (pd_var 1) (pd_ix (pd_var 0) pd_int)) pda_nil))) (pgd_tup rfl (pgds_cons (pgd_sub (pd_var 2) (pd_ix (pd_var 0) pd_int)) (pgds_cons (pgd_sub (pd_var 2) (pd_ix (pd_var 0) pd_int)) pgds_nil))))) (pds_one (pds_if (pdt_cmp bo_eq (od_eq hr.units) (pd_ix (pd_var 0) pd_int) pd_str) (pds_one (pds_asg (pd_op od_sub pd_int (pd_ix (pd_var 1) (pd_ix (pd_var 0) pd_int))) (pgd_sub (pd_var 2) (pd_ix (pd_var 0) pd_int)))) (pds_cons (pds_set 3 (pd_ix (pd_var 0) pd_int) sc_law_done.nd)
    (pds_cons (pds_for (.tp [4, 5]) (pdi_zip (by rfl) T.n_zip (pd_ix (pd_var 0) pd_int) (pd_var 1)) (pg_tup rfl (pgs_cons (pg_name (i := 4) sc_law_done.nd rfl (by first | exact Or.inl rfl | exact Or.inr rfl)) (pgs_cons (pg_name (i := 5) sc_law_done.nd rfl (by first | exact Or.inl rfl | exact Or.inr rfl)) pgs_nil))) (pds_one (pds_set 3 (pd_op (od_add false) (pd_var 3) (pd_op (od_mul false) (pd_var 4) (pd_var 5))) sc_law_done.nd)) PassesOwn.never rfl)
    (pds_one (pds_asg (pd_op (od_add false) (pd_ix (pd_var 1) (pd_ix (pd_var 0) pd_int)) (pd_op od_div (pd_ct oc_int (by rfl) T.n_int (by decide +kernel) (pda_cons (pd_var 3) pda_nil)) (pd_ix (pd_var 0) pd_int))) (pgd_sub (pd_var 2) (pd_ix (pd_var 0) pd_int)))))))))
    (pds_one (pds_ret (pd_ct oc_tup (by rfl) T.n_tuple (by decide +kernel) (pda_cons (pd_var 2) pda_nil))))))
theorem ok_are_channels (T : Tx K mg a fd cl pp) : FnOk P w K mg base CX0 2 (a 9) (fd 9) ["channels", "items"] (spD K mg 2 G_are_channels) :=
  fn_okD (k := 1) T.F_are_channels sc_are_channels fun cdv A outer s H E hr =>
    (pds_one (pds_ret (pd_and (pd_call false (ok_are_integers T) (hr.mono (by decide)) (by rfl) T.g_are_integers T.F_are_integers.kp T.b_are_integers (pda_cons (pd_var 1) pda_nil)) (pd_one (pd_cb (oc_all rfl) (by rfl) T.n_all (by decide +kernel) (pda_cons (pd_lc false (.nm 2) (own := [("item", 2)]) rfl sc_are_channels.nd (pdi_seq (pd_var 1)) (blkOk_by (by rfl)) (by decide) (fun _ _ _ _ _ => (pg_name (i := 2) sc_are_channels.nd rfl (by first | exact Or.inl rfl | exact Or.inr rfl))) (fun _ _ _ _ _ => pdts_nil) (fun _ _ _ _ _ => (pd_chain (od_cmp op_le) (od_cmp op_lt) pd_int (pd_var 2) (pd_var 0)))) pda_nil))))))
theorem ok_apply_step (T : Tx K mg a fd cl pp) : FnOk P w K mg base CX0 2 (a 10) (fd 10) ["step", "vector"] (spD K mg 2 G_apply_step) :=
  fn_okD (k := 1) T.F_apply_step sc_apply_step fun cdv A outer s H E hr =>
    (pds_cons (pds_set 2 (pd_ct (oc_list true) (by rfl) T.n_list (by decide +kernel) (pda_cons (pd_var 1) pda_nil)) sc_apply_step.nd)
    (pds_cons (pds_if (pdt_cmp bo_eq (od_eq hr.units) (pd_ix (pd_var 0) pd_int) pd_str) (pds_cons (pds_asg (pd_var 0) (pgd_tup rfl (pgds_cons (pgd_name 3 sc_apply_step.nd) (pgds_cons (pgd_name 4 sc_apply_step.nd) (pgds_cons (pgd_name 5 sc_apply_step.nd) (pgds_cons (pgd_name 6 sc_apply_step.nd) (pgds_cons (pgd_name 7 sc_apply_step.nd) pgds_nil)))))))
    (pds_one (pds_asg (pd_op (od_add false) (pd_ix (pd_var 2) (pd_var 4)) (pd_op od_div (pd_op (od_add false) (pd_call false (ok_dot T) (hr.mono (by decide)) (by rfl) T.g_dot T.F_dot.kp T.b_dot (pda_cons (pd_var 5) (pda_cons (pd_var 1) pda_nil))) (pd_var 6)) (pd_var 7))) (pgd_sub (pd_var 2) (pd_var 4))))) (pds_one (pds_if (pdt_cmp bo_eq (od_eq hr.units) (pd_ix (pd_var 0) pd_int) pd_str) (pds_cons (pds_asg (pd_var 0) (pgd_tup rfl (pgds_cons (pgd_name 3 sc_apply_step.nd) (pgds_cons (pgd_name 4 sc_apply_step.nd) (pgds_cons (pgd_name 8 sc_apply_step.nd) pgds_nil)))))
    (pds_one (pds_asg (pd_tup (pda_cons (pd_ix (pd_var 2) (pd_var 8)) (pda_cons (pd_ix (pd_var 2) (pd_var 4)) pda_nil))) (pgd_tup rfl (pgds_cons (pgd_sub (pd_var 2) (pd_var 4)) (pgds_cons (pgd_sub (pd_var 2) (pd_var 8)) pgds_nil)))))) (pds_one (pds_asg (pd_neg (pd_ix (pd_var 2) (pd_ix (pd_var 0) pd_int))) (pgd_sub (pd_var 2) (pd_ix (pd_var 0) pd_int)))))))
    (pds_one (pds_ret (pd_ct oc_tup (by rfl) T.n_tuple (by decide +kernel) (pda_cons (pd_var 2) pda_nil))))))
theorem ok_law_divisor (T : Tx K mg a fd cl pp) : FnOk P w K mg base CX0 2 (a 11) (fd 11) ["pool", "room"] (spD K mg 2 G_law_divisor) :=
  fn_okD (k := 1) T.F_law_divisor sc_law_divisor fun cdv A outer s H E hr =>
    (pds_cons (pds_set 2 (pd_op (od_add false) pd_int (pd_call false (ok_law_draw T) (hr.mono (by decide)) (by rfl) T.g_law_draw T.F_law_draw.kp T.b_law_draw (pda_cons (pd_var 0) (pda_cons (pd_cb (oc_min rfl) (by rfl) T.n_min (by decide +kernel) (pda_cons pd_int (pda_cons (pd_ix (pd_var 1) pd_int) pda_nil))) pda_nil)))) sc_law_divisor.nd)
    (pds_cons (pds_asg (pd_op od_div (pd_ix (pd_var 1) pd_int) (pd_var 2)) (pgd_sub (pd_var 1) pd_int))
    (pds_one (pds_ret (pd_var 2)))))
theorem ok_law_weights (T : Tx K mg a fd cl pp) : FnOk P w K mg base CX0 2 (a 12) (fd 12) ["pool", "many", "own"] (spD K mg 3 G_law_weights) :=
  fn_okD (k := 1) T.F_law_weights sc_law_weights fun cdv A outer s H E hr =>
    (pds_cons (pds_set 3 (pd_lst true pda_nil) sc_law_weights.nd)
    (pds_cons (pds_for (.nm 4) (pdi_rg1 (by rfl) T.n_range (pd_var 1)) (pg_name (i := 4) sc_law_weights.nd rfl (by first | exact Or.inl rfl | exact Or.inr rfl)) (pds_one (pds_drop (pd_app (pd_var 3) (pd_ix (pd_lst false (pda_cons pd_int (pda_cons pd_int (pda_cons (pd_neg pd_int) (pda_cons (pd_op od_sub (pd_call false (ok_law_draw T) (hr.mono (by decide)) (by rfl) T.g_law_draw T.F_law_draw.kp T.b_law_draw (pda_cons (pd_var 0) (pda_cons pd_int pda_nil))) pd_int) (pda_cons pd_int (pda_cons (pd_neg pd_int) pda_nil))))))) (pd_call false (ok_law_draw T) (hr.mono (by decide)) (by rfl) T.g_law_draw T.F_law_draw.kp T.b_law_draw (pda_cons (pd_var 0) (pda_cons pd_int pda_nil))))))) PassesOwn.never rfl)
    (pds_cons (pds_asg pd_int (pgd_sub (pd_var 3) (pd_var 2)))
    (pds_one (pds_ret (pd_ct oc_tup (by rfl) T.n_tuple (by decide +kernel) (pda_cons (pd_var 3) pda_nil)))))))
theorem ok_law_more (T : Tx K mg a fd cl pp) : FnOk P w K mg base CX0 2 (a 13) (fd 13) ["pool"] (spD K mg 1 G_law_more) :=
  fn_okD (k := 1) T.F_law_more sc_law_more fun cdv A outer s H E hr =>
    (pds_one (pds_ret (pd_ix (pd_lst false (pda_cons pd_int (pda_cons pd_int (pda_cons (pd_neg pd_int) (pda_cons (pd_op od_sub (pd_call false (ok_law_draw T) (hr.mono (by decide)) (by rfl) T.g_law_draw T.F_law_draw.kp T.b_law_draw (pda_cons (pd_var 0) (pda_cons pd_int pda_nil))) pd_int) (pda_cons pd_int (pda_cons (pd_neg pd_int) pda_nil))))))) (pd_call false (ok_law_draw T) (hr.mono (by decide)) (by rfl) T.g_law_draw T.F_law_draw.kp T.b_law_draw (pda_cons (pd_var 0) (pda_cons pd_int pda_nil))))))
theorem ok_law_plain (T : Tx K mg a fd cl pp) : FnOk P w K mg base CX0 2 (a 14) (fd 14) ["pool", "many"] (spD K mg 2 G_law_plain) :=
  fn_okD (k := 1) T.F_law_plain sc_law_plain fun cdv A outer s H E hr =>
    (pds_cons (pds_if (pdt_cmp bo_eq (od_eq hr.units) (pd_call false (ok_law_draw T) (hr.mono (by decide)) (by rfl) T.g_law_draw T.F_law_draw.kp T.b_law_draw (pda_cons (pd_var 0) (pda_cons pd_int pda_nil))) pd_int) (pds_one (pds_ret (pd_tup (pda_cons pd_str (pda_cons (pd_call false (ok_law_draw T) (hr.mono (by decide)) (by rfl) T.g_law_draw T.F_law_draw.kp T.b_law_draw (pda_cons (pd_var 0) (pda_cons (pd_var 1) pda_nil))) pda_nil))))) pds_nil)
    (pds_cons (pds_set 2 (pd_call false (ok_law_draw T) (hr.mono (by decide)) (by rfl) T.g_law_draw T.F_law_draw.kp T.b_law_draw (pda_cons (pd_var 0) (pda_cons (pd_op od_sub (pd_var 1) pd_int) pda_nil))) sc_law_plain.nd)
    (pds_one (pds_ret (pd_tup (pda_cons pd_str (pda_cons (pd_var 2) (pda_cons (pd_op (od_add false) (pd_op (od_add false) (pd_var 2) pd_int) (pd_call false (ok_law_draw T) (hr.mono (by decide)) (by rfl) T.g_law_draw T.F_law_draw.kp T.b_law_draw (pda_cons (pd_var 0) (pda_cons (pd_op od_sub (pd_op od_sub (pd_var 1) pd_int) (pd_var 2)) pda_nil)))) pda_nil))))))))
theorem ok_law_once (T : Tx K mg a fd cl pp) : FnOk P w K mg base CX0 2 (a 15) (fd 15) ["moves", "wide", "place"] (spD K mg 3 G_law_once) :=
  fn_okD (k := 1) T.F_law_once sc_law_once fun cdv A outer s H E hr =>
    (pds_cons (pds_set 3 (pd_var 2) sc_law_once.nd)
    (pds_cons (pds_for (.nm 4) (pdi_seq (pd_var 0)) (pg_name (i := 4) sc_law_once.nd rfl (by first | exact Or.inl rfl | exact Or.inr rfl)) (pds_one (pds_set 3 (pd_ct oc_tup (by rfl) T.n_tuple (by decide +kernel) (pda_cons (pd_lc false (.nm 5) (own := [("entry", 5)]) rfl sc_law_once.nd (pdi_seq (pd_call false (ok_law_done T) (hr.mono (by decide)) (by rfl) T.g_law_done T.F_law_done.kp T.b_law_done (pda_cons (pd_var 4) (pda_cons (pd_var 3) pda_nil)))) (blkOk_by (by rfl)) (by decide) (fun _ _ _ _ _ => (pg_name (i := 5) sc_law_once.nd rfl (by first | exact Or.inl rfl | exact Or.inr rfl))) (fun _ _ _ _ _ => pdts_nil) (fun _ _ _ _ _ => (pd_op od_mod (pd_ct oc_int (by rfl) T.n_int (by decide +kernel) (pda_cons (pd_var 5) pda_nil)) (pd_var 1)))) pda_nil)) sc_law_once.nd)) PassesOwn.never rfl)
    (pds_one (pds_ret (pd_var 3)))))
theorem ok_is_lift (T : Tx K mg a fd cl pp) : FnOk P w K mg base CX0 3 (a 16) (fd 16) ["channels", "step"] (spD K mg 2 G_is_lift) :=
  fn_okD (k := 2) T.F_is_lift sc_is_lift fun cdv A outer s H E hr =>
    (pds_cons (pds_asg (pd_var 1) (pgd_tup rfl (pgds_cons (pgd_name 2 sc_is_lift.nd) (pgds_cons (pgd_name 3 sc_is_lift.nd) (pgds_cons (pgd_name 4 sc_is_lift.nd) (pgds_cons (pgd_name 5 sc_is_lift.nd) (pgds_cons (pgd_name 6 sc_is_lift.nd) pgds_nil)))))))
    (pds_cons (pds_if (pdt_w (pdw_or (pdt_not (pdt_val (pd_isi (by rfl) T.n_isinstance (by rfl) T.n_tuple (by decide +kernel) (pd_var 4)))) (pdw_or1 (pdt_not (pdt_val (pd_call false (ok_are_integers T) (hr.mono (by decide)) (by rfl) T.g_are_integers T.F_are_integers.kp T.b_are_integers (pda_cons (pd_lst false (pda_star (pd_var 4) (pda_cons (pd_var 5) (pda_cons (pd_var 6) pda_nil)))) pda_nil))))))) (pds_one (pds_ret pd_bl)) pds_nil)
    (pds_cons (pds_if (pdt_w (pdw_or (pdt_cmp bo_eq (od_ne hr.units) (pd_cb (oc_len) (by rfl) T.n_len (by decide +kernel) (pda_cons (pd_var 4) pda_nil)) (pd_var 0)) (pdw_or1 (pdt_not (pdt_val (pd_call false (ok_are_channels T) (hr.mono (by decide)) (by rfl) T.g_are_channels T.F_are_channels.kp T.b_are_channels (pda_cons (pd_var 0) (pda_cons (pd_lst false (pda_cons (pd_var 3) pda_nil)) pda_nil)))))))) (pds_one (pds_ret pd_bl)) pds_nil)
    (pds_one (pds_ret (pd_and (pd_cmp (od_eq hr.units) (pd_ix (pd_var 4) (pd_var 3)) pd_int) (pd_one (pd_cmp (od_cmp op_ge) (pd_var 6) pd_int))))))))
theorem ok_wrapped_round (T : Tx K mg a fd cl pp) : FnOk P w K mg base CX0 3 (a 17) (fd 17) ["steps", "width", "row"] (spD K mg 3 G_wrapped_round) :=
  fn_okD (k := 2) T.F_wrapped_round sc_wrapped_round fun cdv A outer s H E hr =>
    (pds_cons (pds_for (.nm 3) (pdi_seq (pd_var 0)) (pg_name (i := 3) sc_wrapped_round.nd rfl (by first | exact Or.inl rfl | exact Or.inr rfl)) (pds_one (pds_set 2 (pd_ct oc_tup (by rfl) T.n_tuple (by decide +kernel) (pda_cons (pd_lc false (.nm 4) (own := [("entry", 4)]) rfl sc_wrapped_round.nd (pdi_seq (pd_call false (ok_apply_step T) (hr.mono (by decide)) (by rfl) T.g_apply_step T.F_apply_step.kp T.b_apply_step (pda_cons (pd_var 3) (pda_cons (pd_var 2) pda_nil)))) (blkOk_by (by rfl)) (by decide) (fun _ _ _ _ _ => (pg_name (i := 4) sc_wrapped_round.nd rfl (by first | exact Or.inl rfl | exact Or.inr rfl))) (fun _ _ _ _ _ => pdts_nil) (fun _ _ _ _ _ => (pd_op od_mod (pd_var 4) (pd_var 1)))) pda_nil)) sc_wrapped_round.nd)) PassesOwn.never rfl)
    (pds_one (pds_ret (pd_var 2))))
theorem ok_law_lift (T : Tx K mg a fd cl pp) : FnOk P w K mg base CX0 3 (a 18) (fd 18) ["pool", "many", "room"] (spD K mg 3 G_law_lift) :=
  fn_okD (k := 2) T.F_law_lift sc_law_lift fun cdv A outer s H E hr =>
    (pds_cons (pds_set 3 (pd_call false (ok_law_draw T) (hr.mono (by decide)) (by rfl) T.g_law_draw T.F_law_draw.kp T.b_law_draw (pda_cons (pd_var 0) (pda_cons (pd_var 1) pda_nil))) sc_law_lift.nd)
    (pds_cons (pds_par (i := 4) (j := 5) rfl sc_law_lift.nd rfl rfl (by decide) rfl rfl (pda_cons (pd_call false (ok_law_weights T) (hr.mono (by decide)) (by rfl) T.g_law_weights T.F_law_weights.kp T.b_law_weights (pda_cons (pd_var 0) (pda_cons (pd_var 1) (pda_cons (pd_var 3) pda_nil)))) (pda_cons (pd_call false (ok_law_more T) (hr.mono (by decide)) (by rfl) T.g_law_more T.F_law_more.kp T.b_law_more (pda_cons (pd_var 0) pda_nil)) pda_nil)) rfl)
    (pds_one (pds_ret (pd_tup (pda_cons pd_str (pda_cons (pd_var 3) (pda_cons (pd_var 4) (pda_cons (pd_var 5) (pda_cons (pd_call false (ok_law_divisor T) (hr.mono (by decide)) (by rfl) T.g_law_divisor T.F_law_divisor.kp T.b_law_divisor (pda_cons (pd_var 0) (pda_cons (pd_var 2) pda_nil))) pda_nil))))))))))
theorem ok_law_pair (T : Tx K mg a fd cl pp) : FnOk P w K mg base CX0 3 (a 19) (fd 19) ["pool", "many", "room"] (spD K mg 3 G_law_pair) :=
  fn_okD (k := 2) T.F_law_pair sc_law_pair fun cdv A outer s H E hr =>
    (pds_cons (pds_set 3 (pd_call false (ok_law_draw T) (hr.mono (by decide)) (by rfl) T.g_law_draw T.F_law_draw.kp T.b_law_draw (pda_cons (pd_var 0) (pda_cons (pd_var 1) pda_nil))) sc_law_pair.nd)
    (pds_cons (pds_par (i := 4) (j := 5) rfl sc_law_pair.nd rfl rfl (by decide) rfl rfl (pda_cons (pd_call false (ok_law_weights T) (hr.mono (by decide)) (by rfl) T.g_law_weights T.F_law_weights.kp T.b_law_weights (pda_cons (pd_var 0) (pda_cons (pd_var 1) (pda_cons (pd_var 3) pda_nil)))) (pda_cons (pd_sl false (pd_lst false (pda_cons pd_int (pda_cons pd_int (pda_cons pd_int pda_nil)))) pdo_none (pdo_some (pd_op (od_add false) (pd_op (od_add false) pd_int (pd_ct oc_int (by rfl) T.n_int (by decide +kernel) (pda_cons (pd_cmp (od_cmp op_gt) (pd_ix (pd_var 2) pd_int) pd_int) pda_nil))) (pd_ct oc_int (by rfl) T.n_int (by decide +kernel) (pda_cons (pd_cmp (od_cmp op_gt) (pd_ix (pd_var 2) pd_int) pd_int) pda_nil))))) pda_nil)) rfl)
    (pds_cons (pds_set 6 (pd_ix (pd_var 5) (pd_call false (ok_law_draw T) (hr.mono (by decide)) (by rfl) T.g_law_draw T.F_law_draw.kp T.b_law_draw (pda_cons (pd_var 0) (pda_cons (pd_cb (oc_len) (by rfl) T.n_len (by decide +kernel) (pda_cons (pd_var 5) pda_nil)) pda_nil)))) sc_law_pair.nd)
    (pds_cons (pds_asg (pd_op od_div (pd_ix (pd_var 2) pd_int) (pd_op (od_mul false) (pd_var 6) (pd_var 6))) (pgd_sub (pd_var 2) pd_int))
    (pds_cons (pds_set 7 (pd_ct oc_tup (by rfl) T.n_tuple (by decide +kernel) (pda_cons (pd_lc false (.nm 8) (own := [("weight", 8)]) rfl sc_law_pair.nd (pdi_seq (pd_var 4)) (blkOk_by (by rfl)) (by decide) (fun _ _ _ _ _ => (pg_name (i := 8) sc_law_pair.nd rfl (by first | exact Or.inl rfl | exact Or.inr rfl))) (fun _ _ _ _ _ => pdts_nil) (fun _ _ _ _ _ => (pd_op od_sub pd_int (pd_var 8)))) pda_nil)) sc_law_pair.nd)
    (pds_one (pds_ret (pd_lst true (pda_cons (pd_tup (pda_cons pd_str (pda_cons (pd_var 3) (pda_cons (pd_var 4) (pda_cons (pd_call false (ok_law_more T) (hr.mono (by decide)) (by rfl) T.g_law_more T.F_law_more.kp T.b_law_more (pda_cons (pd_var 0) pda_nil)) (pda_cons (pd_var 6) pda_nil)))))) (pda_cons (pd_tup (pda_cons pd_str (pda_cons (pd_var 3) (pda_cons (pd_var 7) (pda_cons (pd_call false (ok_law_more T) (hr.mono (by decide)) (by rfl) T.g_law_more T.F_law_more.kp T.b_law_more (pda_cons (pd_var 0) pda_nil)) (pda_cons (pd_var 6) pda_nil)))))) pda_nil))))))))))
theorem ok_law_wheel (T : Tx K mg a fd cl pp) : FnOk P w K mg base CX0 3 (a 20) (fd 20) ["pool", "many"] (spD K mg 2 G_law_wheel) :=
  fn_okD (k := 2) T.F_law_wheel sc_law_wheel fun cdv A outer s H E hr =>
    (pds_cons (pds_set 2 (pd_call false (ok_law_draw T) (hr.mono (by decide)) (by rfl) T.g_law_draw T.F_law_draw.kp T.b_law_draw (pda_cons (pd_var 0) (pda_cons (pd_var 1) pda_nil))) sc_law_wheel.nd)
    (pds_cons (pds_set 3 (pd_op od_mod (pd_ct oc_int (by rfl) T.n_int (by decide +kernel) (pda_cons (pd_op (od_add false) (pd_op (od_add false) (pd_var 2) pd_int) (pd_call false (ok_law_draw T) (hr.mono (by decide)) (by rfl) T.g_law_draw T.F_law_draw.kp T.b_law_draw (pda_cons (pd_var 0) (pda_cons (pd_op od_sub (pd_var 1) pd_int) pda_nil)))) pda_nil)) (pd_var 1)) sc_law_wheel.nd)
    (pds_cons (pds_set 4 (pd_op (od_add false) pd_int (pd_call false (ok_law_draw T) (hr.mono (by decide)) (by rfl) T.g_law_draw T.F_law_draw.kp T.b_law_draw (pda_cons (pd_var 0) (pda_cons pd_int pda_nil)))) sc_law_wheel.nd)
    (pds_cons (pds_set 5 (pd_ct oc_tup (by rfl) T.n_tuple (by decide +kernel) (pda_cons (pd_lc false (.nm 7) (own := [("spot", 7)]) rfl sc_law_wheel.nd (pdi_rg1 (by rfl) T.n_range (pd_var 1)) (blkOk_by (by rfl)) (by decide) (fun _ _ _ _ _ => (pg_name (i := 7) sc_law_wheel.nd rfl (by first | exact Or.inl rfl | exact Or.inr rfl))) (fun _ _ _ _ _ => pdts_nil) (fun _ _ _ _ _ => (pd_op od_sub pd_int (pd_ct oc_int (by rfl) T.n_int (by decide +kernel) (pda_cons (pd_cmp (od_eq hr.units) (pd_var 7) (pd_var 3)) pda_nil))))) pda_nil)) sc_law_wheel.nd)
    (pds_cons (pds_set 6 (pd_ct oc_tup (by rfl) T.n_tuple (by decide +kernel) (pda_cons (pd_lc false (.nm 7) (own := [("spot", 7)]) rfl sc_law_wheel.nd (pdi_rg1 (by rfl) T.n_range (pd_var 1)) (blkOk_by (by rfl)) (by decide) (fun _ _ _ _ _ => (pg_name (i := 7) sc_law_wheel.nd rfl (by first | exact Or.inl rfl | exact Or.inr rfl))) (fun _ _ _ _ _ => pdts_nil) (fun _ _ _ _ _ => (pd_op (od_mul false) (pd_var 4) (pd_ct oc_int (by rfl) T.n_int (by decide +kernel) (pda_cons (pd_cmp (od_eq hr.units) (pd_var 7) (pd_var 2)) pda_nil))))) pda_nil)) sc_law_wheel.nd)
    (pds_one (pds_ret (pd_lst true (pda_cons (pd_tup (pda_cons pd_str (pda_cons (pd_var 2) (pda_cons (pd_var 5) (pda_cons (pd_call false (ok_law_more T) (hr.mono (by decide)) (by rfl) T.g_law_more T.F_law_more.kp T.b_law_more (pda_cons (pd_var 0) pda_nil)) (pda_cons pd_int pda_nil)))))) (pda_cons (pd_tup (pda_cons pd_str (pda_cons (pd_var 3) (pda_cons (pd_var 6) (pda_cons (pd_call false (ok_law_more T) (hr.mono (by decide)) (by rfl) T.g_law_more T.F_law_more.kp T.b_law_more (pda_cons (pd_var 0) pda_nil)) (pda_cons pd_int pda_nil)))))) pda_nil))))))))))
theorem ok_law_cycle (T : Tx K mg a fd cl pp) : FnOk P w K mg base CX0 3 (a 21) (fd 21) ["moves", "wide", "place"] (spD K mg 3 G_law_cycle) :=
  fn_okD (k := 2) T.F_law_cycle sc_law_cycle fun cdv A outer s H E hr =>
    (pds_cons (pds_set 3 (pd_lst true (pda_cons (pd_var 2) pda_nil)) sc_law_cycle.nd)
    (pds_cons (pds_set 4 (pd_call false (ok_law_once T) (hr.mono (by decide)) (by rfl) T.g_law_once T.F_law_once.kp T.b_law_once (pda_cons (pd_var 0) (pda_cons (pd_var 1) (pda_cons (pd_var 2) pda_nil)))) sc_law_cycle.nd)
    (pds_cons (pds_while (pdt_cmp bo_eq (od_ne hr.units) (pd_var 4) (pd_var 2)) (pds_cons (pds_drop (pd_app (pd_var 3) (pd_var 4)))
    (pds_one (pds_set 4 (pd_call false (ok_law_once T) (hr.mono (by decide)) (by rfl) T.g_law_once T.F_law_once.kp T.b_law_once (pda_cons (pd_var 0) (pda_cons (pd_var 1) (pda_cons (pd_var 4) pda_nil)))) sc_law_cycle.nd))) PassesOwn.never)
    (pds_one (pds_ret (pd_var 3))))))
theorem ok_is_step (T : Tx K mg a fd cl pp) : FnOk P w K mg base CX0 4 (a 22) (fd 22) ["channels", "step"] (spD K mg 2 G_is_step) :=
  fn_okD (k := 3) T.F_is_step sc_is_step fun cdv A outer s H E hr =>
    (pds_cons (pds_if (pdt_cmp bo_eq (od_eq hr.units) (pd_cb (oc_len) (by rfl) T.n_len (by decide +kernel) (pda_cons (pd_var 1) pda_nil)) pd_int) (pds_one (pds_ret (pd_and (pd_cmp (od_eq hr.units) (pd_ix (pd_var 1) pd_int) pd_str) (pd_one (pd_call false (ok_is_lift T) (hr.mono (by decide)) (by rfl) T.g_is_lift T.F_is_lift.kp T.b_is_lift (pda_cons (pd_var 0) (pda_cons (pd_var 1) pda_nil))))))) pds_nil)
    (pds_cons (pds_if (pdt_cmp bo_eq (od_eq hr.units) (pd_cb (oc_len) (by rfl) T.n_len (by decide +kernel) (pda_cons (pd_var 1) pda_nil)) pd_int) (pds_one (pds_ret (pd_and (pd_cmp (od_eq hr.units) (pd_ix (pd_var 1) pd_int) pd_str) (pd_and (pd_call false (ok_are_channels T) (hr.mono (by decide)) (by rfl) T.g_are_channels T.F_are_channels.kp T.b_are_channels (pda_cons (pd_var 0) (pda_cons (pd_sl false (pd_var 1) (pdo_some pd_int) pdo_none) pda_nil))) (pd_one (pd_cmp (od_cmp op_lt) (pd_ix (pd_var 1) pd_int) (pd_ix (pd_var 1) pd_int))))))) pds_nil)
    (pds_one (pds_ret (pd_and (pd_cmp (od_eq hr.units) (pd_cb (oc_len) (by rfl) T.n_len (by decide +kernel) (pda_cons (pd_var 1) pda_nil)) pd_int) (pd_and (pd_cmp (od_eq hr.units) (pd_ix (pd_var 1) pd_int) pd_str) (pd_one (pd_call false (ok_are_channels T) (hr.mono (by decide)) (by rfl) T.g_are_channels T.F_are_channels.kp T.b_are_channels (pda_cons (pd_var 0) (pda_cons (pd_sl false (pd_var 1) (pdo_some pd_int) pdo_none) pda_nil))))))))))
theorem ok_wrapped_orbit (T : Tx K mg a fd cl pp) : FnOk P w K mg base CX0 4 (a 23) (fd 23) ["chain", "width", "vector"] (spD K mg 3 G_wrapped_orbit) :=
  fn_okD (k := 3) T.F_wrapped_orbit sc_wrapped_orbit fun cdv A outer s H E hr =>
    (pds_cons (pds_set 3 (pd_prop false (pd_var 0) T.g_Chain T.cl_Chain T.pr_Chain_steps (ok_Chain_steps T) (hr.mono (by decide)) T.b_Chain_steps) sc_wrapped_orbit.nd)
    (pds_cons (pds_set 4 (pd_lst true (pda_cons (pd_ct oc_tup (by rfl) T.n_tuple (by decide +kernel) (pda_cons (pd_var 2) pda_nil)) pda_nil)) sc_wrapped_orbit.nd)
    (pds_cons (pds_set 5 (pd_call false (ok_wrapped_round T) (hr.mono (by decide)) (by rfl) T.g_wrapped_round T.F_wrapped_round.kp T.b_wrapped_round (pda_cons (pd_var 3) (pda_cons (pd_var 1) (pda_cons (pd_ix (pd_var 4) pd_int) pda_nil)))) sc_wrapped_orbit.nd)
    (pds_cons (pds_while (pdt_cmp bo_eq (od_ne hr.units) (pd_var 5) (pd_ix (pd_var 4) pd_int)) (pds_cons (pds_drop (pd_app (pd_var 4) (pd_var 5)))
    (pds_one (pds_set 5 (pd_call false (ok_wrapped_round T) (hr.mono (by decide)) (by rfl) T.g_wrapped_round T.F_wrapped_round.kp T.b_wrapped_round (pda_cons (pd_var 3) (pda_cons (pd_var 1) (pda_cons (pd_var 5) pda_nil)))) sc_wrapped_orbit.nd))) PassesOwn.never)
    (pds_one (pds_ret (pd_var 4)))))))
theorem ok_law_moves (T : Tx K mg a fd cl pp) : FnOk P w K mg base CX0 4 (a 24) (fd 24) ["pool", "many", "most", "product"] (spD K mg 4 G_law_moves) :=
  fn_okD (k := 3) T.F_law_moves sc_law_moves fun cdv A outer s H E hr =>
    (pds_cons (pds_par (i := 4) (j := 5) rfl sc_law_moves.nd rfl rfl (by decide) rfl rfl (pda_cons (pd_lst true (pda_cons (pd_var 3) pda_nil)) (pda_cons (pd_lst true pda_nil) pda_nil)) rfl)
    (pds_cons (pds_for (.nm 6) (pdi_rg1 (by rfl) T.n_range (pd_call false (ok_law_draw T) (hr.mono (by decide)) (by rfl) T.g_law_draw T.F_law_draw.kp T.b_law_draw (pda_cons (pd_var 0) (pda_cons (pd_op (od_add false) (pd_var 2) pd_int) pda_nil)))) (pg_name (i := 6) sc_law_moves.nd rfl (by first | exact Or.inl rfl | exact Or.inr rfl)) (pds_cons (pds_par (i := 7) (j := 8) rfl sc_law_moves.nd rfl rfl (by decide) rfl rfl (pda_cons (pd_call false (ok_law_draw T) (hr.mono (by decide)) (by rfl) T.g_law_draw T.F_law_draw.kp T.b_law_draw (pda_cons (pd_var 0) (pda_cons pd_int pda_nil))) (pda_cons pd_non pda_nil)) rfl)
    (pds_cons (pds_if (pdt_w (pdw_and (pdt_cmp bo_eq (od_ne hr.units) (pd_var 5) (pd_lst false pda_nil)) (pdw_and1 (pdt_cmp bo_cmp (od_cmp op_gt) (pd_var 7) pd_int)))) (pds_cons (pds_set 8 (pd_ix (pd_lst false (pda_cons (pd_ix (pd_var 5) (pd_neg pd_int)) (pda_cons (pd_call false (ok_law_back T) (hr.mono (by decide)) (by rfl) T.g_law_back T.F_law_back.kp T.b_law_back (pda_cons (pd_ix (pd_var 5) (pd_neg pd_int)) pda_nil)) pda_nil))) (pd_op od_sub (pd_var 7) pd_int)) sc_law_moves.nd)
    (pds_one (pds_if (pdt_w (pdw_and (pdt_cmp bo_eq (od_eq hr.units) (pd_ix (pd_var 8) pd_int) pd_str) (pdw_and1 (pdt_w (pdw_or (pdt_cmp bo_cmp (od_cmp op_gt) (pd_ix (pd_var 8) pd_int) (pd_ix (pd_var 4) pd_int)) (pdw_or1 (pdt_cmp bo_cmp (od_cmp op_gt) (pd_cb (oc_abs) (by rfl) T.n_abs (by decide +kernel) (pda_cons (pd_ix (pd_var 8) pd_int) pda_nil)) pd_int))))))) (pds_one (pds_set 8 pd_non sc_law_moves.nd)) (pds_one (pds_if (pdt_cmp bo_eq (od_eq hr.units) (pd_ix (pd_var 8) pd_int) pd_str) (pds_one (pds_asg (pd_op od_div (pd_ix (pd_var 4) pd_int) (pd_ix (pd_var 8) pd_int)) (pgd_sub (pd_var 4) pd_int))) pds_nil))))) pds_nil)
    (pds_cons (pds_if (pdt_cmp bo_isN od_isN (pd_var 8) pd_non) (pds_one (pds_set 8 (pd_if (pdt_cmp bo_cmp (od_cmp op_gt) (pd_var 7) pd_int) (pd_call false (ok_law_lift T) (hr.mono (by decide)) (by rfl) T.g_law_lift T.F_law_lift.kp T.b_law_lift (pda_cons (pd_var 0) (pda_cons (pd_var 1) (pda_cons (pd_var 4) pda_nil)))) (pd_call false (ok_law_plain T) (hr.mono (by decide)) (by rfl) T.g_law_plain T.F_law_plain.kp T.b_law_plain (pda_cons (pd_var 0) (pda_cons (pd_var 1) pda_nil)))) sc_law_moves.nd)) pds_nil)
    (pds_one (pds_drop (pd_app (pd_var 5) (pd_var 8))))))) PassesOwn.never rfl)
    (pds_one (pds_ret (pd_var 5)))))
theorem ok_law_turning (T : Tx K mg a fd cl pp) : FnOk P w K mg base CX0 4 (a 25) (fd 25) ["pool", "many"] (spD K mg 2 G_law_turning) :=
  fn_okD (k := 3) T.F_law_turning sc_law_turning fun cdv A outer s H E hr =>
    (pds_cons (pds_par (i := 2) (j := 3) rfl sc_law_turning.nd rfl rfl (by decide) rfl rfl (pda_cons (pd_lst true (pda_cons (pd_ix (pd_lst false (pda_cons pd_int (pda_cons pd_int pda_nil))) (pd_op od_sub (pd_var 1) pd_int)) pda_nil)) (pda_cons (pd_lst false pda_nil) pda_nil)) rfl)
    (pds_cons (pds_if (pdt_cmp bo_eq (od_eq hr.units) (pd_call false (ok_law_draw T) (hr.mono (by decide)) (by rfl) T.g_law_draw T.F_law_draw.kp T.b_law_draw (pda_cons (pd_var 0) (pda_cons pd_int pda_nil))) pd_int) (pds_one (pds_ret (pd_op (od_add true) (pd_op (od_add false) (pd_call false (ok_law_pair T) (hr.mono (by decide)) (by rfl) T.g_law_pair T.F_law_pair.kp T.b_law_pair (pda_cons (pd_var 0) (pda_cons (pd_var 1) (pda_cons (pd_var 2) pda_nil)))) (pd_call false (ok_law_wheel T) (hr.mono (by decide)) (by rfl) T.g_law_wheel T.F_law_wheel.kp T.b_law_wheel (pda_cons (pd_var 0) (pda_cons (pd_var 1) pda_nil)))) (pd_call false (ok_law_pair T) (hr.mono (by decide)) (by rfl) T.g_law_pair T.F_law_pair.kp T.b_law_pair (pda_cons (pd_var 0) (pda_cons (pd_var 1) (pda_cons (pd_var 2) pda_nil))))))) pds_nil)
    (pds_cons (pds_for (.nm 4) (pdi_rg1 (by rfl) T.n_range (pd_call false (ok_law_draw T) (hr.mono (by decide)) (by rfl) T.g_law_draw T.F_law_draw.kp T.b_law_draw (pda_cons (pd_var 0) (pda_cons pd_int pda_nil)))) (pg_name (i := 4) sc_law_turning.nd rfl (by first | exact Or.inl rfl | exact Or.inr rfl)) (pds_cons (pds_set 5 (pd_lst false (pda_cons (pd_call false (ok_law_plain T) (hr.mono (by decide)) (by rfl) T.g_law_plain T.F_law_plain.kp T.b_law_plain (pda_cons (pd_var 0) (pda_cons (pd_var 1) pda_nil))) pda_nil)) sc_law_turning.nd)
    (pds_cons (pds_if (pdt_cmp bo_eq (od_eq hr.units) (pd_call false (ok_law_draw T) (hr.mono (by decide)) (by rfl) T.g_law_draw T.F_law_draw.kp T.b_law_draw (pda_cons (pd_var 0) (pda_cons pd_int pda_nil))) pd_int) (pds_one (pds_set 5 (pd_call false (ok_law_pair T) (hr.mono (by decide)) (by rfl) T.g_law_pair T.F_law_pair.kp T.b_law_pair (pda_cons (pd_var 0) (pda_cons (pd_var 1) (pda_cons (pd_var 2) pda_nil)))) sc_law_turning.nd)) pds_nil)
    (pds_one (pds_set 3 (pd_if (pdt_cmp bo_cmp (od_cmp op_lt) (pd_op (od_add false) (pd_cb (oc_len) (by rfl) T.n_len (by decide +kernel) (pda_cons (pd_var 3) pda_nil)) (pd_cb (oc_len) (by rfl) T.n_len (by decide +kernel) (pda_cons (pd_var 5) pda_nil))) pd_int) (pd_op (od_add false) (pd_var 3) (pd_var 5)) (pd_var 3)) sc_law_turning.nd)))) PassesOwn.never rfl)
    (pds_one (pds_ret (pd_var 3))))))
theorem ok_wrapped_after (T : Tx K mg a fd cl pp) : FnOk P w K mg base CX0 5 (a 26) (fd 26) ["chain", "width", "vector", "times"] (spD K mg 4 G_wrapped_after) :=
  fn_okD (k := 4) T.F_wrapped_after sc_wrapped_after fun cdv A outer s H E hr =>
    (pds_cons (pds_drop (pd_call false (ok_check_width T) (hr.mono (by decide)) (by rfl) T.g_check_width T.F_check_width.kp T.b_check_width (pda_cons (pd_var 1) pda_nil)))
    (pds_cons (pds_drop (pd_call false (ok_check_vector T) (hr.mono (by decide)) (by rfl) T.g_check_vector T.F_check_vector.kp T.b_check_vector (pda_cons (pd_var 1) (pda_cons (pd_var 2) pda_nil))))
    (pds_cons (pds_if (pdt_cmp bo_cmp (od_cmp op_lt) (pd_var 3) pd_int) (pds_one pds_never) pds_nil)
    (pds_cons (pds_set 4 (pd_call false (ok_wrapped_orbit T) (hr.mono (by decide)) (by rfl) T.g_wrapped_orbit T.F_wrapped_orbit.kp T.b_wrapped_orbit (pda_cons (pd_var 0) (pda_cons (pd_var 1) (pda_cons (pd_var 2) pda_nil)))) sc_wrapped_after.nd)
    (pds_one (pds_ret (pd_ix (pd_var 4) (pd_op od_mod (pd_var 3) (pd_cb (oc_len) (by rfl) T.n_len (by decide +kernel) (pda_cons (pd_var 4) pda_nil))))))))))
theorem ok_cycle_length (T : Tx K mg a fd cl pp) : FnOk P w K mg base CX0 5 (a 27) (fd 27) ["chain", "width", "vector"] (spD K mg 3 G_cycle_length) :=
  fn_okD (k := 4) T.F_cycle_length sc_cycle_length fun cdv A outer s H E hr =>
    (pds_cons (pds_drop (pd_call false (ok_check_width T) (hr.mono (by decide)) (by rfl) T.g_check_width T.F_check_width.kp T.b_check_width (pda_cons (pd_var 1) pda_nil)))
    (pds_cons (pds_drop (pd_call false (ok_check_vector T) (hr.mono (by decide)) (by rfl) T.g_check_vector T.F_check_vector.kp T.b_check_vector (pda_cons (pd_var 1) (pda_cons (pd_var 2) pda_nil))))
    (pds_one (pds_ret (pd_cb (oc_len) (by rfl) T.n_len (by decide +kernel) (pda_cons (pd_call false (ok_wrapped_orbit T) (hr.mono (by decide)) (by rfl) T.g_wrapped_orbit T.F_wrapped_orbit.kp T.b_wrapped_orbit (pda_cons (pd_var 0) (pda_cons (pd_var 1) (pda_cons (pd_var 2) pda_nil)))) pda_nil))))))
theorem ok_check_chain (T : Tx K mg a fd cl pp) : FnOk P w K mg base CX0 5 (a 28) (fd 28) ["channels", "steps"] (spD K mg 2 G_check_chain) :=
  fn_okD (k := 4) T.F_check_chain sc_check_chain fun cdv A outer s H E hr =>
    (pds_cons (pds_if (pdt_cmp bo_in od_notIn (pd_var 0) (pd_tup (pda_cons pd_int (pda_cons pd_int pda_nil)))) (pds_one pds_never) pds_nil)
    (pds_one (pds_for (.tp [2, 3]) (pdi_enum (by rfl) T.n_enumerate (pd_var 1)) (pg_tup rfl (pgs_cons (pg_name (i := 2) sc_check_chain.nd rfl (by first | exact Or.inl rfl | exact Or.inr rfl)) (pgs_cons (pg_name (i := 3) sc_check_chain.nd rfl (by first | exact Or.inl rfl | exact Or.inr rfl)) pgs_nil))) (pds_one (pds_if (pdt_not (pdt_val (pd_call false (ok_is_step T) (hr.mono (by decide)) (by rfl) T.g_is_step T.F_is_step.kp T.b_is_step (pda_cons (pd_var 0) (pda_cons (pd_var 3) pda_nil))))) (pds_one pds_never) pds_nil)) PassesOwn.never rfl)))
theorem ok_Chain_init (T : Tx K mg a fd cl pp) : FnOk P w K mg base CX0 6 (a 29) (fd 29) ["self", "channels", "steps"] (spI K mg "Chain" 3 G_Chain_init) :=
  init_okD (k := 5) T.F_Chain_init sc_Chain_init (by decide) (by decide) fun cdv A outer s H E hr =>
    (pin_cons (pin_drop (pd_call false (ok_check_chain T) (hr.mono (by decide)) (by rfl) T.g_check_chain T.F_check_chain.kp T.b_check_chain (pda_cons (pd_var 1) (pda_cons (pd_var 2) pda_nil))))
    (pin_cons (pin_fld (pd_var 1) T.g_Chain T.cl_Chain T.na_Chain_channels)
    (pin_one (pin_fld (pd_ct (oc_list false) (by rfl) T.n_list (by decide +kernel) (pda_cons (pd_var 2) pda_nil)) T.g_Chain T.cl_Chain T.na_Chain_steps))))
theorem ok_law_right (T : Tx K mg a fd cl pp) : FnOk P w K mg base CX0 8 (a 30) (fd 30) ["pool", "many"] (spD K mg 2 G_law_right) :=
  fn_okD (k := 7) T.F_law_right sc_law_right fun cdv A outer s H E hr =>
    (pds_cons (pds_set 2 (pd_call false (ok_law_moves T) (hr.mono (by decide)) (by rfl) T.g_law_moves T.F_law_moves.kp T.b_law_moves (pda_cons (pd_var 0) (pda_cons (pd_var 1) (pda_cons pd_int (pda_cons (pd_ix (pd_lst false (pda_cons pd_int (pda_cons pd_int pda_nil))) (pd_op od_sub (pd_var 1) pd_int)) pda_nil))))) sc_law_right.nd)
    (pds_cons (pds_if (pdt_cmp bo_eq (od_eq hr.units) (pd_call false (ok_law_draw T) (hr.mono (by decide)) (by rfl) T.g_law_draw T.F_law_draw.kp T.b_law_draw (pda_cons (pd_var 0) (pda_cons pd_int pda_nil))) pd_int) (pds_one (pds_set 2 (pd_call false (ok_law_turning T) (hr.mono (by decide)) (by rfl) T.g_law_turning T.F_law_turning.kp T.b_law_turning (pda_cons (pd_var 0) (pda_cons (pd_var 1) pda_nil))) sc_law_right.nd)) pds_nil)
    (pds_cons (pds_asg (pd_tup (pda_cons (pd_make T.mk_Chain (ok_Chain_init T) (hr.mono (by decide)) (by rfl) T.g_Chain T.b_Chain_init (pda_cons (pd_var 1) (pda_cons (pd_var 2) pda_nil))) (pda_cons (pd_op (od_add false) pd_int (pd_call false (ok_law_draw T) (hr.mono (by decide)) (by rfl) T.g_law_draw T.F_law_draw.kp T.b_law_draw (pda_cons (pd_var 0) (pda_cons (pd_ix (pd_lst false (pda_cons pd_int (pda_cons pd_int pda_nil))) (pd_op od_sub (pd_var 1) pd_int)) pda_nil)))) pda_nil))) (pgd_tup rfl (pgds_cons (pgd_name 3 sc_law_right.nd) (pgds_cons (pgd_name 4 sc_law_right.nd) pgds_nil))))
    (pds_cons (pds_for (.nm 5) (pdi_rg1 (by rfl) T.n_range pd_int) (pg_name (i := 5) sc_law_right.nd rfl (by first | exact Or.inl rfl | exact Or.inr rfl)) (pds_cons (pds_set 6 (pd_ct oc_tup (by rfl) T.n_tuple (by decide +kernel) (pda_cons (pd_lc false (.nm 12) (own := [("spot", 12)]) rfl sc_law_right.nd (pdi_rg1 (by rfl) T.n_range (pd_var 1)) (blkOk_by (by rfl)) (by decide) (fun _ _ _ _ _ => (pg_name (i := 12) sc_law_right.nd rfl (by first | exact Or.inl rfl | exact Or.inr rfl))) (fun _ _ _ _ _ => pdts_nil) (fun _ _ _ _ _ => (pd_call false (ok_law_draw T) (hr.mono (by decide)) (by rfl) T.g_law_draw T.F_law_draw.kp T.b_law_draw (pda_cons (pd_var 0) (pda_cons (pd_var 4) pda_nil))))) pda_nil)) sc_law_right.nd)
    (pds_cons (pds_set 7 (pd_call false (ok_law_cycle T) (hr.mono (by decide)) (by rfl) T.g_law_cycle T.F_law_cycle.kp T.b_law_cycle (pda_cons (pd_var 2) (pda_cons (pd_var 4) (pda_cons (pd_var 6) pda_nil)))) sc_law_right.nd)
    (pds_cons (pds_set 8 (pd_cb (oc_len) (by rfl) T.n_len (by decide +kernel) (pda_cons (pd_var 7) pda_nil)) sc_law_right.nd)
    (pds_cons (pds_if (pdt_cmp bo_eq (od_ne hr.units) (pd_callKN false (ok_cycle_length T) (hr.mono (by decide)) (by rfl) T.g_cycle_length T.F_cycle_length.kp T.kd_cycle_length_2_vector (by rfl) (pda_cons (pd_var 3) (pda_cons (pd_var 4) pda_nil)) (pdk_cons (pd_var 6) pdk_nil)) (pd_var 8)) (pds_one (pds_ret pd_bl)) pds_nil)
    (pds_cons (pds_set 9 (pd_lst true (pda_cons pd_int (pda_cons (pd_var 8) (pda_cons (pd_op od_sub (pd_var 8) pd_int) (pda_cons (pd_call false (ok_law_draw T) (hr.mono (by decide)) (by rfl) T.g_law_draw T.F_law_draw.kp T.b_law_draw (pda_cons (pd_var 0) (pda_cons (pd_op (od_mul false) pd_int (pd_var 8)) pda_nil))) (pda_cons (pd_op od_sub (pd_op od_pow pd_int pd_int) (pd_call false (ok_law_draw T) (hr.mono (by decide)) (by rfl) T.g_law_draw T.F_law_draw.kp T.b_law_draw (pda_cons (pd_var 0) (pda_cons pd_int pda_nil)))) (pda_cons pd_int pda_nil))))))) sc_law_right.nd)
    (pds_cons (pds_drop (pd_app (pd_var 9) (pd_call false (ok_law_draw T) (hr.mono (by decide)) (by rfl) T.g_law_draw T.F_law_draw.kp T.b_law_draw (pda_cons (pd_var 0) (pda_cons (pd_op od_pow pd_int pd_int) pda_nil)))))
    (pds_cons (pds_for (.nm 10) (pdi_seq (pd_by false (pd_var 9) (pd_op od_sub pd_int (pd_op (od_mul false) pd_int (pd_call false (ok_law_draw T) (hr.mono (by decide)) (by rfl) T.g_law_draw T.F_law_draw.kp T.b_law_draw (pda_cons (pd_var 0) (pda_cons pd_int pda_nil))))))) (pg_name (i := 10) sc_law_right.nd rfl (by first | exact Or.inl rfl | exact Or.inr rfl)) (pds_cons (pds_set 11 (pd_callKN false (ok_wrapped_after T) (hr.mono (by decide)) (by rfl) T.g_wrapped_after T.F_wrapped_after.kp T.kd_wrapped_after_3_times (by rfl) (pda_cons (pd_var 3) (pda_cons (pd_var 4) (pda_cons (pd_var 6) pda_nil))) (pdk_cons (pd_var 10) pdk_nil)) sc_law_right.nd)
    (pds_cons (pds_if (pdt_w (pdw_or (pdt_not (pdt_val (pd_isi (by rfl) T.n_isinstance (by rfl) T.n_tuple (by decide +kernel) (pd_var 11)))) (pdw_or1 (pdt_cmp bo_eq (od_ne hr.units) (pd_var 11) (pd_ix (pd_var 7) (pd_op od_mod (pd_ct oc_int (by rfl) T.n_int (by decide +kernel) (pda_cons (pd_var 10) pda_nil)) (pd_var 8))))))) (pds_one (pds_ret pd_bl)) pds_nil)
    (pds_one (pds_if (pdt_cmp bo_eq (od_ne hr.units) (pd_lc false (.nm 13) (own := [("entry", 13)]) rfl sc_law_right.nd (pdi_seq (pd_var 11)) (blkOk_by (by rfl)) (by decide) (fun _ _ _ _ _ => (pg_name (i := 13) sc_law_right.nd rfl (by first | exact Or.inl rfl | exact Or.inr rfl))) (fun _ _ _ _ _ => (pdts_one (pdt_w (pdw_or (pdt_not (pdt_val (pd_isi (by rfl) T.n_isinstance (by rfl) T.n_int (by decide +kernel) (pd_var 13)))) (pdw_or1 (pdt_val (pd_isi (by rfl) T.n_isinstance (by rfl) T.n_bool (by decide +kernel) (pd_var 13)))))))) (fun _ _ _ _ _ => pd_int)) (pd_lst false pda_nil)) (pds_one (pds_ret pd_bl)) pds_nil)))) PassesOwn.never rfl)
    (pds_cons (pds_set 11 (pd_call false (ok_cycle_length T) (hr.mono (by decide)) (by rfl) T.g_cycle_length T.F_cycle_length.kp T.b_cycle_length (pda_cons (pd_var 3) (pda_cons (pd_var 4) (pda_cons (pd_var 6) pda_nil)))) sc_law_right.nd)
    (pds_one (pds_if (pdt_w (pdw_or (pdt_cmp bo_eq (od_ne hr.units) (pd_var 11) (pd_var 8)) (pdw_or (pdt_not (pdt_val (pd_isi (by rfl) T.n_isinstance (by rfl) T.n_int (by decide +kernel) (pd_var 11)))) (pdw_or1 (pdt_val (pd_isi (by rfl) T.n_isinstance (by rfl) T.n_bool (by decide +kernel) (pd_var 11))))))) (pds_one (pds_ret pd_bl)) pds_nil)))))))))) PassesOwn.never rfl)
    (pds_one (pds_ret (pd_cmp (od_eq hr.units) (pd_prop false (pd_var 3) T.g_Chain T.cl_Chain T.pr_Chain_steps (ok_Chain_steps T) (hr.mono (by decide)) T.b_Chain_steps) (pd_var 2))))))))
theorem ok_law (T : Tx K mg a fd cl pp) : FnOk P w K mg base CX0 9 (a 31) (fd 31) ["script"] (spD K mg 1 G_law) :=
  fn_okD (k := 8) T.F_law sc_law fun cdv A outer s H E hr =>
    (pds_cons (pds_for (.nm 1) (pdi_rg1 (by rfl) T.n_range (pd_cb (oc_max rfl) (by rfl) T.n_max (by decide +kernel) (pda_cons pd_int (pda_cons (pd_cb (oc_min rfl) (by rfl) T.n_min (by decide +kernel) (pda_cons pd_int (pda_cons (pd_cb (oc_len) (by rfl) T.n_len (by decide +kernel) (pda_cons (pd_var 0) pda_nil)) pda_nil))) pda_nil)))) (pg_name (i := 1) sc_law.nd rfl (by first | exact Or.inl rfl | exact Or.inr rfl)) (pds_cons (pds_set 2 (pd_call true (ok_law_pool T) (hr.mono (by decide)) (by rfl) T.g_law_pool T.F_law_pool.kp T.b_law_pool (pda_cons (pd_var 0) (pda_cons (pd_var 1) pda_nil))) sc_law.nd)
    (pds_one (pds_for (.nm 3) (pdi_tup (pd_tup (pda_cons pd_int (pda_cons pd_int pda_nil)))) (pg_name (i := 3) sc_law.nd rfl (by first | exact Or.inl rfl | exact Or.inr rfl)) (pds_one (pds_if (pdt_not (pdt_val (pd_call false (ok_law_right T) (hr.mono (by decide)) (by rfl) T.g_law_right T.F_law_right.kp T.b_law_right (pda_cons (pd_var 2) (pda_cons (pd_var 3) pda_nil))))) (pds_one (pds_ret pd_bl)) pds_nil)) PassesOwn.never rfl))) PassesOwn.never rfl)
    (pds_one (pds_ret pd_bl)))
end
end K51

set_option maxHeartbeats 0
namespace K51
open PySem L2 PK

theorem g_dot2 (a b c d : Int) (h : okMul a c = true) (h' : okMul b d = true) : G_dot [.fz (.tup [.int a, .int b]), .fz (.tup [.int c, .int d])] [] = some (.val (.int (a * c + (b * d))), []) := by
  unfold G_dot f_dot
  simp [fnD, sSeq, sSet, sDrop, sRet, sRetN, sIf, sAsg, sPar, sFor, forD, dC, dVar, dOp, der, ders, frz, frzs, dTup, dLst, aNil, aCons, aStar, PK.mk, dCB, PK.g1, PK.g2, lenD, absD, maxD, minD, PK.intD, listD, tupD, sumD, allD, intsD, bls, addD, subD, mulD, divD, modD, powD, cmpD, ixD, atI, ixN, dUn, negD, dB, truD, bNot, bAnd, bOr, bYes, dAndV, dOrV, dNotV, dChain, dFld, recvOk, dIsi, tyD, kitB, dCallN, callG, refs, renum, lives, PK.putAll, hNm, hSub, hNil, hCons, hTup, setIx, asgT, setAll, dMt, appD, extD, dLc, lcGo, wipeD, iSq, iRg1, iRg2, iZipD, iEnumD, iRevD, srcOf, rangeD, zipD, small, itemsD, List.range, List.range.loop, eqD_int, dSl, dRev, slD, cutD, okR, iZipXD, h, h']
theorem g_dot3 (a b e c d f : Int) (h : okMul a c = true) (h' : okMul b d = true) (h2 : okMul e f = true) : G_dot [.fz (.tup [.int a, .int b, .int e]), .fz (.tup [.int c, .int d, .int f])] [] = some (.val (.int (a * c + (b * d + e * f))), []) := by
  unfold G_dot f_dot
  simp [fnD, sSeq, sSet, sDrop, sRet, sRetN, sIf, sAsg, sPar, sFor, forD, dC, dVar, dOp, der, ders, frz, frzs, dTup, dLst, aNil, aCons, aStar, PK.mk, dCB, PK.g1, PK.g2, lenD, absD, maxD, minD, PK.intD, listD, tupD, sumD, allD, intsD, bls, addD, subD, mulD, divD, modD, powD, cmpD, ixD, atI, ixN, dUn, negD, dB, truD, bNot, bAnd, bOr, bYes, dAndV, dOrV, dNotV, dChain, dFld, recvOk, dIsi, tyD, kitB, dCallN, callG, refs, renum, lives, PK.putAll, hNm, hSub, hNil, hCons, hTup, setIx, asgT, setAll, dMt, appD, extD, dLc, lcGo, wipeD, iSq, iRg1, iRg2, iZipD, iEnumD, iRevD, srcOf, rangeD, zipD, small, itemsD, List.range, List.range.loop, eqD_int, dSl, dRev, slD, cutD, okR, iZipXD, h, h', h2]

/-! ### steps -/
inductive S where
  | lift (c : Nat) (ws : List Int) (m d : Int) | swap (i j : Nat) | turn (i : Nat)
def tupI (v : List Int) : D := .tup (v.map D.int)
def enc : S → D
  | .lift c ws m d => .tup [.str "lift", .int c, tupI ws, .int m, .int d]
  | .swap i j => .tup [.str "swap", .int i, .int j]
  | .turn i => .tup [.str "turn", .int i]
def dotI : List Int → List Int → Int
  | w :: ws, v :: vs => w * v + dotI ws vs
  | _, _ => 0
def go : S → List Int → List Int
  | .lift c ws m d, v => v.set c (v.getD c 0 + (dotI ws v + m) / d)
  | .swap i j, v => (v.set i (v.getD j 0)).set j (v.getD i 0)
  | .turn i, v => v.set i (-(v.getD i 0))
def back : S → S
  | .lift c ws m d => .lift c (ws.map fun w => -w) (d - 1 - m) d
  | s => s
/-- a step of n channels -/
def Ok (n : Nat) : S → Prop
  | .lift c ws m d => c < n ∧ ws.length = n ∧ ws.getD c 0 = 0 ∧ (∀ w ∈ ws, -6 ≤ w ∧ w ≤ 6) ∧ -40 ≤ m ∧ m ≤ 40 ∧ 1 ≤ d ∧ d ≤ 12
  | .swap i j => i < j ∧ j < n
  | .turn i => i < n
theorem sl1 : ((("lift" : Str) == ("lift" : Str)) = true) := by decide +kernel
theorem sl2 : ((("swap" : Str) == ("lift" : Str)) = false) := by decide +kernel
theorem sl3 : ((("turn" : Str) == ("lift" : Str)) = false) := by decide +kernel
theorem sl4 : ((("swap" : Str) == ("swap" : Str)) = true) := by decide +kernel
theorem sl5 : ((("turn" : Str) == ("swap" : Str)) = false) := by decide +kernel
theorem sl6 : ((("turn" : Str) == ("turn" : Str)) = true) := by decide +kernel
theorem sl7 : ((("lift" : Str) == ("swap" : Str)) = false) := by decide +kernel
theorem sl8 : ((("lift" : Str) == ("turn" : Str)) = false) := by decide +kernel
theorem okL : PyData.strOk "lift" = true := by decide +kernel
theorem okS : PyData.strOk "swap" = true := by decide +kernel
theorem okT : PyData.strOk "turn" = true := by decide +kernel
section
variable {neg : Bool} {δ : Dl}
theorem q1 : eqD neg δ (.str "lift") (.str "lift") = some (.fz (.bl (!neg)), δ) := by rw [eqD_str okL okL, sl1]; cases neg <;> rfl
theorem q2 : eqD neg δ (.str "swap") (.str "lift") = some (.fz (.bl neg), δ) := by rw [eqD_str okS okL, sl2]; cases neg <;> rfl
theorem q3 : eqD neg δ (.str "turn") (.str "lift") = some (.fz (.bl neg), δ) := by rw [eqD_str okT okL, sl3]; cases neg <;> rfl
theorem q4 : eqD neg δ (.str "swap") (.str "swap") = some (.fz (.bl (!neg)), δ) := by rw [eqD_str okS okS, sl4]; cases neg <;> rfl
theorem q5 : eqD neg δ (.str "turn") (.str "swap") = some (.fz (.bl neg), δ) := by rw [eqD_str okT okS, sl5]; cases neg <;> rfl
theorem q6 : eqD neg δ (.str "turn") (.str "turn") = some (.fz (.bl (!neg)), δ) := by rw [eqD_str okT okT, sl6]; cases neg <;> rfl
theorem q7 : eqD neg δ (.str "lift") (.str "swap") = some (.fz (.bl neg), δ) := by rw [eqD_str okL okS, sl7]; cases neg <;> rfl
theorem q8 : eqD neg δ (.str "lift") (.str "turn") = some (.fz (.bl neg), δ) := by rw [eqD_str okL okT, sl8]; cases neg <;> rfl
end
def Bd (n : Nat) (v : List Int) : Prop := ∀ x ∈ v, x.natAbs < 2 ^ n
theorem okMul_of {i j : Int} {n : Nat} (hi : -6 ≤ i ∧ i ≤ 6) (hj : j.natAbs < 2 ^ n) (hn : n ≤ 1000) : okMul i j = true := by
  unfold okMul
  have h1 : i.natAbs.log2 ≤ i.natAbs := Nat.log2_le_self _
  have h2 : j.natAbs.log2 ≤ n := by
    rcases Nat.eq_zero_or_pos j.natAbs with h | h
    · rw [h]; simp
    · exact Nat.le_of_lt ((Nat.log2_lt (by omega)).mpr hj)
  have h3 : i.natAbs ≤ 6 := by omega
  exact decide_eq_true (by omega)
theorem okDiv_of {d : Int} (h1 : 1 ≤ d) (h2 : d < 2 ^ 200) : okDiv d = true := by
  unfold okDiv
  have h3 : d.natAbs.log2 < 200 := (Nat.log2_lt (by omega)).mpr (by omega)
  exact decide_eq_true ⟨by omega, by omega⟩
theorem nat2 {n : Nat} (h : n < 2) : n = 0 ∨ n = 1 := by omega
theorem nat3 {n : Nat} (h : n < 3) : n = 0 ∨ n = 1 ∨ n = 2 := by omega
theorem len2 {v : List Int} (h : v.length = 2) : ∃ a b, v = [a, b] := by
  match v, h with
  | [a, b], _ => exact ⟨a, b, rfl⟩
theorem len3 {v : List Int} (h : v.length = 3) : ∃ a b c, v = [a, b, c] := by
  match v, h with
  | [a, b, c], _ => exact ⟨a, b, c, rfl⟩
/-- by cases: the channels, and all entries -/
theorem ok_cases {n : Nat} (hn : n = 2 ∨ n = 3) {v : List Int} (hv : v.length = n) {s : S} (h : Ok n s) {P : Nat → List Int → S → Prop}
    (a1 : ∀ x y w m d, (-6 ≤ w ∧ w ≤ 6) → -40 ≤ m → m ≤ 40 → 1 ≤ d → d ≤ 12 → P 2 [x, y] (.lift 0 [0, w] m d))
    (a2 : ∀ x y w m d, (-6 ≤ w ∧ w ≤ 6) → -40 ≤ m → m ≤ 40 → 1 ≤ d → d ≤ 12 → P 2 [x, y] (.lift 1 [w, 0] m d))
    (a3 : ∀ x y, P 2 [x, y] (.swap 0 1)) (a4 : ∀ x y, P 2 [x, y] (.turn 0)) (a5 : ∀ x y, P 2 [x, y] (.turn 1))
    (b1 : ∀ x y z w u m d, (-6 ≤ w ∧ w ≤ 6) → (-6 ≤ u ∧ u ≤ 6) → -40 ≤ m → m ≤ 40 → 1 ≤ d → d ≤ 12 → P 3 [x, y, z] (.lift 0 [0, w, u] m d))
    (b2 : ∀ x y z w u m d, (-6 ≤ w ∧ w ≤ 6) → (-6 ≤ u ∧ u ≤ 6) → -40 ≤ m → m ≤ 40 → 1 ≤ d → d ≤ 12 → P 3 [x, y, z] (.lift 1 [w, 0, u] m d))
    (b3 : ∀ x y z w u m d, (-6 ≤ w ∧ w ≤ 6) → (-6 ≤ u ∧ u ≤ 6) → -40 ≤ m → m ≤ 40 → 1 ≤ d → d ≤ 12 → P 3 [x, y, z] (.lift 2 [w, u, 0] m d))
    (b4 : ∀ x y z, P 3 [x, y, z] (.swap 0 1)) (b5 : ∀ x y z, P 3 [x, y, z] (.swap 0 2)) (b6 : ∀ x y z, P 3 [x, y, z] (.swap 1 2))
    (b7 : ∀ x y z, P 3 [x, y, z] (.turn 0)) (b8 : ∀ x y z, P 3 [x, y, z] (.turn 1)) (b9 : ∀ x y z, P 3 [x, y, z] (.turn 2)) : P n v s := by
  rcases hn with rfl | rfl
  · obtain ⟨x, y, rfl⟩ := len2 hv
    cases s with
    | lift c ws m d =>
      obtain ⟨h1, h2, h3, h4, h5, h6, h7, h8⟩ := h
      obtain ⟨w, u, rfl⟩ := len2 h2
      have hw := h4 w (by simp)
      have hu := h4 u (by simp)
      rcases nat2 h1 with rfl | rfl
      · obtain rfl : w = 0 := by simpa using h3
        exact a1 _ _ _ _ _ hu h5 h6 h7 h8
      · obtain rfl : u = 0 := by simpa using h3
        exact a2 _ _ _ _ _ hw h5 h6 h7 h8
    | swap i j =>
      obtain ⟨h1, h2⟩ := h
      obtain rfl : i = 0 := by omega
      obtain rfl : j = 1 := by omega
      exact a3 _ _
    | turn i =>
      rcases nat2 h with rfl | rfl
      · exact a4 _ _
      · exact a5 _ _
  · obtain ⟨x, y, z, rfl⟩ := len3 hv
    cases s with
    | lift c ws m d =>
      obtain ⟨h1, h2, h3, h4, h5, h6, h7, h8⟩ := h
      obtain ⟨w, u, t, rfl⟩ := len3 h2
      have hw := h4 w (by simp)
      have hu := h4 u (by simp)
      have ht := h4 t (by simp)
      rcases nat3 h1 with rfl | rfl | rfl
      · obtain rfl : w = 0 := by simpa using h3
        exact b1 _ _ _ _ _ _ _ hu ht h5 h6 h7 h8
      · obtain rfl : u = 0 := by simpa using h3
        exact b2 _ _ _ _ _ _ _ hw ht h5 h6 h7 h8
      · obtain rfl : t = 0 := by simpa using h3
        exact b3 _ _ _ _ _ _ _ hw hu h5 h6 h7 h8
    | swap i j =>
      obtain ⟨h1, h2⟩ := h
      rcases nat3 (n := i) (by omega) with rfl | rfl | rfl
      · rcases nat3 (n := j) h2 with rfl | rfl | rfl
        · omega
        · exact b4 _ _ _
        · exact b5 _ _ _
      · obtain rfl : j = 2 := by omega
        exact b6 _ _ _
      · omega
    | turn i =>
      rcases nat3 h with rfl | rfl | rfl
      · exact b7 _ _ _
      · exact b8 _ _ _
      · exact b9 _ _ _
theorem g_apply {n k : Nat} (hn : n = 2 ∨ n = 3) {v : List Int} (hv : v.length = n) {s : S} (h : Ok n s) (hb : Bd k v) (hk : k ≤ 1000) : G_apply_step [.fz (enc s), .fz (tupI v)] [] = some (.val (tupI (go s v)), []) := by
  revert hb
  refine ok_cases (P := fun n v s => Bd k v → G_apply_step [.fz (enc s), .fz (tupI v)] [] = some (.val (tupI (go s v)), [])) hn hv h ?_ ?_ ?_ ?_ ?_ ?_ ?_ ?_ ?_ ?_ ?_ ?_ ?_ ?_
  · intro x y w m d hw h1 h2 h3 h4 hb
    have e1 := okMul_of (i := 0) (by decide) (hb x (by simp)) hk
    have e2 := okMul_of (i := w) hw (hb y (by simp)) hk
    have e3 := okDiv_of h3 (by omega)
    unfold G_apply_step f_apply_step
    simp [fnD, sSeq, sSet, sDrop, sRet, sRetN, sIf, sAsg, sPar, sFor, forD, dC, dVar, dOp, der, ders, frz, frzs, dTup, dLst, aNil, aCons, aStar, PK.mk, dCB, PK.g1, PK.g2, lenD, absD, maxD, minD, PK.intD, listD, tupD, sumD, allD, intsD, bls, addD, subD, mulD, divD, modD, powD, cmpD, ixD, atI, ixN, dUn, negD, dB, truD, bNot, bAnd, bOr, bYes, dAndV, dOrV, dNotV, dChain, dFld, recvOk, dIsi, tyD, kitB, dCallN, callG, refs, renum, lives, PK.putAll, hNm, hSub, hNil, hCons, hTup, setIx, asgT, setAll, dMt, appD, extD, dLc, lcGo, wipeD, iSq, iRg1, iRg2, iZipD, iEnumD, iRevD, srcOf, rangeD, zipD, small, itemsD, List.range, List.range.loop, eqD_int, dSl, dRev, slD, cutD, okR, enc, tupI, go, back, q1, q2, q3, q4, q5, q6, q7, q8, e3, dotI, g_dot2 _ _ _ _ e1 e2]
  · intro x y w m d hw h1 h2 h3 h4 hb
    have e1 := okMul_of (i := w) hw (hb x (by simp)) hk
    have e2 := okMul_of (i := 0) (by decide) (hb y (by simp)) hk
    have e3 := okDiv_of h3 (by omega)
    unfold G_apply_step f_apply_step
    simp [fnD, sSeq, sSet, sDrop, sRet, sRetN, sIf, sAsg, sPar, sFor, forD, dC, dVar, dOp, der, ders, frz, frzs, dTup, dLst, aNil, aCons, aStar, PK.mk, dCB, PK.g1, PK.g2, lenD, absD, maxD, minD, PK.intD, listD, tupD, sumD, allD, intsD, bls, addD, subD, mulD, divD, modD, powD, cmpD, ixD, atI, ixN, dUn, negD, dB, truD, bNot, bAnd, bOr, bYes, dAndV, dOrV, dNotV, dChain, dFld, recvOk, dIsi, tyD, kitB, dCallN, callG, refs, renum, lives, PK.putAll, hNm, hSub, hNil, hCons, hTup, setIx, asgT, setAll, dMt, appD, extD, dLc, lcGo, wipeD, iSq, iRg1, iRg2, iZipD, iEnumD, iRevD, srcOf, rangeD, zipD, small, itemsD, List.range, List.range.loop, eqD_int, dSl, dRev, slD, cutD, okR, enc, tupI, go, back, q1, q2, q3, q4, q5, q6, q7, q8, e3, dotI, g_dot2 _ _ _ _ e1 e2]
  · intro x y hb
    unfold G_apply_step f_apply_step
    simp [fnD, sSeq, sSet, sDrop, sRet, sRetN, sIf, sAsg, sPar, sFor, forD, dC, dVar, dOp, der, ders, frz, frzs, dTup, dLst, aNil, aCons, aStar, PK.mk, dCB, PK.g1, PK.g2, lenD, absD, maxD, minD, PK.intD, listD, tupD, sumD, allD, intsD, bls, addD, subD, mulD, divD, modD, powD, cmpD, ixD, atI, ixN, dUn, negD, dB, truD, bNot, bAnd, bOr, bYes, dAndV, dOrV, dNotV, dChain, dFld, recvOk, dIsi, tyD, kitB, dCallN, callG, refs, renum, lives, PK.putAll, hNm, hSub, hNil, hCons, hTup, setIx, asgT, setAll, dMt, appD, extD, dLc, lcGo, wipeD, iSq, iRg1, iRg2, iZipD, iEnumD, iRevD, srcOf, rangeD, zipD, small, itemsD, List.range, List.range.loop, eqD_int, dSl, dRev, slD, cutD, okR, enc, tupI, go, back, q1, q2, q3, q4, q5, q6, q7, q8, dotI]
  · intro x y hb
    unfold G_apply_step f_apply_step
    simp [fnD, sSeq, sSet, sDrop, sRet, sRetN, sIf, sAsg, sPar, sFor, forD, dC, dVar, dOp, der, ders, frz, frzs, dTup, dLst, aNil, aCons, aStar, PK.mk, dCB, PK.g1, PK.g2, lenD, absD, maxD, minD, PK.intD, listD, tupD, sumD, allD, intsD, bls, addD, subD, mulD, divD, modD, powD, cmpD, ixD, atI, ixN, dUn, negD, dB, truD, bNot, bAnd, bOr, bYes, dAndV, dOrV, dNotV, dChain, dFld, recvOk, dIsi, tyD, kitB, dCallN, callG, refs, renum, lives, PK.putAll, hNm, hSub, hNil, hCons, hTup, setIx, asgT, setAll, dMt, appD, extD, dLc, lcGo, wipeD, iSq, iRg1, iRg2, iZipD, iEnumD, iRevD, srcOf, rangeD, zipD, small, itemsD, List.range, List.range.loop, eqD_int, dSl, dRev, slD, cutD, okR, enc, tupI, go, back, q1, q2, q3, q4, q5, q6, q7, q8, dotI]
  · intro x y hb
    unfold G_apply_step f_apply_step
    simp [fnD, sSeq, sSet, sDrop, sRet, sRetN, sIf, sAsg, sPar, sFor, forD, dC, dVar, dOp, der, ders, frz, frzs, dTup, dLst, aNil, aCons, aStar, PK.mk, dCB, PK.g1, PK.g2, lenD, absD, maxD, minD, PK.intD, listD, tupD, sumD, allD, intsD, bls, addD, subD, mulD, divD, modD, powD, cmpD, ixD, atI, ixN, dUn, negD, dB, truD, bNot, bAnd, bOr, bYes, dAndV, dOrV, dNotV, dChain, dFld, recvOk, dIsi, tyD, kitB, dCallN, callG, refs, renum, lives, PK.putAll, hNm, hSub, hNil, hCons, hTup, setIx, asgT, setAll, dMt, appD, extD, dLc, lcGo, wipeD, iSq, iRg1, iRg2, iZipD, iEnumD, iRevD, srcOf, rangeD, zipD, small, itemsD, List.range, List.range.loop, eqD_int, dSl, dRev, slD, cutD, okR, enc, tupI, go, back, q1, q2, q3, q4, q5, q6, q7, q8, dotI]
  · intro x y z w u m d hw hu h1 h2 h3 h4 hb
    have e1 := okMul_of (i := 0) (by decide) (hb x (by simp)) hk
    have e2 := okMul_of (i := w) hw (hb y (by simp)) hk
    have e4 := okMul_of (i := u) hu (hb z (by simp)) hk
    have e3 := okDiv_of h3 (by omega)
    unfold G_apply_step f_apply_step
    simp [fnD, sSeq, sSet, sDrop, sRet, sRetN, sIf, sAsg, sPar, sFor, forD, dC, dVar, dOp, der, ders, frz, frzs, dTup, dLst, aNil, aCons, aStar, PK.mk, dCB, PK.g1, PK.g2, lenD, absD, maxD, minD, PK.intD, listD, tupD, sumD, allD, intsD, bls, addD, subD, mulD, divD, modD, powD, cmpD, ixD, atI, ixN, dUn, negD, dB, truD, bNot, bAnd, bOr, bYes, dAndV, dOrV, dNotV, dChain, dFld, recvOk, dIsi, tyD, kitB, dCallN, callG, refs, renum, lives, PK.putAll, hNm, hSub, hNil, hCons, hTup, setIx, asgT, setAll, dMt, appD, extD, dLc, lcGo, wipeD, iSq, iRg1, iRg2, iZipD, iEnumD, iRevD, srcOf, rangeD, zipD, small, itemsD, List.range, List.range.loop, eqD_int, dSl, dRev, slD, cutD, okR, enc, tupI, go, back, q1, q2, q3, q4, q5, q6, q7, q8, e3, dotI, g_dot3 _ _ _ _ _ _ e1 e2 e4]
  · intro x y z w u m d hw hu h1 h2 h3 h4 hb
    have e1 := okMul_of (i := w) hw (hb x (by simp)) hk
    have e2 := okMul_of (i := 0) (by decide) (hb y (by simp)) hk
    have e4 := okMul_of (i := u) hu (hb z (by simp)) hk
    have e3 := okDiv_of h3 (by omega)
    unfold G_apply_step f_apply_step
    simp [fnD, sSeq, sSet, sDrop, sRet, sRetN, sIf, sAsg, sPar, sFor, forD, dC, dVar, dOp, der, ders, frz, frzs, dTup, dLst, aNil, aCons, aStar, PK.mk, dCB, PK.g1, PK.g2, lenD, absD, maxD, minD, PK.intD, listD, tupD, sumD, allD, intsD, bls, addD, subD, mulD, divD, modD, powD, cmpD, ixD, atI, ixN, dUn, negD, dB, truD, bNot, bAnd, bOr, bYes, dAndV, dOrV, dNotV, dChain, dFld, recvOk, dIsi, tyD, kitB, dCallN, callG, refs, renum, lives, PK.putAll, hNm, hSub, hNil, hCons, hTup, setIx, asgT, setAll, dMt, appD, extD, dLc, lcGo, wipeD, iSq, iRg1, iRg2, iZipD, iEnumD, iRevD, srcOf, rangeD, zipD, small, itemsD, List.range, List.range.loop, eqD_int, dSl, dRev, slD, cutD, okR, enc, tupI, go, back, q1, q2, q3, q4, q5, q6, q7, q8, e3, dotI, g_dot3 _ _ _ _ _ _ e1 e2 e4]
  · intro x y z w u m d hw hu h1 h2 h3 h4 hb
    have e1 := okMul_of (i := w) hw (hb x (by simp)) hk
    have e2 := okMul_of (i := u) hu (hb y (by simp)) hk
    have e4 := okMul_of (i := 0) (by decide) (hb z (by simp)) hk
    have e3 := okDiv_of h3 (by omega)
    unfold G_apply_step f_apply_step
    simp [fnD, sSeq, sSet, sDrop, sRet, sRetN, sIf, sAsg, sPar, sFor, forD, dC, dVar, dOp, der, ders, frz, frzs, dTup, dLst, aNil, aCons, aStar, PK.mk, dCB, PK.g1, PK.g2, lenD, absD, maxD, minD, PK.intD, listD, tupD, sumD, allD, intsD, bls, addD, subD, mulD, divD, modD, powD, cmpD, ixD, atI, ixN, dUn, negD, dB, truD, bNot, bAnd, bOr, bYes, dAndV, dOrV, dNotV, dChain, dFld, recvOk, dIsi, tyD, kitB, dCallN, callG, refs, renum, lives, PK.putAll, hNm, hSub, hNil, hCons, hTup, setIx, asgT, setAll, dMt, appD, extD, dLc, lcGo, wipeD, iSq, iRg1, iRg2, iZipD, iEnumD, iRevD, srcOf, rangeD, zipD, small, itemsD, List.range, List.range.loop, eqD_int, dSl, dRev, slD, cutD, okR, enc, tupI, go, back, q1, q2, q3, q4, q5, q6, q7, q8, e3, dotI, g_dot3 _ _ _ _ _ _ e1 e2 e4]
  · intro x y z hb
    unfold G_apply_step f_apply_step
    simp [fnD, sSeq, sSet, sDrop, sRet, sRetN, sIf, sAsg, sPar, sFor, forD, dC, dVar, dOp, der, ders, frz, frzs, dTup, dLst, aNil, aCons, aStar, PK.mk, dCB, PK.g1, PK.g2, lenD, absD, maxD, minD, PK.intD, listD, tupD, sumD, allD, intsD, bls, addD, subD, mulD, divD, modD, powD, cmpD, ixD, atI, ixN, dUn, negD, dB, truD, bNot, bAnd, bOr, bYes, dAndV, dOrV, dNotV, dChain, dFld, recvOk, dIsi, tyD, kitB, dCallN, callG, refs, renum, lives, PK.putAll, hNm, hSub, hNil, hCons, hTup, setIx, asgT, setAll, dMt, appD, extD, dLc, lcGo, wipeD, iSq, iRg1, iRg2, iZipD, iEnumD, iRevD, srcOf, rangeD, zipD, small, itemsD, List.range, List.range.loop, eqD_int, dSl, dRev, slD, cutD, okR, enc, tupI, go, back, q1, q2, q3, q4, q5, q6, q7, q8, dotI]
  · intro x y z hb
    unfold G_apply_step f_apply_step
    simp [fnD, sSeq, sSet, sDrop, sRet, sRetN, sIf, sAsg, sPar, sFor, forD, dC, dVar, dOp, der, ders, frz, frzs, dTup, dLst, aNil, aCons, aStar, PK.mk, dCB, PK.g1, PK.g2, lenD, absD, maxD, minD, PK.intD, listD, tupD, sumD, allD, intsD, bls, addD, subD, mulD, divD, modD, powD, cmpD, ixD, atI, ixN, dUn, negD, dB, truD, bNot, bAnd, bOr, bYes, dAndV, dOrV, dNotV, dChain, dFld, recvOk, dIsi, tyD, kitB, dCallN, callG, refs, renum, lives, PK.putAll, hNm, hSub, hNil, hCons, hTup, setIx, asgT, setAll, dMt, appD, extD, dLc, lcGo, wipeD, iSq, iRg1, iRg2, iZipD, iEnumD, iRevD, srcOf, rangeD, zipD, small, itemsD, List.range, List.range.loop, eqD_int, dSl, dRev, slD, cutD, okR, enc, tupI, go, back, q1, q2, q3, q4, q5, q6, q7, q8, dotI]
  · intro x y z hb
    unfold G_apply_step f_apply_step
    simp [fnD, sSeq, sSet, sDrop, sRet, sRetN, sIf, sAsg, sPar, sFor, forD, dC, dVar, dOp, der, ders, frz, frzs, dTup, dLst, aNil, aCons, aStar, PK.mk, dCB, PK.g1, PK.g2, lenD, absD, maxD, minD, PK.intD, listD, tupD, sumD, allD, intsD, bls, addD, subD, mulD, divD, modD, powD, cmpD, ixD, atI, ixN, dUn, negD, dB, truD, bNot, bAnd, bOr, bYes, dAndV, dOrV, dNotV, dChain, dFld, recvOk, dIsi, tyD, kitB, dCallN, callG, refs, renum, lives, PK.putAll, hNm, hSub, hNil, hCons, hTup, setIx, asgT, setAll, dMt, appD, extD, dLc, lcGo, wipeD, iSq, iRg1, iRg2, iZipD, iEnumD, iRevD, srcOf, rangeD, zipD, small, itemsD, List.range, List.range.loop, eqD_int, dSl, dRev, slD, cutD, okR, enc, tupI, go, back, q1, q2, q3, q4, q5, q6, q7, q8, dotI]
  · intro x y z hb
    unfold G_apply_step f_apply_step
    simp [fnD, sSeq, sSet, sDrop, sRet, sRetN, sIf, sAsg, sPar, sFor, forD, dC, dVar, dOp, der, ders, frz, frzs, dTup, dLst, aNil, aCons, aStar, PK.mk, dCB, PK.g1, PK.g2, lenD, absD, maxD, minD, PK.intD, listD, tupD, sumD, allD, intsD, bls, addD, subD, mulD, divD, modD, powD, cmpD, ixD, atI, ixN, dUn, negD, dB, truD, bNot, bAnd, bOr, bYes, dAndV, dOrV, dNotV, dChain, dFld, recvOk, dIsi, tyD, kitB, dCallN, callG, refs, renum, lives, PK.putAll, hNm, hSub, hNil, hCons, hTup, setIx, asgT, setAll, dMt, appD, extD, dLc, lcGo, wipeD, iSq, iRg1, iRg2, iZipD, iEnumD, iRevD, srcOf, rangeD, zipD, small, itemsD, List.range, List.range.loop, eqD_int, dSl, dRev, slD, cutD, okR, enc, tupI, go, back, q1, q2, q3, q4, q5, q6, q7, q8, dotI]
  · intro x y z hb
    unfold G_apply_step f_apply_step
    simp [fnD, sSeq, sSet, sDrop, sRet, sRetN, sIf, sAsg, sPar, sFor, forD, dC, dVar, dOp, der, ders, frz, frzs, dTup, dLst, aNil, aCons, aStar, PK.mk, dCB, PK.g1, PK.g2, lenD, absD, maxD, minD, PK.intD, listD, tupD, sumD, allD, intsD, bls, addD, subD, mulD, divD, modD, powD, cmpD, ixD, atI, ixN, dUn, negD, dB, truD, bNot, bAnd, bOr, bYes, dAndV, dOrV, dNotV, dChain, dFld, recvOk, dIsi, tyD, kitB, dCallN, callG, refs, renum, lives, PK.putAll, hNm, hSub, hNil, hCons, hTup, setIx, asgT, setAll, dMt, appD, extD, dLc, lcGo, wipeD, iSq, iRg1, iRg2, iZipD, iEnumD, iRevD, srcOf, rangeD, zipD, small, itemsD, List.range, List.range.loop, eqD_int, dSl, dRev, slD, cutD, okR, enc, tupI, go, back, q1, q2, q3, q4, q5, q6, q7, q8, dotI]
  · intro x y z hb
    unfold G_apply_step f_apply_step
    simp [fnD, sSeq, sSet, sDrop, sRet, sRetN, sIf, sAsg, sPar, sFor, forD, dC, dVar, dOp, der, ders, frz, frzs, dTup, dLst, aNil, aCons, aStar, PK.mk, dCB, PK.g1, PK.g2, lenD, absD, maxD, minD, PK.intD, listD, tupD, sumD, allD, intsD, bls, addD, subD, mulD, divD, modD, powD, cmpD, ixD, atI, ixN, dUn, negD, dB, truD, bNot, bAnd, bOr, bYes, dAndV, dOrV, dNotV, dChain, dFld, recvOk, dIsi, tyD, kitB, dCallN, callG, refs, renum, lives, PK.putAll, hNm, hSub, hNil, hCons, hTup, setIx, asgT, setAll, dMt, appD, extD, dLc, lcGo, wipeD, iSq, iRg1, iRg2, iZipD, iEnumD, iRevD, srcOf, rangeD, zipD, small, itemsD, List.range, List.range.loop, eqD_int, dSl, dRev, slD, cutD, okR, enc, tupI, go, back, q1, q2, q3, q4, q5, q6, q7, q8, dotI]
theorem g_done {n k : Nat} (hn : n = 2 ∨ n = 3) {v : List Int} (hv : v.length = n) {s : S} (h : Ok n s) (hb : Bd k v) (hk : k ≤ 1000) : G_law_done [.fz (enc s), .fz (tupI v)] [] = some (.val (tupI (go s v)), []) := by
  revert hb
  refine ok_cases (P := fun n v s => Bd k v → G_law_done [.fz (enc s), .fz (tupI v)] [] = some (.val (tupI (go s v)), [])) hn hv h ?_ ?_ ?_ ?_ ?_ ?_ ?_ ?_ ?_ ?_ ?_ ?_ ?_ ?_
  · intro x y w m d hw h1 h2 h3 h4 hb
    have e1 := okMul_of (i := 0) (by decide) (hb x (by simp)) hk
    have e2 := okMul_of (i := w) hw (hb y (by simp)) hk
    have e3 := okDiv_of h3 (by omega)
    unfold G_law_done f_law_done
    simp [fnD, sSeq, sSet, sDrop, sRet, sRetN, sIf, sAsg, sPar, sFor, forD, dC, dVar, dOp, der, ders, frz, frzs, dTup, dLst, aNil, aCons, aStar, PK.mk, dCB, PK.g1, PK.g2, lenD, absD, maxD, minD, PK.intD, listD, tupD, sumD, allD, intsD, bls, addD, subD, mulD, divD, modD, powD, cmpD, ixD, atI, ixN, dUn, negD, dB, truD, bNot, bAnd, bOr, bYes, dAndV, dOrV, dNotV, dChain, dFld, recvOk, dIsi, tyD, kitB, dCallN, callG, refs, renum, lives, PK.putAll, hNm, hSub, hNil, hCons, hTup, setIx, asgT, setAll, dMt, appD, extD, dLc, lcGo, wipeD, iSq, iRg1, iRg2, iZipD, iEnumD, iRevD, srcOf, rangeD, zipD, small, itemsD, List.range, List.range.loop, eqD_int, dSl, dRev, slD, cutD, okR, enc, tupI, go, back, q1, q2, q3, q4, q5, q6, q7, q8, e3, dotI, e1, e2]
    all_goals (congr 1; omega)
  · intro x y w m d hw h1 h2 h3 h4 hb
    have e1 := okMul_of (i := w) hw (hb x (by simp)) hk
    have e2 := okMul_of (i := 0) (by decide) (hb y (by simp)) hk
    have e3 := okDiv_of h3 (by omega)
    unfold G_law_done f_law_done
    simp [fnD, sSeq, sSet, sDrop, sRet, sRetN, sIf, sAsg, sPar, sFor, forD, dC, dVar, dOp, der, ders, frz, frzs, dTup, dLst, aNil, aCons, aStar, PK.mk, dCB, PK.g1, PK.g2, lenD, absD, maxD, minD, PK.intD, listD, tupD, sumD, allD, intsD, bls, addD, subD, mulD, divD, modD, powD, cmpD, ixD, atI, ixN, dUn, negD, dB, truD, bNot, bAnd, bOr, bYes, dAndV, dOrV, dNotV, dChain, dFld, recvOk, dIsi, tyD, kitB, dCallN, callG, refs, renum, lives, PK.putAll, hNm, hSub, hNil, hCons, hTup, setIx, asgT, setAll, dMt, appD, extD, dLc, lcGo, wipeD, iSq, iRg1, iRg2, iZipD, iEnumD, iRevD, srcOf, rangeD, zipD, small, itemsD, List.range, List.range.loop, eqD_int, dSl, dRev, slD, cutD, okR, enc, tupI, go, back, q1, q2, q3, q4, q5, q6, q7, q8, e3, dotI, e1, e2]
    all_goals (congr 1; omega)
  · intro x y hb
    unfold G_law_done f_law_done
    simp [fnD, sSeq, sSet, sDrop, sRet, sRetN, sIf, sAsg, sPar, sFor, forD, dC, dVar, dOp, der, ders, frz, frzs, dTup, dLst, aNil, aCons, aStar, PK.mk, dCB, PK.g1, PK.g2, lenD, absD, maxD, minD, PK.intD, listD, tupD, sumD, allD, intsD, bls, addD, subD, mulD, divD, modD, powD, cmpD, ixD, atI, ixN, dUn, negD, dB, truD, bNot, bAnd, bOr, bYes, dAndV, dOrV, dNotV, dChain, dFld, recvOk, dIsi, tyD, kitB, dCallN, callG, refs, renum, lives, PK.putAll, hNm, hSub, hNil, hCons, hTup, setIx, asgT, setAll, dMt, appD, extD, dLc, lcGo, wipeD, iSq, iRg1, iRg2, iZipD, iEnumD, iRevD, srcOf, rangeD, zipD, small, itemsD, List.range, List.range.loop, eqD_int, dSl, dRev, slD, cutD, okR, enc, tupI, go, back, q1, q2, q3, q4, q5, q6, q7, q8, dotI]
  · intro x y hb
    unfold G_law_done f_law_done
    simp [fnD, sSeq, sSet, sDrop, sRet, sRetN, sIf, sAsg, sPar, sFor, forD, dC, dVar, dOp, der, ders, frz, frzs, dTup, dLst, aNil, aCons, aStar, PK.mk, dCB, PK.g1, PK.g2, lenD, absD, maxD, minD, PK.intD, listD, tupD, sumD, allD, intsD, bls, addD, subD, mulD, divD, modD, powD, cmpD, ixD, atI, ixN, dUn, negD, dB, truD, bNot, bAnd, bOr, bYes, dAndV, dOrV, dNotV, dChain, dFld, recvOk, dIsi, tyD, kitB, dCallN, callG, refs, renum, lives, PK.putAll, hNm, hSub, hNil, hCons, hTup, setIx, asgT, setAll, dMt, appD, extD, dLc, lcGo, wipeD, iSq, iRg1, iRg2, iZipD, iEnumD, iRevD, srcOf, rangeD, zipD, small, itemsD, List.range, List.range.loop, eqD_int, dSl, dRev, slD, cutD, okR, enc, tupI, go, back, q1, q2, q3, q4, q5, q6, q7, q8, dotI]
  · intro x y hb
    unfold G_law_done f_law_done
    simp [fnD, sSeq, sSet, sDrop, sRet, sRetN, sIf, sAsg, sPar, sFor, forD, dC, dVar, dOp, der, ders, frz, frzs, dTup, dLst, aNil, aCons, aStar, PK.mk, dCB, PK.g1, PK.g2, lenD, absD, maxD, minD, PK.intD, listD, tupD, sumD, allD, intsD, bls, addD, subD, mulD, divD, modD, powD, cmpD, ixD, atI, ixN, dUn, negD, dB, truD, bNot, bAnd, bOr, bYes, dAndV, dOrV, dNotV, dChain, dFld, recvOk, dIsi, tyD, kitB, dCallN, callG, refs, renum, lives, PK.putAll, hNm, hSub, hNil, hCons, hTup, setIx, asgT, setAll, dMt, appD, extD, dLc, lcGo, wipeD, iSq, iRg1, iRg2, iZipD, iEnumD, iRevD, srcOf, rangeD, zipD, small, itemsD, List.range, List.range.loop, eqD_int, dSl, dRev, slD, cutD, okR, enc, tupI, go, back, q1, q2, q3, q4, q5, q6, q7, q8, dotI]
  · intro x y z w u m d hw hu h1 h2 h3 h4 hb
    have e1 := okMul_of (i := 0) (by decide) (hb x (by simp)) hk
    have e2 := okMul_of (i := w) hw (hb y (by simp)) hk
    have e4 := okMul_of (i := u) hu (hb z (by simp)) hk
    have e3 := okDiv_of h3 (by omega)
    unfold G_law_done f_law_done
    simp [fnD, sSeq, sSet, sDrop, sRet, sRetN, sIf, sAsg, sPar, sFor, forD, dC, dVar, dOp, der, ders, frz, frzs, dTup, dLst, aNil, aCons, aStar, PK.mk, dCB, PK.g1, PK.g2, lenD, absD, maxD, minD, PK.intD, listD, tupD, sumD, allD, intsD, bls, addD, subD, mulD, divD, modD, powD, cmpD, ixD, atI, ixN, dUn, negD, dB, truD, bNot, bAnd, bOr, bYes, dAndV, dOrV, dNotV, dChain, dFld, recvOk, dIsi, tyD, kitB, dCallN, callG, refs, renum, lives, PK.putAll, hNm, hSub, hNil, hCons, hTup, setIx, asgT, setAll, dMt, appD, extD, dLc, lcGo, wipeD, iSq, iRg1, iRg2, iZipD, iEnumD, iRevD, srcOf, rangeD, zipD, small, itemsD, List.range, List.range.loop, eqD_int, dSl, dRev, slD, cutD, okR, enc, tupI, go, back, q1, q2, q3, q4, q5, q6, q7, q8, e3, dotI, e1, e2, e4]
    all_goals (congr 1; omega)
  · intro x y z w u m d hw hu h1 h2 h3 h4 hb
    have e1 := okMul_of (i := w) hw (hb x (by simp)) hk
    have e2 := okMul_of (i := 0) (by decide) (hb y (by simp)) hk
    have e4 := okMul_of (i := u) hu (hb z (by simp)) hk
    have e3 := okDiv_of h3 (by omega)
    unfold G_law_done f_law_done
    simp [fnD, sSeq, sSet, sDrop, sRet, sRetN, sIf, sAsg, sPar, sFor, forD, dC, dVar, dOp, der, ders, frz, frzs, dTup, dLst, aNil, aCons, aStar, PK.mk, dCB, PK.g1, PK.g2, lenD, absD, maxD, minD, PK.intD, listD, tupD, sumD, allD, intsD, bls, addD, subD, mulD, divD, modD, powD, cmpD, ixD, atI, ixN, dUn, negD, dB, truD, bNot, bAnd, bOr, bYes, dAndV, dOrV, dNotV, dChain, dFld, recvOk, dIsi, tyD, kitB, dCallN, callG, refs, renum, lives, PK.putAll, hNm, hSub, hNil, hCons, hTup, setIx, asgT, setAll, dMt, appD, extD, dLc, lcGo, wipeD, iSq, iRg1, iRg2, iZipD, iEnumD, iRevD, srcOf, rangeD, zipD, small, itemsD, List.range, List.range.loop, eqD_int, dSl, dRev, slD, cutD, okR, enc, tupI, go, back, q1, q2, q3, q4, q5, q6, q7, q8, e3, dotI, e1, e2, e4]
    all_goals (congr 1; omega)
  · intro x y z w u m d hw hu h1 h2 h3 h4 hb
    have e1 := okMul_of (i := w) hw (hb x (by simp)) hk
    have e2 := okMul_of (i := u) hu (hb y (by simp)) hk
    have e4 := okMul_of (i := 0) (by decide) (hb z (by simp)) hk
    have e3 := okDiv_of h3 (by omega)
    unfold G_law_done f_law_done
    simp [fnD, sSeq, sSet, sDrop, sRet, sRetN, sIf, sAsg, sPar, sFor, forD, dC, dVar, dOp, der, ders, frz, frzs, dTup, dLst, aNil, aCons, aStar, PK.mk, dCB, PK.g1, PK.g2, lenD, absD, maxD, minD, PK.intD, listD, tupD, sumD, allD, intsD, bls, addD, subD, mulD, divD, modD, powD, cmpD, ixD, atI, ixN, dUn, negD, dB, truD, bNot, bAnd, bOr, bYes, dAndV, dOrV, dNotV, dChain, dFld, recvOk, dIsi, tyD, kitB, dCallN, callG, refs, renum, lives, PK.putAll, hNm, hSub, hNil, hCons, hTup, setIx, asgT, setAll, dMt, appD, extD, dLc, lcGo, wipeD, iSq, iRg1, iRg2, iZipD, iEnumD, iRevD, srcOf, rangeD, zipD, small, itemsD, List.range, List.range.loop, eqD_int, dSl, dRev, slD, cutD, okR, enc, tupI, go, back, q1, q2, q3, q4, q5, q6, q7, q8, e3, dotI, e1, e2, e4]
    all_goals (congr 1; omega)
  · intro x y z hb
    unfold G_law_done f_law_done
    simp [fnD, sSeq, sSet, sDrop, sRet, sRetN, sIf, sAsg, sPar, sFor, forD, dC, dVar, dOp, der, ders, frz, frzs, dTup, dLst, aNil, aCons, aStar, PK.mk, dCB, PK.g1, PK.g2, lenD, absD, maxD, minD, PK.intD, listD, tupD, sumD, allD, intsD, bls, addD, subD, mulD, divD, modD, powD, cmpD, ixD, atI, ixN, dUn, negD, dB, truD, bNot, bAnd, bOr, bYes, dAndV, dOrV, dNotV, dChain, dFld, recvOk, dIsi, tyD, kitB, dCallN, callG, refs, renum, lives, PK.putAll, hNm, hSub, hNil, hCons, hTup, setIx, asgT, setAll, dMt, appD, extD, dLc, lcGo, wipeD, iSq, iRg1, iRg2, iZipD, iEnumD, iRevD, srcOf, rangeD, zipD, small, itemsD, List.range, List.range.loop, eqD_int, dSl, dRev, slD, cutD, okR, enc, tupI, go, back, q1, q2, q3, q4, q5, q6, q7, q8, dotI]
  · intro x y z hb
    unfold G_law_done f_law_done
    simp [fnD, sSeq, sSet, sDrop, sRet, sRetN, sIf, sAsg, sPar, sFor, forD, dC, dVar, dOp, der, ders, frz, frzs, dTup, dLst, aNil, aCons, aStar, PK.mk, dCB, PK.g1, PK.g2, lenD, absD, maxD, minD, PK.intD, listD, tupD, sumD, allD, intsD, bls, addD, subD, mulD, divD, modD, powD, cmpD, ixD, atI, ixN, dUn, negD, dB, truD, bNot, bAnd, bOr, bYes, dAndV, dOrV, dNotV, dChain, dFld, recvOk, dIsi, tyD, kitB, dCallN, callG, refs, renum, lives, PK.putAll, hNm, hSub, hNil, hCons, hTup, setIx, asgT, setAll, dMt, appD, extD, dLc, lcGo, wipeD, iSq, iRg1, iRg2, iZipD, iEnumD, iRevD, srcOf, rangeD, zipD, small, itemsD, List.range, List.range.loop, eqD_int, dSl, dRev, slD, cutD, okR, enc, tupI, go, back, q1, q2, q3, q4, q5, q6, q7, q8, dotI]
  · intro x y z hb
    unfold G_law_done f_law_done
    simp [fnD, sSeq, sSet, sDrop, sRet, sRetN, sIf, sAsg, sPar, sFor, forD, dC, dVar, dOp, der, ders, frz, frzs, dTup, dLst, aNil, aCons, aStar, PK.mk, dCB, PK.g1, PK.g2, lenD, absD, maxD, minD, PK.intD, listD, tupD, sumD, allD, intsD, bls, addD, subD, mulD, divD, modD, powD, cmpD, ixD, atI, ixN, dUn, negD, dB, truD, bNot, bAnd, bOr, bYes, dAndV, dOrV, dNotV, dChain, dFld, recvOk, dIsi, tyD, kitB, dCallN, callG, refs, renum, lives, PK.putAll, hNm, hSub, hNil, hCons, hTup, setIx, asgT, setAll, dMt, appD, extD, dLc, lcGo, wipeD, iSq, iRg1, iRg2, iZipD, iEnumD, iRevD, srcOf, rangeD, zipD, small, itemsD, List.range, List.range.loop, eqD_int, dSl, dRev, slD, cutD, okR, enc, tupI, go, back, q1, q2, q3, q4, q5, q6, q7, q8, dotI]
  · intro x y z hb
    unfold G_law_done f_law_done
    simp [fnD, sSeq, sSet, sDrop, sRet, sRetN, sIf, sAsg, sPar, sFor, forD, dC, dVar, dOp, der, ders, frz, frzs, dTup, dLst, aNil, aCons, aStar, PK.mk, dCB, PK.g1, PK.g2, lenD, absD, maxD, minD, PK.intD, listD, tupD, sumD, allD, intsD, bls, addD, subD, mulD, divD, modD, powD, cmpD, ixD, atI, ixN, dUn, negD, dB, truD, bNot, bAnd, bOr, bYes, dAndV, dOrV, dNotV, dChain, dFld, recvOk, dIsi, tyD, kitB, dCallN, callG, refs, renum, lives, PK.putAll, hNm, hSub, hNil, hCons, hTup, setIx, asgT, setAll, dMt, appD, extD, dLc, lcGo, wipeD, iSq, iRg1, iRg2, iZipD, iEnumD, iRevD, srcOf, rangeD, zipD, small, itemsD, List.range, List.range.loop, eqD_int, dSl, dRev, slD, cutD, okR, enc, tupI, go, back, q1, q2, q3, q4, q5, q6, q7, q8, dotI]
  · intro x y z hb
    unfold G_law_done f_law_done
    simp [fnD, sSeq, sSet, sDrop, sRet, sRetN, sIf, sAsg, sPar, sFor, forD, dC, dVar, dOp, der, ders, frz, frzs, dTup, dLst, aNil, aCons, aStar, PK.mk, dCB, PK.g1, PK.g2, lenD, absD, maxD, minD, PK.intD, listD, tupD, sumD, allD, intsD, bls, addD, subD, mulD, divD, modD, powD, cmpD, ixD, atI, ixN, dUn, negD, dB, truD, bNot, bAnd, bOr, bYes, dAndV, dOrV, dNotV, dChain, dFld, recvOk, dIsi, tyD, kitB, dCallN, callG, refs, renum, lives, PK.putAll, hNm, hSub, hNil, hCons, hTup, setIx, asgT, setAll, dMt, appD, extD, dLc, lcGo, wipeD, iSq, iRg1, iRg2, iZipD, iEnumD, iRevD, srcOf, rangeD, zipD, small, itemsD, List.range, List.range.loop, eqD_int, dSl, dRev, slD, cutD, okR, enc, tupI, go, back, q1, q2, q3, q4, q5, q6, q7, q8, dotI]
  · intro x y z hb
    unfold G_law_done f_law_done
    simp [fnD, sSeq, sSet, sDrop, sRet, sRetN, sIf, sAsg, sPar, sFor, forD, dC, dVar, dOp, der, ders, frz, frzs, dTup, dLst, aNil, aCons, aStar, PK.mk, dCB, PK.g1, PK.g2, lenD, absD, maxD, minD, PK.intD, listD, tupD, sumD, allD, intsD, bls, addD, subD, mulD, divD, modD, powD, cmpD, ixD, atI, ixN, dUn, negD, dB, truD, bNot, bAnd, bOr, bYes, dAndV, dOrV, dNotV, dChain, dFld, recvOk, dIsi, tyD, kitB, dCallN, callG, refs, renum, lives, PK.putAll, hNm, hSub, hNil, hCons, hTup, setIx, asgT, setAll, dMt, appD, extD, dLc, lcGo, wipeD, iSq, iRg1, iRg2, iZipD, iEnumD, iRevD, srcOf, rangeD, zipD, small, itemsD, List.range, List.range.loop, eqD_int, dSl, dRev, slD, cutD, okR, enc, tupI, go, back, q1, q2, q3, q4, q5, q6, q7, q8, dotI]
end K51

set_option maxHeartbeats 0
namespace K51
open PySem L2 PK
theorem go_len {s : S} {v : List Int} : (go s v).length = v.length := by cases s <;> simp [go]
theorem floor_back (X d : Int) (h : 1 ≤ d) : (d - 1 - X) / d = -(X / d) := by
  have h1 := Int.mul_ediv_add_emod X d
  have h2 := Int.emod_nonneg X (show d ≠ 0 by omega)
  have h3 := Int.emod_lt_of_pos X (show 0 < d by omega)
  have h4 : d - 1 - X = (d - 1 - X % d) + d * (-(X / d)) := by
    rw [Int.mul_neg]
    omega
  rw [h4, Int.add_mul_ediv_left _ _ (show d ≠ 0 by omega), Int.ediv_eq_zero_of_lt (by omega) (by omega)]
  omega
theorem fb1 (x w y m d : Int) (h : 1 ≤ d) : x + (w * y + m) / d + (-w * y + (d - 1 - m)) / d = x := by
  rw [show -w * y + (d - 1 - m) = d - 1 - (w * y + m) by rw [Int.neg_mul]; omega, floor_back _ _ h]
  omega
theorem back_back {n : Nat} {s : S} (h : Ok n s) : back (back s) = s := by
  cases s with
  | lift c ws m d =>
    simp only [back, S.lift.injEq, true_and, and_true]
    refine ⟨?_, by omega⟩
    rw [List.map_map]
    refine Eq.trans (List.map_congr_left fun w _ => ?_) (List.map_id _)
    simp
  | swap i j => rfl
  | turn i => rfl
theorem go_back {n : Nat} (hn : n = 2 ∨ n = 3) {v : List Int} (hv : v.length = n) {s : S} (h : Ok n s) : go (back s) (go s v) = v := by
  refine ok_cases (P := fun n v s => go (back s) (go s v) = v) hn hv h ?_ ?_ ?_ ?_ ?_ ?_ ?_ ?_ ?_ ?_ ?_ ?_ ?_ ?_
  · intro x y w m d hw h1 h2 h3 h4
    simp [go, back, dotI]
    have := fb1 x w y m d h3
    exact this
  · intro x y w m d hw h1 h2 h3 h4
    simp [go, back, dotI]
    have := fb1 y w x m d h3
    exact this
  · intros; simp [go, back]
  · intros; simp [go, back]
  · intros; simp [go, back]
  · intro x y z w u m d hw hu h1 h2 h3 h4
    simp [go, back, dotI, Int.neg_mul]
    rw [show -(w * y) + -(u * z) + (d - 1 - m) = d - 1 - (w * y + u * z + m) by omega, floor_back _ _ h3]
    omega
  · intro x y z w u m d hw hu h1 h2 h3 h4
    simp [go, back, dotI, Int.neg_mul]
    rw [show -(w * x) + -(u * z) + (d - 1 - m) = d - 1 - (w * x + u * z + m) by omega, floor_back _ _ h3]
    omega
  · intro x y z w u m d hw hu h1 h2 h3 h4
    simp [go, back, dotI, Int.neg_mul]
    rw [show -(w * x) + -(u * y) + (d - 1 - m) = d - 1 - (w * x + u * y + m) by omega, floor_back _ _ h3]
    omega
  all_goals (intros; simp [go, back])
/-- a step back may have a number more from -20 to 31 -/
theorem ok_back {n : Nat} {s : S} (h : Ok n s) (hm : ∀ c ws m d, s = .lift c ws m d → -20 ≤ m ∧ m ≤ 40) : Ok n (back s) := by
  cases s with
  | lift c ws m d =>
    obtain ⟨h1, h2, h3, h4, h5, h6, h7, h8⟩ := h
    have := hm _ _ _ _ rfl
    refine ⟨h1, by simpa using h2, ?_, ?_, by omega, by omega, h7, h8⟩
    · rw [List.getD_eq_getElem?_getD, List.getElem?_map]
      rw [List.getD_eq_getElem?_getD] at h3
      cases e : ws[c]? with
      | none => rfl
      | some w =>
        rw [e] at h3
        have : w = 0 := h3
        rw [this]
        rfl
    · intro w hw
      obtain ⟨u, hu, rfl⟩ := List.mem_map.mp hw
      have := h4 u hu
      omega
  | swap i j => exact h
  | turn i => exact h
theorem bd2 {k : Nat} {x y : Int} (hx : x.natAbs < 2 ^ k) (hy : y.natAbs < 2 ^ k) : Bd k [x, y] := by
  intro z hz
  simp at hz
  rcases hz with rfl | rfl <;> assumption
theorem bd3 {k : Nat} {x y z : Int} (hx : x.natAbs < 2 ^ k) (hy : y.natAbs < 2 ^ k) (hz : z.natAbs < 2 ^ k) : Bd k [x, y, z] := by
  intro u hu
  simp at hu
  rcases hu with rfl | rfl | rfl <;> assumption
theorem mulBd {w y : Int} {p : Nat} (hw : -6 ≤ w ∧ w ≤ 6) (hy : y.natAbs < p) : (w * y).natAbs ≤ 6 * p := by
  rw [Int.natAbs_mul]
  exact Nat.mul_le_mul (by omega) (Nat.le_of_lt hy)
theorem ediv_le {a d : Int} {p : Nat} (h : a.natAbs ≤ p) (hd : 1 ≤ d) : (a / d).natAbs ≤ p := by
  exact Nat.le_trans (Int.natAbs_ediv_le_natAbs _ _) h
theorem go_bd {n k : Nat} (hn : n = 2 ∨ n = 3) {v : List Int} (hv : v.length = n) {s : S} (h : Ok n s) (hb : Bd k v) : Bd (k + 8) (go s v) := by
  revert hb
  have hp : 2 ^ (k + 8) = 2 ^ k * 256 := by rw [Nat.pow_add]
  have hq : 0 < 2 ^ k := Nat.two_pow_pos k
  refine ok_cases (P := fun n v s => Bd k v → Bd (k + 8) (go s v)) hn hv h ?_ ?_ ?_ ?_ ?_ ?_ ?_ ?_ ?_ ?_ ?_ ?_ ?_ ?_
  · intro x y w m d hw h1 h2 h3 h4 hb
    have hx := hb x (by simp)
    have hy := hb y (by simp)
    have e1 := ediv_le (a := w * y + m) (p := 6 * 2 ^ k + 40) (by have := mulBd hw hy; omega) h3
    simp [go, dotI]
    exact bd2 (by omega) (by omega)
  · intro x y w m d hw h1 h2 h3 h4 hb
    have hx := hb x (by simp)
    have hy := hb y (by simp)
    have e1 := ediv_le (a := w * x + m) (p := 6 * 2 ^ k + 40) (by have := mulBd hw hx; omega) h3
    simp [go, dotI]
    exact bd2 (by omega) (by omega)
  · intro x y hb
    have hx := hb x (by simp)
    have hy := hb y (by simp)
    simp [go]
    exact bd2 (by omega) (by omega)
  · intro x y hb
    have hx := hb x (by simp)
    have hy := hb y (by simp)
    simp [go]
    exact bd2 (by omega) (by omega)
  · intro x y hb
    have hx := hb x (by simp)
    have hy := hb y (by simp)
    simp [go]
    exact bd2 (by omega) (by omega)
  · intro x y z w u m d hw hu h1 h2 h3 h4 hb
    have hx := hb x (by simp)
    have hy := hb y (by simp)
    have hz := hb z (by simp)
    have e1 := ediv_le (a := w * y + u * z + m) (p := 12 * 2 ^ k + 40) (by have := mulBd hw hy; have := mulBd hu hz; omega) h3
    simp [go, dotI]
    exact bd3 (by omega) (by omega) (by omega)
  · intro x y z w u m d hw hu h1 h2 h3 h4 hb
    have hx := hb x (by simp)
    have hy := hb y (by simp)
    have hz := hb z (by simp)
    have e1 := ediv_le (a := w * x + u * z + m) (p := 12 * 2 ^ k + 40) (by have := mulBd hw hx; have := mulBd hu hz; omega) h3
    simp [go, dotI]
    exact bd3 (by omega) (by omega) (by omega)
  · intro x y z w u m d hw hu h1 h2 h3 h4 hb
    have hx := hb x (by simp)
    have hy := hb y (by simp)
    have hz := hb z (by simp)
    have e1 := ediv_le (a := w * x + u * y + m) (p := 12 * 2 ^ k + 40) (by have := mulBd hw hx; have := mulBd hu hy; omega) h3
    simp [go, dotI]
    exact bd3 (by omega) (by omega) (by omega)
  all_goals
    intro x y z hb
    have hx := hb x (by simp)
    have hy := hb y (by simp)
    have hz := hb z (by simp)
    simp [go]
    exact bd3 (by omega) (by omega) (by omega)
/-! ### data of steps -/
theorem nice_tupI (v : List Int) : Nice 1 (tupI v) := nice_tup fun d hd => by
  obtain ⟨i, _, rfl⟩ := List.mem_map.mp hd
  exact nice_int
theorem Nice.up {j k : Nat} {d : D} (h : Nice j d) (hk : j ≤ k) : Nice k d := by
  obtain ⟨p, h1, h2, h3⟩ := h
  exact ⟨p, h1, h2, Nat.le_trans h3 hk⟩
theorem nice_enc (s : S) : Nice 2 (enc s) := by
  cases s with
  | lift c ws m d =>
    refine nice_tup (k := 1) fun x hx => ?_
    simp only [List.mem_cons, List.not_mem_nil, or_false] at hx
    rcases hx with rfl | rfl | rfl | rfl | rfl
    · exact nice_str okL
    · exact nice_int
    · exact nice_tupI _
    · exact nice_int
    · exact nice_int
  | swap i j =>
    refine nice_tup (k := 1) fun x hx => ?_
    simp only [List.mem_cons, List.not_mem_nil, or_false] at hx
    rcases hx with rfl | rfl | rfl
    · exact nice_str okS
    · exact nice_int
    · exact nice_int
  | turn i =>
    refine nice_tup (k := 1) fun x hx => ?_
    simp only [List.mem_cons, List.not_mem_nil, or_false] at hx
    rcases hx with rfl | rfl
    · exact nice_str okT
    · exact nice_int
end K51

set_option maxHeartbeats 0
namespace K51
open PySem L2 PK
/-! ### the program's defs at steps -/
theorem g_back {n : Nat} (hn : n = 2 ∨ n = 3) {s : S} (h : Ok n s) : G_law_back [.fz (enc s)] [] = some (.val (enc (back s)), []) := by
  cases s with
  | lift c ws m d =>
    obtain ⟨h1, h2, _⟩ := h
    rcases hn with rfl | rfl
    · obtain ⟨a, b, rfl⟩ := len2 h2
      unfold G_law_back f_law_back
      simp [fnD, sSeq, sSet, sDrop, sRet, sRetN, sIf, sAsg, sPar, sFor, forD, dC, dVar, dOp, der, ders, frz, frzs, dTup, dLst, aNil, aCons, aStar, PK.mk, dCB, PK.g1, PK.g2, lenD, absD, maxD, minD, PK.intD, listD, tupD, sumD, allD, intsD, bls, addD, subD, mulD, divD, modD, powD, cmpD, ixD, atI, ixN, dUn, negD, dB, truD, bNot, bAnd, bOr, bYes, dAndV, dOrV, dNotV, dChain, dFld, recvOk, dIsi, tyD, kitB, dCallN, callG, refs, renum, lives, PK.putAll, hNm, hSub, hNil, hCons, hTup, setIx, asgT, setAll, dMt, appD, extD, dLc, lcGo, wipeD, iSq, iRg1, iRg2, iZipD, iEnumD, iRevD, srcOf, rangeD, zipD, small, itemsD, List.range, List.range.loop, eqD_int, dSl, dRev, slD, cutD, okR, sNext, sNever, sBrk, sCnt, dMake, makeG, PK.initD, iSeq, iDrop, iSet, iFld, dMeth, dIfE, isND, PK.isNon, oSome, oNone, HT.sIx, enc, tupI, back, q1]
    · obtain ⟨a, b, e, rfl⟩ := len3 h2
      unfold G_law_back f_law_back
      simp [fnD, sSeq, sSet, sDrop, sRet, sRetN, sIf, sAsg, sPar, sFor, forD, dC, dVar, dOp, der, ders, frz, frzs, dTup, dLst, aNil, aCons, aStar, PK.mk, dCB, PK.g1, PK.g2, lenD, absD, maxD, minD, PK.intD, listD, tupD, sumD, allD, intsD, bls, addD, subD, mulD, divD, modD, powD, cmpD, ixD, atI, ixN, dUn, negD, dB, truD, bNot, bAnd, bOr, bYes, dAndV, dOrV, dNotV, dChain, dFld, recvOk, dIsi, tyD, kitB, dCallN, callG, refs, renum, lives, PK.putAll, hNm, hSub, hNil, hCons, hTup, setIx, asgT, setAll, dMt, appD, extD, dLc, lcGo, wipeD, iSq, iRg1, iRg2, iZipD, iEnumD, iRevD, srcOf, rangeD, zipD, small, itemsD, List.range, List.range.loop, eqD_int, dSl, dRev, slD, cutD, okR, sNext, sNever, sBrk, sCnt, dMake, makeG, PK.initD, iSeq, iDrop, iSet, iFld, dMeth, dIfE, isND, PK.isNon, oSome, oNone, HT.sIx, enc, tupI, back, q1]
  | swap i j => unfold G_law_back f_law_back; simp [fnD, sSeq, sSet, sDrop, sRet, sRetN, sIf, sAsg, sPar, sFor, forD, dC, dVar, dOp, der, ders, frz, frzs, dTup, dLst, aNil, aCons, aStar, PK.mk, dCB, PK.g1, PK.g2, lenD, absD, maxD, minD, PK.intD, listD, tupD, sumD, allD, intsD, bls, addD, subD, mulD, divD, modD, powD, cmpD, ixD, atI, ixN, dUn, negD, dB, truD, bNot, bAnd, bOr, bYes, dAndV, dOrV, dNotV, dChain, dFld, recvOk, dIsi, tyD, kitB, dCallN, callG, refs, renum, lives, PK.putAll, hNm, hSub, hNil, hCons, hTup, setIx, asgT, setAll, dMt, appD, extD, dLc, lcGo, wipeD, iSq, iRg1, iRg2, iZipD, iEnumD, iRevD, srcOf, rangeD, zipD, small, itemsD, List.range, List.range.loop, eqD_int, dSl, dRev, slD, cutD, okR, sNext, sNever, sBrk, sCnt, dMake, makeG, PK.initD, iSeq, iDrop, iSet, iFld, dMeth, dIfE, isND, PK.isNon, oSome, oNone, HT.sIx, enc, back, q2]
  | turn i => unfold G_law_back f_law_back; simp [fnD, sSeq, sSet, sDrop, sRet, sRetN, sIf, sAsg, sPar, sFor, forD, dC, dVar, dOp, der, ders, frz, frzs, dTup, dLst, aNil, aCons, aStar, PK.mk, dCB, PK.g1, PK.g2, lenD, absD, maxD, minD, PK.intD, listD, tupD, sumD, allD, intsD, bls, addD, subD, mulD, divD, modD, powD, cmpD, ixD, atI, ixN, dUn, negD, dB, truD, bNot, bAnd, bOr, bYes, dAndV, dOrV, dNotV, dChain, dFld, recvOk, dIsi, tyD, kitB, dCallN, callG, refs, renum, lives, PK.putAll, hNm, hSub, hNil, hCons, hTup, setIx, asgT, setAll, dMt, appD, extD, dLc, lcGo, wipeD, iSq, iRg1, iRg2, iZipD, iEnumD, iRevD, srcOf, rangeD, zipD, small, itemsD, List.range, List.range.loop, eqD_int, dSl, dRev, slD, cutD, okR, sNext, sNever, sBrk, sCnt, dMake, makeG, PK.initD, iSeq, iDrop, iSet, iFld, dMeth, dIfE, isND, PK.isNon, oSome, oNone, HT.sIx, enc, back, q3]
theorem xg_ints : ∀ {xs : List Int}, xs.length ≤ 5 → G_are_integers [.fz (.lst (xs.map D.int))] [] = some (.val (.bl true), []) ∧ G_are_integers [.fz (.tup (xs.map D.int))] [] = some (.val (.bl true), []) := by
  intro xs hx
  match xs, hx with
  | [], _ => constructor <;> (unfold G_are_integers f_are_integers; simp [fnD, sSeq, sSet, sDrop, sRet, sRetN, sIf, sAsg, sPar, sFor, forD, dC, dVar, dOp, der, ders, frz, frzs, dTup, dLst, aNil, aCons, aStar, PK.mk, dCB, PK.g1, PK.g2, lenD, absD, maxD, minD, PK.intD, listD, tupD, sumD, allD, intsD, bls, addD, subD, mulD, divD, modD, powD, cmpD, ixD, atI, ixN, dUn, negD, dB, truD, bNot, bAnd, bOr, bYes, dAndV, dOrV, dNotV, dChain, dFld, recvOk, dIsi, tyD, kitB, dCallN, callG, refs, renum, lives, PK.putAll, hNm, hSub, hNil, hCons, hTup, setIx, asgT, setAll, dMt, appD, extD, dLc, lcGo, wipeD, iSq, iRg1, iRg2, iZipD, iEnumD, iRevD, srcOf, rangeD, zipD, small, itemsD, List.range, List.range.loop, eqD_int, dSl, dRev, slD, cutD, okR, sNext, sNever, sBrk, sCnt, dMake, makeG, PK.initD, iSeq, iDrop, iSet, iFld, dMeth, dIfE, isND, PK.isNon, oSome, oNone, HT.sIx])
  | [a], _ => constructor <;> (unfold G_are_integers f_are_integers; simp [fnD, sSeq, sSet, sDrop, sRet, sRetN, sIf, sAsg, sPar, sFor, forD, dC, dVar, dOp, der, ders, frz, frzs, dTup, dLst, aNil, aCons, aStar, PK.mk, dCB, PK.g1, PK.g2, lenD, absD, maxD, minD, PK.intD, listD, tupD, sumD, allD, intsD, bls, addD, subD, mulD, divD, modD, powD, cmpD, ixD, atI, ixN, dUn, negD, dB, truD, bNot, bAnd, bOr, bYes, dAndV, dOrV, dNotV, dChain, dFld, recvOk, dIsi, tyD, kitB, dCallN, callG, refs, renum, lives, PK.putAll, hNm, hSub, hNil, hCons, hTup, setIx, asgT, setAll, dMt, appD, extD, dLc, lcGo, wipeD, iSq, iRg1, iRg2, iZipD, iEnumD, iRevD, srcOf, rangeD, zipD, small, itemsD, List.range, List.range.loop, eqD_int, dSl, dRev, slD, cutD, okR, sNext, sNever, sBrk, sCnt, dMake, makeG, PK.initD, iSeq, iDrop, iSet, iFld, dMeth, dIfE, isND, PK.isNon, oSome, oNone, HT.sIx])
  | [a, b], _ => constructor <;> (unfold G_are_integers f_are_integers; simp [fnD, sSeq, sSet, sDrop, sRet, sRetN, sIf, sAsg, sPar, sFor, forD, dC, dVar, dOp, der, ders, frz, frzs, dTup, dLst, aNil, aCons, aStar, PK.mk, dCB, PK.g1, PK.g2, lenD, absD, maxD, minD, PK.intD, listD, tupD, sumD, allD, intsD, bls, addD, subD, mulD, divD, modD, powD, cmpD, ixD, atI, ixN, dUn, negD, dB, truD, bNot, bAnd, bOr, bYes, dAndV, dOrV, dNotV, dChain, dFld, recvOk, dIsi, tyD, kitB, dCallN, callG, refs, renum, lives, PK.putAll, hNm, hSub, hNil, hCons, hTup, setIx, asgT, setAll, dMt, appD, extD, dLc, lcGo, wipeD, iSq, iRg1, iRg2, iZipD, iEnumD, iRevD, srcOf, rangeD, zipD, small, itemsD, List.range, List.range.loop, eqD_int, dSl, dRev, slD, cutD, okR, sNext, sNever, sBrk, sCnt, dMake, makeG, PK.initD, iSeq, iDrop, iSet, iFld, dMeth, dIfE, isND, PK.isNon, oSome, oNone, HT.sIx])
  | [a, b, c], _ => constructor <;> (unfold G_are_integers f_are_integers; simp [fnD, sSeq, sSet, sDrop, sRet, sRetN, sIf, sAsg, sPar, sFor, forD, dC, dVar, dOp, der, ders, frz, frzs, dTup, dLst, aNil, aCons, aStar, PK.mk, dCB, PK.g1, PK.g2, lenD, absD, maxD, minD, PK.intD, listD, tupD, sumD, allD, intsD, bls, addD, subD, mulD, divD, modD, powD, cmpD, ixD, atI, ixN, dUn, negD, dB, truD, bNot, bAnd, bOr, bYes, dAndV, dOrV, dNotV, dChain, dFld, recvOk, dIsi, tyD, kitB, dCallN, callG, refs, renum, lives, PK.putAll, hNm, hSub, hNil, hCons, hTup, setIx, asgT, setAll, dMt, appD, extD, dLc, lcGo, wipeD, iSq, iRg1, iRg2, iZipD, iEnumD, iRevD, srcOf, rangeD, zipD, small, itemsD, List.range, List.range.loop, eqD_int, dSl, dRev, slD, cutD, okR, sNext, sNever, sBrk, sCnt, dMake, makeG, PK.initD, iSeq, iDrop, iSet, iFld, dMeth, dIfE, isND, PK.isNon, oSome, oNone, HT.sIx])
  | [a, b, c, d], _ => constructor <;> (unfold G_are_integers f_are_integers; simp [fnD, sSeq, sSet, sDrop, sRet, sRetN, sIf, sAsg, sPar, sFor, forD, dC, dVar, dOp, der, ders, frz, frzs, dTup, dLst, aNil, aCons, aStar, PK.mk, dCB, PK.g1, PK.g2, lenD, absD, maxD, minD, PK.intD, listD, tupD, sumD, allD, intsD, bls, addD, subD, mulD, divD, modD, powD, cmpD, ixD, atI, ixN, dUn, negD, dB, truD, bNot, bAnd, bOr, bYes, dAndV, dOrV, dNotV, dChain, dFld, recvOk, dIsi, tyD, kitB, dCallN, callG, refs, renum, lives, PK.putAll, hNm, hSub, hNil, hCons, hTup, setIx, asgT, setAll, dMt, appD, extD, dLc, lcGo, wipeD, iSq, iRg1, iRg2, iZipD, iEnumD, iRevD, srcOf, rangeD, zipD, small, itemsD, List.range, List.range.loop, eqD_int, dSl, dRev, slD, cutD, okR, sNext, sNever, sBrk, sCnt, dMake, makeG, PK.initD, iSeq, iDrop, iSet, iFld, dMeth, dIfE, isND, PK.isNon, oSome, oNone, HT.sIx])
  | [a, b, c, d, e], _ => constructor <;> (unfold G_are_integers f_are_integers; simp [fnD, sSeq, sSet, sDrop, sRet, sRetN, sIf, sAsg, sPar, sFor, forD, dC, dVar, dOp, der, ders, frz, frzs, dTup, dLst, aNil, aCons, aStar, PK.mk, dCB, PK.g1, PK.g2, lenD, absD, maxD, minD, PK.intD, listD, tupD, sumD, allD, intsD, bls, addD, subD, mulD, divD, modD, powD, cmpD, ixD, atI, ixN, dUn, negD, dB, truD, bNot, bAnd, bOr, bYes, dAndV, dOrV, dNotV, dChain, dFld, recvOk, dIsi, tyD, kitB, dCallN, callG, refs, renum, lives, PK.putAll, hNm, hSub, hNil, hCons, hTup, setIx, asgT, setAll, dMt, appD, extD, dLc, lcGo, wipeD, iSq, iRg1, iRg2, iZipD, iEnumD, iRevD, srcOf, rangeD, zipD, small, itemsD, List.range, List.range.loop, eqD_int, dSl, dRev, slD, cutD, okR, sNext, sNever, sBrk, sCnt, dMake, makeG, PK.initD, iSeq, iDrop, iSet, iFld, dMeth, dIfE, isND, PK.isNon, oSome, oNone, HT.sIx])
end K51

set_option maxHeartbeats 0
namespace K51
open PySem L2 PK
theorem gi_lst {ds : List D} {xs : List Int} (e : ds = xs.map D.int) (h : xs.length ≤ 5) : G_are_integers [.fz (.lst ds)] [] = some (.val (.bl true), []) := by rw [e]; exact (xg_ints h).1
theorem gi_tup {ds : List D} {xs : List Int} (e : ds = xs.map D.int) (h : xs.length ≤ 5) : G_are_integers [.fz (.tup ds)] [] = some (.val (.bl true), []) := by rw [e]; exact (xg_ints h).2
theorem gc_lst1 {n c : Int} (h0 : 0 ≤ c) (h : c < n) : G_are_channels [.fz (.int n), .fz (.lst [.int c])] [] = some (.val (.bl true), []) := by
  have e := gi_lst (ds := [.int c]) (xs := [c]) rfl (by simp)
  unfold G_are_channels f_are_channels
  simp [fnD, sSeq, sSet, sDrop, sRet, sRetN, sIf, sAsg, sPar, sFor, forD, dC, dVar, dOp, der, ders, frz, frzs, dTup, dLst, aNil, aCons, aStar, PK.mk, dCB, PK.g1, PK.g2, lenD, absD, maxD, minD, PK.intD, listD, tupD, sumD, allD, intsD, bls, addD, subD, mulD, divD, modD, powD, cmpD, ixD, atI, ixN, dUn, negD, dB, truD, bNot, bAnd, bOr, bYes, dAndV, dOrV, dNotV, dChain, dFld, recvOk, dIsi, tyD, kitB, dCallN, callG, refs, renum, lives, PK.putAll, hNm, hSub, hNil, hCons, hTup, setIx, asgT, setAll, dMt, appD, extD, dLc, lcGo, wipeD, iSq, iRg1, iRg2, iZipD, iEnumD, iRevD, srcOf, rangeD, zipD, small, itemsD, List.range, List.range.loop, eqD_int, dSl, dRev, slD, cutD, okR, sNext, sNever, sBrk, sCnt, dMake, makeG, PK.initD, iSeq, iDrop, iSet, iFld, dMeth, dIfE, isND, PK.isNon, oSome, oNone, HT.sIx, e, h0, h]
theorem gc_tup1 {n c : Int} (h0 : 0 ≤ c) (h : c < n) : G_are_channels [.fz (.int n), .fz (.tup [.int c])] [] = some (.val (.bl true), []) := by
  have e := gi_tup (ds := [.int c]) (xs := [c]) rfl (by simp)
  unfold G_are_channels f_are_channels
  simp [fnD, sSeq, sSet, sDrop, sRet, sRetN, sIf, sAsg, sPar, sFor, forD, dC, dVar, dOp, der, ders, frz, frzs, dTup, dLst, aNil, aCons, aStar, PK.mk, dCB, PK.g1, PK.g2, lenD, absD, maxD, minD, PK.intD, listD, tupD, sumD, allD, intsD, bls, addD, subD, mulD, divD, modD, powD, cmpD, ixD, atI, ixN, dUn, negD, dB, truD, bNot, bAnd, bOr, bYes, dAndV, dOrV, dNotV, dChain, dFld, recvOk, dIsi, tyD, kitB, dCallN, callG, refs, renum, lives, PK.putAll, hNm, hSub, hNil, hCons, hTup, setIx, asgT, setAll, dMt, appD, extD, dLc, lcGo, wipeD, iSq, iRg1, iRg2, iZipD, iEnumD, iRevD, srcOf, rangeD, zipD, small, itemsD, List.range, List.range.loop, eqD_int, dSl, dRev, slD, cutD, okR, sNext, sNever, sBrk, sCnt, dMake, makeG, PK.initD, iSeq, iDrop, iSet, iFld, dMeth, dIfE, isND, PK.isNon, oSome, oNone, HT.sIx, e, h0, h]
theorem gc_tup2 {n c d : Int} (h0 : 0 ≤ c) (h : c < n) (h2 : 0 ≤ d) (h3 : d < n) : G_are_channels [.fz (.int n), .fz (.tup [.int c, .int d])] [] = some (.val (.bl true), []) := by
  have e := gi_tup (ds := [.int c, .int d]) (xs := [c, d]) rfl (by simp)
  unfold G_are_channels f_are_channels
  simp [fnD, sSeq, sSet, sDrop, sRet, sRetN, sIf, sAsg, sPar, sFor, forD, dC, dVar, dOp, der, ders, frz, frzs, dTup, dLst, aNil, aCons, aStar, PK.mk, dCB, PK.g1, PK.g2, lenD, absD, maxD, minD, PK.intD, listD, tupD, sumD, allD, intsD, bls, addD, subD, mulD, divD, modD, powD, cmpD, ixD, atI, ixN, dUn, negD, dB, truD, bNot, bAnd, bOr, bYes, dAndV, dOrV, dNotV, dChain, dFld, recvOk, dIsi, tyD, kitB, dCallN, callG, refs, renum, lives, PK.putAll, hNm, hSub, hNil, hCons, hTup, setIx, asgT, setAll, dMt, appD, extD, dLc, lcGo, wipeD, iSq, iRg1, iRg2, iZipD, iEnumD, iRevD, srcOf, rangeD, zipD, small, itemsD, List.range, List.range.loop, eqD_int, dSl, dRev, slD, cutD, okR, sNext, sNever, sBrk, sCnt, dMake, makeG, PK.initD, iSeq, iDrop, iSet, iFld, dMeth, dIfE, isND, PK.isNon, oSome, oNone, HT.sIx, e, h0, h, h2, h3]
theorem g_is_lift {n : Nat} (hn : n = 2 ∨ n = 3) {c : Nat} {ws : List Int} {m d : Int} (h : Ok n (.lift c ws m d)) : G_is_lift [.fz (.int n), .fz (enc (.lift c ws m d))] [] = some (.val (.bl true), []) := by
  obtain ⟨h1, h2, h3, h4, h5, h6, h7, h8⟩ := h
  rcases hn with rfl | rfl
  · obtain ⟨a, b, rfl⟩ := len2 h2
    have e := gi_lst (ds := [.int a, .int b, .int m, .int d]) (xs := [a, b, m, d]) rfl (by simp)
    have e2 := gc_lst1 (n := 2) (c := c) (by omega) (by omega)
    rcases nat2 h1 with rfl | rfl <;> simp at h3 <;> subst h3 <;> unfold G_is_lift f_is_lift <;> simp at e2 <;> simp [fnD, sSeq, sSet, sDrop, sRet, sRetN, sIf, sAsg, sPar, sFor, forD, dC, dVar, dOp, der, ders, frz, frzs, dTup, dLst, aNil, aCons, aStar, PK.mk, dCB, PK.g1, PK.g2, lenD, absD, maxD, minD, PK.intD, listD, tupD, sumD, allD, intsD, bls, addD, subD, mulD, divD, modD, powD, cmpD, ixD, atI, ixN, dUn, negD, dB, truD, bNot, bAnd, bOr, bYes, dAndV, dOrV, dNotV, dChain, dFld, recvOk, dIsi, tyD, kitB, dCallN, callG, refs, renum, lives, PK.putAll, hNm, hSub, hNil, hCons, hTup, setIx, asgT, setAll, dMt, appD, extD, dLc, lcGo, wipeD, iSq, iRg1, iRg2, iZipD, iEnumD, iRevD, srcOf, rangeD, zipD, small, itemsD, List.range, List.range.loop, eqD_int, dSl, dRev, slD, cutD, okR, sNext, sNever, sBrk, sCnt, dMake, makeG, PK.initD, iSeq, iDrop, iSet, iFld, dMeth, dIfE, isND, PK.isNon, oSome, oNone, HT.sIx, enc, tupI, e, e2, h7]
  · obtain ⟨a, b, f, rfl⟩ := len3 h2
    have e := gi_lst (ds := [.int a, .int b, .int f, .int m, .int d]) (xs := [a, b, f, m, d]) rfl (by simp)
    have e2 := gc_lst1 (n := 3) (c := c) (by omega) (by omega)
    rcases nat3 h1 with rfl | rfl | rfl <;> simp at h3 <;> subst h3 <;> unfold G_is_lift f_is_lift <;> simp at e2 <;> simp [fnD, sSeq, sSet, sDrop, sRet, sRetN, sIf, sAsg, sPar, sFor, forD, dC, dVar, dOp, der, ders, frz, frzs, dTup, dLst, aNil, aCons, aStar, PK.mk, dCB, PK.g1, PK.g2, lenD, absD, maxD, minD, PK.intD, listD, tupD, sumD, allD, intsD, bls, addD, subD, mulD, divD, modD, powD, cmpD, ixD, atI, ixN, dUn, negD, dB, truD, bNot, bAnd, bOr, bYes, dAndV, dOrV, dNotV, dChain, dFld, recvOk, dIsi, tyD, kitB, dCallN, callG, refs, renum, lives, PK.putAll, hNm, hSub, hNil, hCons, hTup, setIx, asgT, setAll, dMt, appD, extD, dLc, lcGo, wipeD, iSq, iRg1, iRg2, iZipD, iEnumD, iRevD, srcOf, rangeD, zipD, small, itemsD, List.range, List.range.loop, eqD_int, dSl, dRev, slD, cutD, okR, sNext, sNever, sBrk, sCnt, dMake, makeG, PK.initD, iSeq, iDrop, iSet, iFld, dMeth, dIfE, isND, PK.isNon, oSome, oNone, HT.sIx, enc, tupI, e, e2, h7]
theorem g_is_step {n : Nat} (hn : n = 2 ∨ n = 3) {s : S} (h : Ok n s) : G_is_step [.fz (.int n), .fz (enc s)] [] = some (.val (.bl true), []) := by
  cases s with
  | lift c ws m d =>
    have e := g_is_lift hn h
    unfold enc at e
    unfold G_is_step f_is_step
    simp [fnD, sSeq, sSet, sDrop, sRet, sRetN, sIf, sAsg, sPar, sFor, forD, dC, dVar, dOp, der, ders, frz, frzs, dTup, dLst, aNil, aCons, aStar, PK.mk, dCB, PK.g1, PK.g2, lenD, absD, maxD, minD, PK.intD, listD, tupD, sumD, allD, intsD, bls, addD, subD, mulD, divD, modD, powD, cmpD, ixD, atI, ixN, dUn, negD, dB, truD, bNot, bAnd, bOr, bYes, dAndV, dOrV, dNotV, dChain, dFld, recvOk, dIsi, tyD, kitB, dCallN, callG, refs, renum, lives, PK.putAll, hNm, hSub, hNil, hCons, hTup, setIx, asgT, setAll, dMt, appD, extD, dLc, lcGo, wipeD, iSq, iRg1, iRg2, iZipD, iEnumD, iRevD, srcOf, rangeD, zipD, small, itemsD, List.range, List.range.loop, eqD_int, dSl, dRev, slD, cutD, okR, sNext, sNever, sBrk, sCnt, dMake, makeG, PK.initD, iSeq, iDrop, iSet, iFld, dMeth, dIfE, isND, PK.isNon, oSome, oNone, HT.sIx, enc, q1, e]
  | swap i j =>
    obtain ⟨h1, h2⟩ := h
    have e := gc_tup2 (n := n) (c := i) (d := j) (by omega) (by omega) (by omega) (by omega)
    unfold G_is_step f_is_step
    simp [fnD, sSeq, sSet, sDrop, sRet, sRetN, sIf, sAsg, sPar, sFor, forD, dC, dVar, dOp, der, ders, frz, frzs, dTup, dLst, aNil, aCons, aStar, PK.mk, dCB, PK.g1, PK.g2, lenD, absD, maxD, minD, PK.intD, listD, tupD, sumD, allD, intsD, bls, addD, subD, mulD, divD, modD, powD, cmpD, ixD, atI, ixN, dUn, negD, dB, truD, bNot, bAnd, bOr, bYes, dAndV, dOrV, dNotV, dChain, dFld, recvOk, dIsi, tyD, kitB, dCallN, callG, refs, renum, lives, PK.putAll, hNm, hSub, hNil, hCons, hTup, setIx, asgT, setAll, dMt, appD, extD, dLc, lcGo, wipeD, iSq, iRg1, iRg2, iZipD, iEnumD, iRevD, srcOf, rangeD, zipD, small, itemsD, List.range, List.range.loop, eqD_int, dSl, dRev, slD, cutD, okR, sNext, sNever, sBrk, sCnt, dMake, makeG, PK.initD, iSeq, iDrop, iSet, iFld, dMeth, dIfE, isND, PK.isNon, oSome, oNone, HT.sIx, enc, q4, e, h1]
  | turn i =>
    have h1 : i < n := h
    have e := gc_tup1 (n := n) (c := i) (by omega) (by omega)
    unfold G_is_step f_is_step
    simp [fnD, sSeq, sSet, sDrop, sRet, sRetN, sIf, sAsg, sPar, sFor, forD, dC, dVar, dOp, der, ders, frz, frzs, dTup, dLst, aNil, aCons, aStar, PK.mk, dCB, PK.g1, PK.g2, lenD, absD, maxD, minD, PK.intD, listD, tupD, sumD, allD, intsD, bls, addD, subD, mulD, divD, modD, powD, cmpD, ixD, atI, ixN, dUn, negD, dB, truD, bNot, bAnd, bOr, bYes, dAndV, dOrV, dNotV, dChain, dFld, recvOk, dIsi, tyD, kitB, dCallN, callG, refs, renum, lives, PK.putAll, hNm, hSub, hNil, hCons, hTup, setIx, asgT, setAll, dMt, appD, extD, dLc, lcGo, wipeD, iSq, iRg1, iRg2, iZipD, iEnumD, iRevD, srcOf, rangeD, zipD, small, itemsD, List.range, List.range.loop, eqD_int, dSl, dRev, slD, cutD, okR, sNext, sNever, sBrk, sCnt, dMake, makeG, PK.initD, iSeq, iDrop, iSet, iFld, dMeth, dIfE, isND, PK.isNon, oSome, oNone, HT.sIx, enc, q6, e]
end K51

set_option maxHeartbeats 0
namespace K51
open PySem L2 PK
/-! ### chains -/
def encs (ss : List S) : List D := ss.map enc
abbrev fsC : List Str := ["_channels", "_steps"]
def chD (n : Nat) (ss : List S) : D := .ins "Chain" fsC [.int n, .lst (encs ss)]
def runs : List S → List Int → List Int
  | [], v => v
  | s :: ss, v => runs ss (go s v)
def rows : List S → List Int → List (List Int)
  | [], v => [v]
  | s :: ss, v => v :: rows ss (go s v)
def backs (ss : List S) : List S := ss.reverse.map back
theorem kn : ¬ (("_steps" : Str) = ("_channels" : Str)) := by decide +kernel
theorem fl_steps {d e : D} : (fsC.zip [d, e]).lookup ("_steps" : Str) = some e := by
  have h : (("_steps" : Str) == ("_channels" : Str)) = false := by decide +kernel
  show List.lookup ("_steps" : Str) [(("_channels" : Str), d), (("_steps" : Str), e)] = some e
  simp only [List.lookup, h, beq_self_eq_true]
theorem fl_ch {d e : D} : (fsC.zip [d, e]).lookup ("_channels" : Str) = some d := by
  show List.lookup ("_channels" : Str) [(("_channels" : Str), d), (("_steps" : Str), e)] = some d
  simp only [List.lookup, beq_self_eq_true]
theorem fl_steps' {d e : D} : List.lookup ("_steps" : Str) [(("_channels" : Str), d), (("_steps" : Str), e)] = some e := fl_steps
theorem fl_ch' {d e : D} : List.lookup ("_channels" : Str) [(("_channels" : Str), d), (("_steps" : Str), e)] = some d := fl_ch
theorem fd_steps {n : Nat} {ss : List S} {f : EF} {δ δ' : Dl} (h : f δ = some (.fz (chD n ss), δ')) : dFld "Chain" "_steps" f δ = some (.fz (.lst (encs ss)), δ') := by
  simp only [dFld, h, Option.bind_some, chD, if_true, fl_steps, Option.map_some]
theorem fd_ch {n : Nat} {ss : List S} {f : EF} {δ δ' : Dl} (h : f δ = some (.fz (chD n ss), δ')) : dFld "Chain" "_channels" f δ = some (.fz (.int n), δ') := by
  simp only [dFld, h, Option.bind_some, chD, if_true, fl_ch, Option.map_some]
theorem rv_at {n : Nat} {ss : List S} : recvOk "Chain" "at" (.fz (chD n ss)) = true := by
  show (decide (("Chain" : Str) = ("Chain" : Str)) && !fsC.contains ("at" : Str)) = true
  decide +kernel
theorem rv_inv {n : Nat} {ss : List S} : recvOk "Chain" "inverse" (.fz (chD n ss)) = true := by
  show (decide (("Chain" : Str) = ("Chain" : Str)) && !fsC.contains ("inverse" : Str)) = true
  decide +kernel
theorem rv_no {n : Nat} {ss : List S} : recvOk "Chain" "" (.fz (chD n ss)) = true := by
  show (decide (("Chain" : Str) = ("Chain" : Str)) && !fsC.contains ("" : Str)) = true
  decide +kernel
theorem inD23 {n : Nat} (hn : n = 2 ∨ n = 3) {δ : Dl} : PK.inD true δ (.int n) (.tup [.int 2, .int 3]) = some (.fz (.bl false), δ) := by rcases hn with rfl | rfl <;> rfl
theorem g_check {n : Nat} (hn : n = 2 ∨ n = 3) {ss : List S} (h : ∀ s ∈ ss, Ok n s) : G_check_chain [.fz (.int n), .fz (.lst (encs ss))] [] = some (.val .non, []) := by
  have loop : ∀ (L : Option Vl) (ss : List S) (i : Nat) (a b : Option Vl), (∀ s ∈ ss, Ok n s) → ∃ a' b', forD [] (.tp [2, 3]) (sIf (bNot (dB (dCallN false 2 G_is_step (aCons (dVar 0) (aCons (dVar 3) aNil))))) sNever sNext) (enumD i (encs ss)) ⟨[some (.fz (.int n)), L, a, b], []⟩ = some (.nx, ⟨[some (.fz (.int n)), L, a', b'], []⟩) := by
    intro L ss
    induction ss with
    | nil => intro i a b _; exact ⟨a, b, by simp [encs, enumD, forD]⟩
    | cons s ss ih =>
      intro i a b hs
      obtain ⟨a', b', e⟩ := ih (i + 1) (some (.fz (.int i))) (some (.fz (enc s))) fun x hx => hs x (List.mem_cons_of_mem _ hx)
      refine ⟨a', b', ?_⟩
      have e1 := g_is_step hn (hs s List.mem_cons_self)
      simp only [encs, List.map_cons, enumD]
      rw [forD]
      rw [← e]
      simp [fnD, sSeq, sSet, sDrop, sRet, sRetN, sIf, sAsg, sPar, sFor, forD, dC, dVar, dOp, der, ders, frz, frzs, dTup, dLst, aNil, aCons, aStar, PK.mk, dCB, PK.g1, PK.g2, lenD, absD, maxD, minD, PK.intD, listD, tupD, sumD, allD, intsD, bls, addD, subD, mulD, divD, modD, powD, cmpD, ixD, atI, ixN, dUn, negD, dB, truD, bNot, bAnd, bOr, bYes, dAndV, dOrV, dNotV, dChain, dFld, recvOk, dIsi, tyD, kitB, dCallN, callG, refs, renum, lives, PK.putAll, hNm, hSub, hNil, hCons, hTup, setIx, asgT, setAll, dMt, appD, extD, dLc, lcGo, wipeD, iSq, iRg1, iRg2, iZipD, iEnumD, iRevD, srcOf, rangeD, zipD, small, itemsD, List.range, List.range.loop, eqD_int, dSl, dRev, slD, cutD, okR, sNext, sNever, sBrk, sCnt, dMake, makeG, PK.initD, iSeq, iDrop, iSet, iFld, dMeth, dIfE, isND, PK.isNon, oSome, oNone, HT.sIx, e1]
      rfl
  obtain ⟨a', b', e⟩ := loop (some (.fz (.lst (encs ss)))) ss 0 none none h
  unfold G_check_chain f_check_chain
  simp [fnD, sSeq, sSet, sDrop, sRet, sRetN, sIf, sAsg, sPar, sFor, forD, dC, dVar, dOp, der, ders, frz, frzs, dTup, dLst, aNil, aCons, aStar, PK.mk, dCB, PK.g1, PK.g2, lenD, absD, maxD, minD, PK.intD, listD, tupD, sumD, allD, intsD, bls, addD, subD, mulD, divD, modD, powD, cmpD, ixD, atI, ixN, dUn, negD, dB, truD, bNot, bAnd, bOr, bYes, dAndV, dOrV, dNotV, dChain, dFld, recvOk, dIsi, tyD, kitB, dCallN, callG, refs, renum, lives, PK.putAll, hNm, hSub, hNil, hCons, hTup, setIx, asgT, setAll, dMt, appD, extD, dLc, lcGo, wipeD, iSq, iRg1, iRg2, iZipD, iEnumD, iRevD, srcOf, rangeD, zipD, small, itemsD, List.range, List.range.loop, eqD_int, dSl, dRev, slD, cutD, okR, sNext, sNever, sBrk, sCnt, dMake, makeG, PK.initD, iSeq, iDrop, iSet, iFld, dMeth, dIfE, isND, PK.isNon, oSome, oNone, HT.sIx, inD23 hn, e]
theorem g_init {n : Nat} (hn : n = 2 ∨ n = 3) {ss : List S} (h : ∀ s ∈ ss, Ok n s) : G_Chain_init [.fz (.int n), .fz (.lst (encs ss))] [] = some (fsC, [.int n, .lst (encs ss)], []) := by
  have e := g_check hn h
  unfold G_Chain_init f_Chain_init
  simp [fnD, sSeq, sSet, sDrop, sRet, sRetN, sIf, sAsg, sPar, sFor, forD, dC, dVar, dOp, der, ders, frz, frzs, dTup, dLst, aNil, aCons, aStar, PK.mk, dCB, PK.g1, PK.g2, lenD, absD, maxD, minD, PK.intD, listD, tupD, sumD, allD, intsD, bls, addD, subD, mulD, divD, modD, powD, cmpD, ixD, atI, ixN, dUn, negD, dB, truD, bNot, bAnd, bOr, bYes, dAndV, dOrV, dNotV, dChain, dFld, recvOk, dIsi, tyD, kitB, dCallN, callG, refs, renum, lives, PK.putAll, hNm, hSub, hNil, hCons, hTup, setIx, asgT, setAll, dMt, appD, extD, dLc, lcGo, wipeD, iSq, iRg1, iRg2, iZipD, iEnumD, iRevD, srcOf, rangeD, zipD, small, itemsD, List.range, List.range.loop, eqD_int, dSl, dRev, slD, cutD, okR, sNext, sNever, sBrk, sCnt, dMake, makeG, PK.initD, iSeq, iDrop, iSet, iFld, dMeth, dIfE, isND, PK.isNon, oSome, oNone, HT.sIx, e, kn]
theorem mk_chain {n : Nat} (hn : n = 2 ∨ n = 3) {ss : List S} (h : ∀ s ∈ ss, Ok n s) {fa : AF} {δ δ' : Dl} (e : fa δ = some ([.fz (.int n), .fz (.lst (encs ss))], δ')) : dMake "Chain" 3 G_Chain_init fa δ = some (.fz (chD n ss), δ') := by
  simp [dMake, e, makeG, refs, renum, lives, g_init hn h, PK.putAll, chD]
/-! ### its methods -/
def Oks (n : Nat) (ss : List S) : Prop := ∀ s ∈ ss, Ok n s
end K51

set_option maxHeartbeats 0
namespace K51
open PySem L2 PK
theorem atI_last {α : Type} (xs : List α) (x : α) : atI (xs ++ [x]) (-1) = some x := by
  unfold atI ixN
  rw [if_neg (by decide), List.length_append, List.length_singleton, if_pos (by omega), Option.bind_some, show (-1 + ((xs.length + 1 : Nat) : Int)).toNat = xs.length by omega]
  simp
/-! ### back and forth -/
theorem backs_len (ss : List S) : (backs ss).length = ss.length := by simp [backs]
theorem runs_len {ss : List S} : ∀ {v : List Int}, (runs ss v).length = v.length := by
  induction ss with
  | nil => intro v; rfl
  | cons s ss ih => intro v; rw [runs, ih, go_len]
theorem runs_bd {n : Nat} (hn : n = 2 ∨ n = 3) {ss : List S} : ∀ {k : Nat} {v : List Int}, Oks n ss → v.length = n → Bd k v → Bd (k + 8 * ss.length) (runs ss v) := by
  induction ss with
  | nil => intro k v _ _ h; exact h
  | cons s ss ih =>
    intro k v h hv hb
    have := ih (k := k + 8) (fun x hx => h x (List.mem_cons_of_mem _ hx)) (by rw [go_len, hv]) (go_bd hn hv (h s List.mem_cons_self) hb)
    rw [List.length_cons, show k + 8 * (ss.length + 1) = k + 8 + 8 * ss.length by omega]
    exact this
theorem runs_app (ss ts : List S) : ∀ (v : List Int), runs (ss ++ ts) v = runs ts (runs ss v) := by
  induction ss with
  | nil => intro v; rfl
  | cons s ss ih => intro v; exact ih _
theorem rows_app (ss : List S) (s : S) : ∀ (v : List Int), rows (ss ++ [s]) v = rows ss v ++ [go s (runs ss v)] := by
  induction ss with
  | nil => intro v; rfl
  | cons t ss ih => intro v; simp only [List.cons_append, rows, ih, runs]
theorem runs_back {n : Nat} (hn : n = 2 ∨ n = 3) {ss : List S} : ∀ {v : List Int}, Oks n ss → v.length = n → runs (backs ss) (runs ss v) = v := by
  induction ss with
  | nil => intro v _ _; rfl
  | cons s ss ih =>
    intro v h hv
    have e : backs (s :: ss) = backs ss ++ [back s] := by simp [backs]
    have e2 := ih (v := go s v) (fun x hx => h x (List.mem_cons_of_mem _ hx)) (by rw [go_len, hv])
    rw [e, runs_app]
    simp only [runs, e2]
    exact go_back hn hv (h s List.mem_cons_self)
theorem backs_backs {n : Nat} {ss : List S} (h : Oks n ss) : backs (backs ss) = ss := by
  unfold backs
  rw [← List.map_reverse, List.reverse_reverse, List.map_map]
  refine Eq.trans (List.map_congr_left fun s hs => ?_) (List.map_id _)
  exact back_back (h s hs)
end K51

set_option maxHeartbeats 0
namespace K51
open PySem L2 PK
/-! ### the draws -/
def Pool (m : Nat) (p : List D) : Prop := ∃ a b c : Int, p = [.int a, .int b, .int c] ∧ 0 ≤ b ∧ b < 2 ^ 80 ∧ 0 ≤ c ∧ c ≤ m
theorem Pool.up {m n : Nat} {p : List D} (h : Pool m p) (hn : m ≤ n) : Pool n p := by
  obtain ⟨a, b, c, h1, h2, h3, h4, h5⟩ := h
  exact ⟨a, b, c, h1, h2, h3, h4, by omega⟩
theorem log_of {i : Int} {n : Nat} (h : i.natAbs < 2 ^ n) : i.natAbs.log2 ≤ n := by
  rcases Nat.eq_zero_or_pos i.natAbs with e | e
  · rw [e]; simp
  · exact Nat.le_of_lt ((Nat.log2_lt (by omega)).mpr h)
theorem okMul_nn {i j : Int} (hi : i.natAbs < 2 ^ 200) (hj : j.natAbs < 2 ^ 200) : okMul i j = true := by
  unfold okMul
  have := log_of hi
  have := log_of hj
  exact decide_eq_true (by omega)
theorem okPow_of {i : Int} (hi : i.natAbs < 2 ^ 200) : okPow i = true := by
  unfold okPow
  have := log_of hi
  exact decide_eq_true (by omega)
theorem g_draw {m : Nat} {p : List D} {many : Int} (hp : Pool m p) (h0 : 0 < many) (h1 : many < 2 ^ 200) (hm : m ≤ 10000) :
    ∃ d p', G_law_draw [.rf 0, .fz (.int many)] [p] = some (.val (.int d), [p']) ∧ 0 ≤ d ∧ d < many ∧ Pool (m + 1) p' := by
  obtain ⟨a, b, c, rfl, hb, hb2, hc, hc2⟩ := hp
  have e1 : okDiv many = true := okDiv_of (by omega) (by omega)
  by_cases ha : 0 < a
  · refine ⟨a % many, [.int (a / many), .int b, .int c], ?_, Int.emod_nonneg _ (by omega), Int.emod_lt_of_pos _ h0, ⟨_, _, _, rfl, hb, hb2, hc, by omega⟩⟩
    unfold G_law_draw f_law_draw
    simp [fnD, sSeq, sSet, sDrop, sRet, sRetN, sIf, sAsg, sPar, sFor, forD, dC, dVar, dOp, der, ders, frz, frzs, dTup, dLst, aNil, aCons, aStar, PK.mk, dCB, PK.g1, PK.g2, lenD, absD, maxD, minD, PK.intD, listD, tupD, sumD, allD, intsD, bls, addD, subD, mulD, divD, modD, powD, cmpD, ixD, atI, ixN, dUn, negD, dB, truD, bNot, bAnd, bOr, bYes, dAndV, dOrV, dNotV, dChain, dFld, recvOk, dIsi, tyD, kitB, dCallN, callG, refs, renum, lives, PK.putAll, hNm, hSub, hNil, hCons, hTup, setIx, asgT, setAll, dMt, appD, extD, dLc, lcGo, wipeD, iSq, iRg1, iRg2, iZipD, iEnumD, iRevD, srcOf, rangeD, zipD, small, itemsD, List.range, List.range.loop, eqD_int, dSl, dRev, slD, cutD, okR, sNext, sNever, sBrk, sCnt, dMake, makeG, PK.initD, iSeq, iDrop, iSet, iFld, dMeth, dIfE, isND, PK.isNon, oSome, oNone, HT.sIx, ha, h0, e1]
  · generalize hx : ((b + 15485863 * (c + 1)) ^ 3) % 162259276829213363391578010288127 = x
    have hx0 : 0 ≤ x := by rw [← hx]; exact Int.emod_nonneg _ (by decide)
    have hx1 : x < 162259276829213363391578010288127 := by rw [← hx]; exact Int.emod_lt_of_pos _ (by decide)
    refine ⟨((x + 32452843 * (c + 1)) ^ 3) % 170141183460469231731687303715884105727 / 1048576 % many, [.int a, .int b, .int (c + 1)], ?_, Int.emod_nonneg _ (by omega), Int.emod_lt_of_pos _ h0, ⟨_, _, _, rfl, hb, hb2, by omega, by omega⟩⟩
    have e2 : okMul 15485863 (c + 1) = true := okMul_nn (by decide) (by omega)
    have e3 : okMul 32452843 (c + 1) = true := okMul_nn (by decide) (by omega)
    have e4 : okPow (b + 15485863 * (c + 1)) = true := okPow_of (by omega)
    have e5 : okPow (x + 32452843 * (c + 1)) = true := okPow_of (by omega)
    have e6 : okDiv 1048576 = true := by decide
    unfold G_law_draw f_law_draw
    simp [fnD, sSeq, sSet, sDrop, sRet, sRetN, sIf, sAsg, sPar, sFor, forD, dC, dVar, dOp, der, ders, frz, frzs, dTup, dLst, aNil, aCons, aStar, PK.mk, dCB, PK.g1, PK.g2, lenD, absD, maxD, minD, PK.intD, listD, tupD, sumD, allD, intsD, bls, addD, subD, mulD, divD, modD, powD, cmpD, ixD, atI, ixN, dUn, negD, dB, truD, bNot, bAnd, bOr, bYes, dAndV, dOrV, dNotV, dChain, dFld, recvOk, dIsi, tyD, kitB, dCallN, callG, refs, renum, lives, PK.putAll, hNm, hSub, hNil, hCons, hTup, setIx, asgT, setAll, dMt, appD, extD, dLc, lcGo, wipeD, iSq, iRg1, iRg2, iZipD, iEnumD, iRevD, srcOf, rangeD, zipD, small, itemsD, List.range, List.range.loop, eqD_int, dSl, dRev, slD, cutD, okR, sNext, sNever, sBrk, sCnt, dMake, makeG, PK.initD, iSeq, iDrop, iSet, iFld, dMeth, dIfE, isND, PK.isNon, oSome, oNone, HT.sIx, ha, h0, e1, e2, e3, e4, e5, e6, hx]
/-- a draw within a call's own numbering -/
theorem d_draw {m : Nat} {p : List D} {many : Int} (hp : Pool m p) (h0 : 0 < many) (h1 : many < 2 ^ 200) (hm : m ≤ 10000) : ∃ d p', 0 ≤ d ∧ d < many ∧ Pool (m + 1) p' ∧
    ∀ {fa : AF} {δ δ' : Dl} {k : Nat}, fa δ = some ([.rf k, .fz (.int many)], δ') → δ'.st[k]? = some (some p) → dCallN false 2 G_law_draw fa δ = some (.fz (.int d), { δ' with st := δ'.st.set k (some p') }) := by
  obtain ⟨d, p', e, h2, h3, h4⟩ := g_draw hp h0 h1 hm
  refine ⟨d, p', h2, h3, h4, fun ea ek => ?_⟩
  simp [dCallN, ea, callG, refs, lives, ek, renum, e, PK.putAll]
end K51

set_option maxHeartbeats 0
namespace K51
open PySem L2 PK
theorem six {d : Int} (h0 : 0 ≤ d) (h : d < 6) : d = 0 ∨ d = 1 ∨ d = 2 ∨ d = 3 ∨ d = 4 ∨ d = 5 := by omega
theorem g_more {m : Nat} {p : List D} (hp : Pool m p) (hm : m ≤ 9000) : ∃ v p', G_law_more [.rf 0] [p] = some (.val (.int v), [p']) ∧ -20 ≤ v ∧ v ≤ 20 ∧ Pool (m + 2) p' := by
  obtain ⟨d, p1, e1, h1, h2, hp1⟩ := g_draw (many := 41) hp (by decide) (by decide) (by omega)
  obtain ⟨k, p2, e2, h3, h4, hp2⟩ := g_draw (many := 6) hp1 (by decide) (by decide) (by omega)
  rcases six h3 h4 with rfl | rfl | rfl | rfl | rfl | rfl
  · exact ⟨0, p2, by unfold G_law_more f_law_more; simp [fnD, sSeq, sSet, sDrop, sRet, sRetN, sIf, sAsg, sPar, sFor, forD, dC, dVar, dOp, der, ders, frz, frzs, dTup, dLst, aNil, aCons, aStar, PK.mk, dCB, PK.g1, PK.g2, lenD, absD, maxD, minD, PK.intD, listD, tupD, sumD, allD, intsD, bls, addD, subD, mulD, divD, modD, powD, cmpD, ixD, atI, ixN, dUn, negD, dB, truD, bNot, bAnd, bOr, bYes, dAndV, dOrV, dNotV, dChain, dFld, recvOk, dIsi, tyD, kitB, dCallN, callG, refs, renum, lives, PK.putAll, hNm, hSub, hNil, hCons, hTup, setIx, asgT, setAll, dMt, appD, extD, dLc, lcGo, wipeD, iSq, iRg1, iRg2, iZipD, iEnumD, iRevD, srcOf, rangeD, zipD, small, itemsD, List.range, List.range.loop, eqD_int, dSl, dRev, slD, cutD, okR, sNext, sNever, sBrk, sCnt, dMake, makeG, PK.initD, iSeq, iDrop, iSet, iFld, dMeth, dIfE, isND, PK.isNon, oSome, oNone, HT.sIx, e1, e2], by omega, by omega, hp2⟩
  · exact ⟨1, p2, by unfold G_law_more f_law_more; simp [fnD, sSeq, sSet, sDrop, sRet, sRetN, sIf, sAsg, sPar, sFor, forD, dC, dVar, dOp, der, ders, frz, frzs, dTup, dLst, aNil, aCons, aStar, PK.mk, dCB, PK.g1, PK.g2, lenD, absD, maxD, minD, PK.intD, listD, tupD, sumD, allD, intsD, bls, addD, subD, mulD, divD, modD, powD, cmpD, ixD, atI, ixN, dUn, negD, dB, truD, bNot, bAnd, bOr, bYes, dAndV, dOrV, dNotV, dChain, dFld, recvOk, dIsi, tyD, kitB, dCallN, callG, refs, renum, lives, PK.putAll, hNm, hSub, hNil, hCons, hTup, setIx, asgT, setAll, dMt, appD, extD, dLc, lcGo, wipeD, iSq, iRg1, iRg2, iZipD, iEnumD, iRevD, srcOf, rangeD, zipD, small, itemsD, List.range, List.range.loop, eqD_int, dSl, dRev, slD, cutD, okR, sNext, sNever, sBrk, sCnt, dMake, makeG, PK.initD, iSeq, iDrop, iSet, iFld, dMeth, dIfE, isND, PK.isNon, oSome, oNone, HT.sIx, e1, e2], by omega, by omega, hp2⟩
  · exact ⟨-1, p2, by unfold G_law_more f_law_more; simp [fnD, sSeq, sSet, sDrop, sRet, sRetN, sIf, sAsg, sPar, sFor, forD, dC, dVar, dOp, der, ders, frz, frzs, dTup, dLst, aNil, aCons, aStar, PK.mk, dCB, PK.g1, PK.g2, lenD, absD, maxD, minD, PK.intD, listD, tupD, sumD, allD, intsD, bls, addD, subD, mulD, divD, modD, powD, cmpD, ixD, atI, ixN, dUn, negD, dB, truD, bNot, bAnd, bOr, bYes, dAndV, dOrV, dNotV, dChain, dFld, recvOk, dIsi, tyD, kitB, dCallN, callG, refs, renum, lives, PK.putAll, hNm, hSub, hNil, hCons, hTup, setIx, asgT, setAll, dMt, appD, extD, dLc, lcGo, wipeD, iSq, iRg1, iRg2, iZipD, iEnumD, iRevD, srcOf, rangeD, zipD, small, itemsD, List.range, List.range.loop, eqD_int, dSl, dRev, slD, cutD, okR, sNext, sNever, sBrk, sCnt, dMake, makeG, PK.initD, iSeq, iDrop, iSet, iFld, dMeth, dIfE, isND, PK.isNon, oSome, oNone, HT.sIx, e1, e2], by omega, by omega, hp2⟩
  · exact ⟨d - 20, p2, by unfold G_law_more f_law_more; simp [fnD, sSeq, sSet, sDrop, sRet, sRetN, sIf, sAsg, sPar, sFor, forD, dC, dVar, dOp, der, ders, frz, frzs, dTup, dLst, aNil, aCons, aStar, PK.mk, dCB, PK.g1, PK.g2, lenD, absD, maxD, minD, PK.intD, listD, tupD, sumD, allD, intsD, bls, addD, subD, mulD, divD, modD, powD, cmpD, ixD, atI, ixN, dUn, negD, dB, truD, bNot, bAnd, bOr, bYes, dAndV, dOrV, dNotV, dChain, dFld, recvOk, dIsi, tyD, kitB, dCallN, callG, refs, renum, lives, PK.putAll, hNm, hSub, hNil, hCons, hTup, setIx, asgT, setAll, dMt, appD, extD, dLc, lcGo, wipeD, iSq, iRg1, iRg2, iZipD, iEnumD, iRevD, srcOf, rangeD, zipD, small, itemsD, List.range, List.range.loop, eqD_int, dSl, dRev, slD, cutD, okR, sNext, sNever, sBrk, sCnt, dMake, makeG, PK.initD, iSeq, iDrop, iSet, iFld, dMeth, dIfE, isND, PK.isNon, oSome, oNone, HT.sIx, e1, e2], by omega, by omega, hp2⟩
  · exact ⟨20, p2, by unfold G_law_more f_law_more; simp [fnD, sSeq, sSet, sDrop, sRet, sRetN, sIf, sAsg, sPar, sFor, forD, dC, dVar, dOp, der, ders, frz, frzs, dTup, dLst, aNil, aCons, aStar, PK.mk, dCB, PK.g1, PK.g2, lenD, absD, maxD, minD, PK.intD, listD, tupD, sumD, allD, intsD, bls, addD, subD, mulD, divD, modD, powD, cmpD, ixD, atI, ixN, dUn, negD, dB, truD, bNot, bAnd, bOr, bYes, dAndV, dOrV, dNotV, dChain, dFld, recvOk, dIsi, tyD, kitB, dCallN, callG, refs, renum, lives, PK.putAll, hNm, hSub, hNil, hCons, hTup, setIx, asgT, setAll, dMt, appD, extD, dLc, lcGo, wipeD, iSq, iRg1, iRg2, iZipD, iEnumD, iRevD, srcOf, rangeD, zipD, small, itemsD, List.range, List.range.loop, eqD_int, dSl, dRev, slD, cutD, okR, sNext, sNever, sBrk, sCnt, dMake, makeG, PK.initD, iSeq, iDrop, iSet, iFld, dMeth, dIfE, isND, PK.isNon, oSome, oNone, HT.sIx, e1, e2], by omega, by omega, hp2⟩
  · exact ⟨-20, p2, by unfold G_law_more f_law_more; simp [fnD, sSeq, sSet, sDrop, sRet, sRetN, sIf, sAsg, sPar, sFor, forD, dC, dVar, dOp, der, ders, frz, frzs, dTup, dLst, aNil, aCons, aStar, PK.mk, dCB, PK.g1, PK.g2, lenD, absD, maxD, minD, PK.intD, listD, tupD, sumD, allD, intsD, bls, addD, subD, mulD, divD, modD, powD, cmpD, ixD, atI, ixN, dUn, negD, dB, truD, bNot, bAnd, bOr, bYes, dAndV, dOrV, dNotV, dChain, dFld, recvOk, dIsi, tyD, kitB, dCallN, callG, refs, renum, lives, PK.putAll, hNm, hSub, hNil, hCons, hTup, setIx, asgT, setAll, dMt, appD, extD, dLc, lcGo, wipeD, iSq, iRg1, iRg2, iZipD, iEnumD, iRevD, srcOf, rangeD, zipD, small, itemsD, List.range, List.range.loop, eqD_int, dSl, dRev, slD, cutD, okR, sNext, sNever, sBrk, sCnt, dMake, makeG, PK.initD, iSeq, iDrop, iSet, iFld, dMeth, dIfE, isND, PK.isNon, oSome, oNone, HT.sIx, e1, e2], by omega, by omega, hp2⟩
/-- one weight -/
theorem d_item {m : Nat} {p acc : List D} {A B C x : Option Vl} (hp : Pool m p) (hm : m ≤ 9000) : ∃ v p', -6 ≤ v ∧ v ≤ 6 ∧ Pool (m + 2) p' ∧
    (dOp ixD (dLst false (aCons (dC (.int 0)) (aCons (dC (.int 1)) (aCons (dUn negD (dC (.int 1))) (aCons (dOp subD (dCallN false 2 G_law_draw (aCons (dVar 0) (aCons (dC (.int 13)) aNil))) (dC (.int 6))) (aCons (dC (.int 6)) (aCons (dUn negD (dC (.int 6))) aNil))))))) (dCallN false 2 G_law_draw (aCons (dVar 0) (aCons (dC (.int 6)) aNil))))
      ⟨[some (.rf 0), A, B, C, x], [some p, some acc]⟩ = some (.fz (.int v), ⟨[some (.rf 0), A, B, C, x], [some p', some acc]⟩) := by
  obtain ⟨d, p1, e1, h1, h2, hp1⟩ := g_draw (many := 13) hp (by decide) (by decide) (by omega)
  obtain ⟨k, p2, e2, h3, h4, hp2⟩ := g_draw (many := 6) hp1 (by decide) (by decide) (by omega)
  rcases six h3 h4 with rfl | rfl | rfl | rfl | rfl | rfl
  · exact ⟨0, p2, by omega, by omega, hp2, by simp [fnD, sSeq, sSet, sDrop, sRet, sRetN, sIf, sAsg, sPar, sFor, forD, dC, dVar, dOp, der, ders, frz, frzs, dTup, dLst, aNil, aCons, aStar, PK.mk, dCB, PK.g1, PK.g2, lenD, absD, maxD, minD, PK.intD, listD, tupD, sumD, allD, intsD, bls, addD, subD, mulD, divD, modD, powD, cmpD, ixD, atI, ixN, dUn, negD, dB, truD, bNot, bAnd, bOr, bYes, dAndV, dOrV, dNotV, dChain, dFld, recvOk, dIsi, tyD, kitB, dCallN, callG, refs, renum, lives, PK.putAll, hNm, hSub, hNil, hCons, hTup, setIx, asgT, setAll, dMt, appD, extD, dLc, lcGo, wipeD, iSq, iRg1, iRg2, iZipD, iEnumD, iRevD, srcOf, rangeD, zipD, small, itemsD, List.range, List.range.loop, eqD_int, dSl, dRev, slD, cutD, okR, sNext, sNever, sBrk, sCnt, dMake, makeG, PK.initD, iSeq, iDrop, iSet, iFld, dMeth, dIfE, isND, PK.isNon, oSome, oNone, HT.sIx, e1, e2]⟩
  · exact ⟨1, p2, by omega, by omega, hp2, by simp [fnD, sSeq, sSet, sDrop, sRet, sRetN, sIf, sAsg, sPar, sFor, forD, dC, dVar, dOp, der, ders, frz, frzs, dTup, dLst, aNil, aCons, aStar, PK.mk, dCB, PK.g1, PK.g2, lenD, absD, maxD, minD, PK.intD, listD, tupD, sumD, allD, intsD, bls, addD, subD, mulD, divD, modD, powD, cmpD, ixD, atI, ixN, dUn, negD, dB, truD, bNot, bAnd, bOr, bYes, dAndV, dOrV, dNotV, dChain, dFld, recvOk, dIsi, tyD, kitB, dCallN, callG, refs, renum, lives, PK.putAll, hNm, hSub, hNil, hCons, hTup, setIx, asgT, setAll, dMt, appD, extD, dLc, lcGo, wipeD, iSq, iRg1, iRg2, iZipD, iEnumD, iRevD, srcOf, rangeD, zipD, small, itemsD, List.range, List.range.loop, eqD_int, dSl, dRev, slD, cutD, okR, sNext, sNever, sBrk, sCnt, dMake, makeG, PK.initD, iSeq, iDrop, iSet, iFld, dMeth, dIfE, isND, PK.isNon, oSome, oNone, HT.sIx, e1, e2]⟩
  · exact ⟨-1, p2, by omega, by omega, hp2, by simp [fnD, sSeq, sSet, sDrop, sRet, sRetN, sIf, sAsg, sPar, sFor, forD, dC, dVar, dOp, der, ders, frz, frzs, dTup, dLst, aNil, aCons, aStar, PK.mk, dCB, PK.g1, PK.g2, lenD, absD, maxD, minD, PK.intD, listD, tupD, sumD, allD, intsD, bls, addD, subD, mulD, divD, modD, powD, cmpD, ixD, atI, ixN, dUn, negD, dB, truD, bNot, bAnd, bOr, bYes, dAndV, dOrV, dNotV, dChain, dFld, recvOk, dIsi, tyD, kitB, dCallN, callG, refs, renum, lives, PK.putAll, hNm, hSub, hNil, hCons, hTup, setIx, asgT, setAll, dMt, appD, extD, dLc, lcGo, wipeD, iSq, iRg1, iRg2, iZipD, iEnumD, iRevD, srcOf, rangeD, zipD, small, itemsD, List.range, List.range.loop, eqD_int, dSl, dRev, slD, cutD, okR, sNext, sNever, sBrk, sCnt, dMake, makeG, PK.initD, iSeq, iDrop, iSet, iFld, dMeth, dIfE, isND, PK.isNon, oSome, oNone, HT.sIx, e1, e2]⟩
  · exact ⟨d - 6, p2, by omega, by omega, hp2, by simp [fnD, sSeq, sSet, sDrop, sRet, sRetN, sIf, sAsg, sPar, sFor, forD, dC, dVar, dOp, der, ders, frz, frzs, dTup, dLst, aNil, aCons, aStar, PK.mk, dCB, PK.g1, PK.g2, lenD, absD, maxD, minD, PK.intD, listD, tupD, sumD, allD, intsD, bls, addD, subD, mulD, divD, modD, powD, cmpD, ixD, atI, ixN, dUn, negD, dB, truD, bNot, bAnd, bOr, bYes, dAndV, dOrV, dNotV, dChain, dFld, recvOk, dIsi, tyD, kitB, dCallN, callG, refs, renum, lives, PK.putAll, hNm, hSub, hNil, hCons, hTup, setIx, asgT, setAll, dMt, appD, extD, dLc, lcGo, wipeD, iSq, iRg1, iRg2, iZipD, iEnumD, iRevD, srcOf, rangeD, zipD, small, itemsD, List.range, List.range.loop, eqD_int, dSl, dRev, slD, cutD, okR, sNext, sNever, sBrk, sCnt, dMake, makeG, PK.initD, iSeq, iDrop, iSet, iFld, dMeth, dIfE, isND, PK.isNon, oSome, oNone, HT.sIx, e1, e2]⟩
  · exact ⟨6, p2, by omega, by omega, hp2, by simp [fnD, sSeq, sSet, sDrop, sRet, sRetN, sIf, sAsg, sPar, sFor, forD, dC, dVar, dOp, der, ders, frz, frzs, dTup, dLst, aNil, aCons, aStar, PK.mk, dCB, PK.g1, PK.g2, lenD, absD, maxD, minD, PK.intD, listD, tupD, sumD, allD, intsD, bls, addD, subD, mulD, divD, modD, powD, cmpD, ixD, atI, ixN, dUn, negD, dB, truD, bNot, bAnd, bOr, bYes, dAndV, dOrV, dNotV, dChain, dFld, recvOk, dIsi, tyD, kitB, dCallN, callG, refs, renum, lives, PK.putAll, hNm, hSub, hNil, hCons, hTup, setIx, asgT, setAll, dMt, appD, extD, dLc, lcGo, wipeD, iSq, iRg1, iRg2, iZipD, iEnumD, iRevD, srcOf, rangeD, zipD, small, itemsD, List.range, List.range.loop, eqD_int, dSl, dRev, slD, cutD, okR, sNext, sNever, sBrk, sCnt, dMake, makeG, PK.initD, iSeq, iDrop, iSet, iFld, dMeth, dIfE, isND, PK.isNon, oSome, oNone, HT.sIx, e1, e2]⟩
  · exact ⟨-6, p2, by omega, by omega, hp2, by simp [fnD, sSeq, sSet, sDrop, sRet, sRetN, sIf, sAsg, sPar, sFor, forD, dC, dVar, dOp, der, ders, frz, frzs, dTup, dLst, aNil, aCons, aStar, PK.mk, dCB, PK.g1, PK.g2, lenD, absD, maxD, minD, PK.intD, listD, tupD, sumD, allD, intsD, bls, addD, subD, mulD, divD, modD, powD, cmpD, ixD, atI, ixN, dUn, negD, dB, truD, bNot, bAnd, bOr, bYes, dAndV, dOrV, dNotV, dChain, dFld, recvOk, dIsi, tyD, kitB, dCallN, callG, refs, renum, lives, PK.putAll, hNm, hSub, hNil, hCons, hTup, setIx, asgT, setAll, dMt, appD, extD, dLc, lcGo, wipeD, iSq, iRg1, iRg2, iZipD, iEnumD, iRevD, srcOf, rangeD, zipD, small, itemsD, List.range, List.range.loop, eqD_int, dSl, dRev, slD, cutD, okR, sNext, sNever, sBrk, sCnt, dMake, makeG, PK.initD, iSeq, iDrop, iSet, iFld, dMeth, dIfE, isND, PK.isNon, oSome, oNone, HT.sIx, e1, e2]⟩
noncomputable def bodyW : SF := sDrop (dMt appD (dVar 3) (aCons (dOp ixD (dLst false (aCons (dC (.int 0)) (aCons (dC (.int 1)) (aCons (dUn negD (dC (.int 1))) (aCons (dOp subD (dCallN false 2 G_law_draw (aCons (dVar 0) (aCons (dC (.int 13)) aNil))) (dC (.int 6))) (aCons (dC (.int 6)) (aCons (dUn negD (dC (.int 6))) aNil))))))) (dCallN false 2 G_law_draw (aCons (dVar 0) (aCons (dC (.int 6)) aNil)))) aNil))
theorem d_bodyW {m : Nat} {p acc : List D} {A B x : Option Vl} (hp : Pool m p) (hm : m ≤ 9000) (ha : acc.length ≤ 10) : ∃ v p', -6 ≤ v ∧ v ≤ 6 ∧ Pool (m + 2) p' ∧
    bodyW ⟨[some (.rf 0), A, B, some (.rf 1), x], [some p, some acc]⟩ = some (.nx, ⟨[some (.rf 0), A, B, some (.rf 1), x], [some p', some (acc ++ [.int v])]⟩) := by
  obtain ⟨v, p', h1, h2, h3, e⟩ := d_item (A := A) (B := B) (C := some (.rf 1)) (x := x) (acc := acc) hp hm
  refine ⟨v, p', h1, h2, h3, ?_⟩
  have h5 : acc.length < 100000 := by omega
  unfold bodyW
  simp [sDrop, dMt, dVar, aCons, aNil, e, frzs, frz, appD, small, h5]
theorem g_weights {n c m : Nat} (hn : n = 2 ∨ n = 3) (hc : c < n) {p : List D} (hp : Pool m p) (hm : m ≤ 8000) : ∃ ws p', G_law_weights [.rf 0, .fz (.int n), .fz (.int c)] [p] = some (.val (tupI ws), [p']) ∧ ws.length = n ∧ ws.getD c 0 = 0 ∧ (∀ w ∈ ws, -6 ≤ w ∧ w ≤ 6) ∧ Pool (m + 6) p' := by
  rcases hn with rfl | rfl
  · obtain ⟨v, p1, a1, a2, hp1, e1⟩ := d_bodyW (A := some (.fz (.int 2))) (B := some (.fz (.int c))) (x := some (.fz (.int 0))) (acc := []) hp (by omega) (by simp)
    obtain ⟨u, p2, b1, b2, hp2, e2⟩ := d_bodyW (A := some (.fz (.int 2))) (B := some (.fz (.int c))) (x := some (.fz (.int 1))) (acc := [.int v]) hp1 (by omega) (by simp)
    refine ⟨[v, u].set c 0, p2, ?_, by simp, ?_, ?_, hp2.up (by omega)⟩
    · unfold G_law_weights f_law_weights
      rw [show sDrop (dMt appD (dVar 3) (aCons (dOp ixD (dLst false (aCons (dC (.int 0)) (aCons (dC (.int 1)) (aCons (dUn negD (dC (.int 1))) (aCons (dOp subD (dCallN false 2 G_law_draw (aCons (dVar 0) (aCons (dC (.int 13)) aNil))) (dC (.int 6))) (aCons (dC (.int 6)) (aCons (dUn negD (dC (.int 6))) aNil))))))) (dCallN false 2 G_law_draw (aCons (dVar 0) (aCons (dC (.int 6)) aNil)))) aNil)) = bodyW from rfl]
      simp only [List.nil_append, List.singleton_append, List.cons_append] at e1 e2
      rcases nat2 hc with rfl | rfl <;> simp at e1 e2 <;> simp [fnD, sSeq, sSet, sDrop, sRet, sRetN, sIf, sAsg, sPar, sFor, forD, dC, dVar, dOp, der, ders, frz, frzs, dTup, dLst, aNil, aCons, aStar, PK.mk, dCB, PK.g1, PK.g2, lenD, absD, maxD, minD, PK.intD, listD, tupD, sumD, allD, intsD, bls, addD, subD, mulD, divD, modD, powD, cmpD, ixD, atI, ixN, dUn, negD, dB, truD, bNot, bAnd, bOr, bYes, dAndV, dOrV, dNotV, dChain, dFld, recvOk, dIsi, tyD, kitB, dCallN, callG, refs, renum, lives, PK.putAll, hNm, hSub, hNil, hCons, hTup, setIx, asgT, setAll, dMt, appD, extD, dLc, lcGo, wipeD, iSq, iRg1, iRg2, iZipD, iEnumD, iRevD, srcOf, rangeD, zipD, small, itemsD, List.range, List.range.loop, eqD_int, dSl, dRev, slD, cutD, okR, sNext, sNever, sBrk, sCnt, dMake, makeG, PK.initD, iSeq, iDrop, iSet, iFld, dMeth, dIfE, isND, PK.isNon, oSome, oNone, HT.sIx, e1, e2, tupI]
    · rcases nat2 hc with rfl | rfl <;> simp
    · rcases nat2 hc with rfl | rfl <;> simp <;> omega
  · obtain ⟨v, p1, a1, a2, hp1, e1⟩ := d_bodyW (A := some (.fz (.int 3))) (B := some (.fz (.int c))) (x := some (.fz (.int 0))) (acc := []) hp (by omega) (by simp)
    obtain ⟨u, p2, b1, b2, hp2, e2⟩ := d_bodyW (A := some (.fz (.int 3))) (B := some (.fz (.int c))) (x := some (.fz (.int 1))) (acc := [.int v]) hp1 (by omega) (by simp)
    obtain ⟨t, p3, c1, c2, hp3, e3⟩ := d_bodyW (A := some (.fz (.int 3))) (B := some (.fz (.int c))) (x := some (.fz (.int 2))) (acc := [.int v, .int u]) hp2 (by omega) (by simp)
    refine ⟨[v, u, t].set c 0, p3, ?_, by simp, ?_, ?_, hp3.up (by omega)⟩
    · unfold G_law_weights f_law_weights
      rw [show sDrop (dMt appD (dVar 3) (aCons (dOp ixD (dLst false (aCons (dC (.int 0)) (aCons (dC (.int 1)) (aCons (dUn negD (dC (.int 1))) (aCons (dOp subD (dCallN false 2 G_law_draw (aCons (dVar 0) (aCons (dC (.int 13)) aNil))) (dC (.int 6))) (aCons (dC (.int 6)) (aCons (dUn negD (dC (.int 6))) aNil))))))) (dCallN false 2 G_law_draw (aCons (dVar 0) (aCons (dC (.int 6)) aNil)))) aNil)) = bodyW from rfl]
      simp only [List.nil_append, List.singleton_append, List.cons_append] at e1 e2 e3
      rcases nat3 hc with rfl | rfl | rfl <;> simp at e1 e2 e3 <;> simp [fnD, sSeq, sSet, sDrop, sRet, sRetN, sIf, sAsg, sPar, sFor, forD, dC, dVar, dOp, der, ders, frz, frzs, dTup, dLst, aNil, aCons, aStar, PK.mk, dCB, PK.g1, PK.g2, lenD, absD, maxD, minD, PK.intD, listD, tupD, sumD, allD, intsD, bls, addD, subD, mulD, divD, modD, powD, cmpD, ixD, atI, ixN, dUn, negD, dB, truD, bNot, bAnd, bOr, bYes, dAndV, dOrV, dNotV, dChain, dFld, recvOk, dIsi, tyD, kitB, dCallN, callG, refs, renum, lives, PK.putAll, hNm, hSub, hNil, hCons, hTup, setIx, asgT, setAll, dMt, appD, extD, dLc, lcGo, wipeD, iSq, iRg1, iRg2, iZipD, iEnumD, iRevD, srcOf, rangeD, zipD, small, itemsD, List.range, List.range.loop, eqD_int, dSl, dRev, slD, cutD, okR, sNext, sNever, sBrk, sCnt, dMake, makeG, PK.initD, iSeq, iDrop, iSet, iFld, dMeth, dIfE, isND, PK.isNon, oSome, oNone, HT.sIx, e1, e2, e3, tupI]
    · rcases nat3 hc with rfl | rfl | rfl <;> simp
    · rcases nat3 hc with rfl | rfl | rfl <;> simp <;> omega
end K51

set_option maxHeartbeats 0
namespace K51
open PySem L2 PK
theorem g_divisor {m : Nat} {p : List D} {R : Int} (hp : Pool m p) (hm : m ≤ 9000) (h1 : 1 ≤ R) (h2 : R ≤ 12) : ∃ (d R' : Int) (p' : List D), G_law_divisor [.rf 0, .rf 1] [p, [.int R]] = some (.val (.int d), [p', [.int R']]) ∧ 1 ≤ d ∧ d ≤ 6 ∧ 1 ≤ R' ∧ R' ≤ 12 ∧ Pool (m + 1) p' ∧ d * R' ≤ R := by
  obtain ⟨d, p1, e1, a1, a2, hp1⟩ := g_draw (many := if R < 6 then R else 6) hp (by split <;> omega) (by split <;> omega) (by omega)
  have hd : 1 + d ≤ R ∧ 1 + d ≤ 6 := by split at a2 <;> omega
  refine ⟨1 + d, R / (1 + d), p1, ?_, by omega, by omega, ?_, ?_, hp1, Int.mul_ediv_self_le (by omega)⟩
  · have e2 : okDiv (1 + d) = true := okDiv_of (by omega) (by omega)
    unfold G_law_divisor f_law_divisor
    by_cases h : R < 6
    · rw [if_pos h] at e1
      simp [fnD, sSeq, sSet, sDrop, sRet, sRetN, sIf, sAsg, sPar, sFor, forD, dC, dVar, dOp, der, ders, frz, frzs, dTup, dLst, aNil, aCons, aStar, PK.mk, dCB, PK.g1, PK.g2, lenD, absD, maxD, minD, PK.intD, listD, tupD, sumD, allD, intsD, bls, addD, subD, mulD, divD, modD, powD, cmpD, ixD, atI, ixN, dUn, negD, dB, truD, bNot, bAnd, bOr, bYes, dAndV, dOrV, dNotV, dChain, dFld, recvOk, dIsi, tyD, kitB, dCallN, callG, refs, renum, lives, PK.putAll, hNm, hSub, hNil, hCons, hTup, setIx, asgT, setAll, dMt, appD, extD, dLc, lcGo, wipeD, iSq, iRg1, iRg2, iZipD, iEnumD, iRevD, srcOf, rangeD, zipD, small, itemsD, List.range, List.range.loop, eqD_int, dSl, dRev, slD, cutD, okR, sNext, sNever, sBrk, sCnt, dMake, makeG, PK.initD, iSeq, iDrop, iSet, iFld, dMeth, dIfE, isND, PK.isNon, oSome, oNone, HT.sIx, e1, e2, h]
    · rw [if_neg h] at e1
      simp [fnD, sSeq, sSet, sDrop, sRet, sRetN, sIf, sAsg, sPar, sFor, forD, dC, dVar, dOp, der, ders, frz, frzs, dTup, dLst, aNil, aCons, aStar, PK.mk, dCB, PK.g1, PK.g2, lenD, absD, maxD, minD, PK.intD, listD, tupD, sumD, allD, intsD, bls, addD, subD, mulD, divD, modD, powD, cmpD, ixD, atI, ixN, dUn, negD, dB, truD, bNot, bAnd, bOr, bYes, dAndV, dOrV, dNotV, dChain, dFld, recvOk, dIsi, tyD, kitB, dCallN, callG, refs, renum, lives, PK.putAll, hNm, hSub, hNil, hCons, hTup, setIx, asgT, setAll, dMt, appD, extD, dLc, lcGo, wipeD, iSq, iRg1, iRg2, iZipD, iEnumD, iRevD, srcOf, rangeD, zipD, small, itemsD, List.range, List.range.loop, eqD_int, dSl, dRev, slD, cutD, okR, sNext, sNever, sBrk, sCnt, dMake, makeG, PK.initD, iSeq, iDrop, iSet, iFld, dMeth, dIfE, isND, PK.isNon, oSome, oNone, HT.sIx, e1, e2, h]
  · exact (Int.le_ediv_iff_mul_le (by omega)).mpr (by omega)
  · exact Int.le_trans (Int.ediv_le_self _ (by omega)) h2
/-- a step as the law draws it -/
def Dr (n : Nat) (s : S) : Prop := Ok n s ∧ ∀ c ws m d, s = .lift c ws m d → -20 ≤ m ∧ m ≤ 20
theorem g_lift {n m : Nat} (hn : n = 2 ∨ n = 3) {p : List D} {R : Int} (hp : Pool m p) (hm : m ≤ 7000) (h1 : 1 ≤ R) (h2 : R ≤ 12) : ∃ (s : S) (R' : Int) (p' : List D), G_law_lift [.rf 0, .fz (.int n), .rf 1] [p, [.int R]] = some (.val (enc s), [p', [.int R']]) ∧ Dr n s ∧ 1 ≤ R' ∧ R' ≤ 12 ∧ Pool (m + 10) p' ∧ ∃ c ws v d, s = .lift c ws v d ∧ d * R' ≤ R := by
  obtain ⟨c, p1, e1, a1, a2, hp1⟩ := g_draw (many := n) hp (by omega) (by omega) (by omega)
  obtain ⟨c, rfl⟩ := Int.eq_ofNat_of_zero_le a1
  obtain ⟨ws, p2, e2, b1, b2, b3, hp2⟩ := g_weights hn (c := c) (by omega) hp1 (by omega)
  obtain ⟨v, p3, e3, c1, c2, hp3⟩ := g_more hp2 (by omega)
  obtain ⟨d, R', p4, e4, d1, d2, d3, d4, hp4, d5⟩ := g_divisor hp3 (by omega) h1 h2
  refine ⟨.lift c ws v d, R', p4, ?_, ⟨⟨by omega, b1, b2, b3, by omega, by omega, by omega, by omega⟩, ?_⟩, d3, d4, hp4.up (by omega), _, _, _, _, rfl, d5⟩
  · have s1 : sSet 3 (dCallN false 2 G_law_draw (aCons (dVar 0) (aCons (dVar 1) aNil))) ⟨[some (.rf 0), some (.fz (.int n)), some (.rf 1), none, none, none], [some p, some [.int R]]⟩ = some (.nx, ⟨[some (.rf 0), some (.fz (.int n)), some (.rf 1), some (.fz (.int c)), none, none], [some p1, some [.int R]]⟩) := by
      have e := cl1 (G := G_law_draw) (m := false) (n := 2) (fa := aCons (dVar 0) (aCons (dVar 1) aNil)) (δ := ⟨[some (.rf 0), some (.fz (.int n)), some (.rf 1), none, none, none], [some p, some [.int R]]⟩) (k := 0) rfl rfl rfl rfl e1
      rw [sSet_ e]
      rfl
    have s2 : sPar [4, 5] (aCons (dCallN false 3 G_law_weights (aCons (dVar 0) (aCons (dVar 1) (aCons (dVar 3) aNil)))) (aCons (dCallN false 1 G_law_more (aCons (dVar 0) aNil)) aNil)) ⟨[some (.rf 0), some (.fz (.int n)), some (.rf 1), some (.fz (.int c)), none, none], [some p1, some [.int R]]⟩ = some (.nx, ⟨[some (.rf 0), some (.fz (.int n)), some (.rf 1), some (.fz (.int c)), some (.fz (tupI ws)), some (.fz (.int v))], [some p3, some [.int R]]⟩) := by
      have e := cl1 (G := G_law_weights) (m := false) (n := 3) (fa := aCons (dVar 0) (aCons (dVar 1) (aCons (dVar 3) aNil))) (δ := ⟨[some (.rf 0), some (.fz (.int n)), some (.rf 1), some (.fz (.int c)), none, none], [some p1, some [.int R]]⟩) (k := 0) rfl rfl rfl rfl e2
      have e' := cl1 (G := G_law_more) (m := false) (n := 1) (fa := aCons (dVar 0) aNil) (δ := ⟨[some (.rf 0), some (.fz (.int n)), some (.rf 1), some (.fz (.int c)), none, none], [some p2, some [.int R]]⟩) (k := 0) rfl rfl rfl rfl e3
      rw [sPar2 (aC e (aC e' rfl))]
      rfl
    have s3 : sRet (dTup (aCons (dC (.str "lift")) (aCons (dVar 3) (aCons (dVar 4) (aCons (dVar 5) (aCons (dCallN false 2 G_law_divisor (aCons (dVar 0) (aCons (dVar 2) aNil))) aNil)))))) ⟨[some (.rf 0), some (.fz (.int n)), some (.rf 1), some (.fz (.int c)), some (.fz (tupI ws)), some (.fz (.int v))], [some p3, some [.int R]]⟩ = some (.rt (.fz (enc (.lift c ws v d))), ⟨[some (.rf 0), some (.fz (.int n)), some (.rf 1), some (.fz (.int c)), some (.fz (tupI ws)), some (.fz (.int v))], [some p4, some [.int R']]⟩) := by
      have e5 := cl2 (G := G_law_divisor) (m := false) (n := 2) (fa := aCons (dVar 0) (aCons (dVar 2) aNil)) (δ := ⟨[some (.rf 0), some (.fz (.int n)), some (.rf 1), some (.fz (.int c)), some (.fz (tupI ws)), some (.fz (.int v))], [some p3, some [.int R]]⟩) (k := 0) (l := 1) rfl rfl rfl (by decide) rfl rfl e4
      simp [sRet, dTup, dC, aCons, aNil, dVar, e5, frzs, frz, small, enc]
    unfold G_law_lift f_law_lift fnD
    simp only [List.map_cons, List.map_nil, List.length_cons, List.length_nil, List.replicate, List.cons_append, List.nil_append]
    rw [sSeq_nx s1, sSeq_nx s2, s3]
    simp [lives, List.range, List.range.loop]
  · intro c' ws' m' d' e
    cases e
    exact ⟨c1, c2⟩
theorem g_plain {n m : Nat} (hn : n = 2 ∨ n = 3) {p : List D} (hp : Pool m p) (hm : m ≤ 9000) : ∃ (s : S) (p' : List D), G_law_plain [.rf 0, .fz (.int n)] [p] = some (.val (enc s), [p']) ∧ Dr n s ∧ Pool (m + 3) p' := by
  obtain ⟨d, p1, e1, a1, a2, hp1⟩ := g_draw (many := 2) hp (by decide) (by decide) (by omega)
  by_cases hd : d = 0
  · subst hd
    obtain ⟨c, p2, e2, b1, b2, hp2⟩ := g_draw (many := n) hp1 (by omega) (by omega) (by omega)
    obtain ⟨c, rfl⟩ := Int.eq_ofNat_of_zero_le b1
    refine ⟨.turn c, p2, ?_, ⟨show c < n by omega, fun _ _ _ _ e => by cases e⟩, hp2.up (by omega)⟩
    unfold G_law_plain f_law_plain
    simp [fnD, sSeq, sSet, sDrop, sRet, sRetN, sIf, sAsg, sPar, sFor, forD, dC, dVar, dOp, der, ders, frz, frzs, dTup, dLst, aNil, aCons, aStar, PK.mk, dCB, PK.g1, PK.g2, lenD, absD, maxD, minD, PK.intD, listD, tupD, sumD, allD, intsD, bls, addD, subD, mulD, divD, modD, powD, cmpD, ixD, atI, ixN, dUn, negD, dB, truD, bNot, bAnd, bOr, bYes, dAndV, dOrV, dNotV, dChain, dFld, recvOk, dIsi, tyD, kitB, dCallN, callG, refs, renum, lives, PK.putAll, hNm, hSub, hNil, hCons, hTup, setIx, asgT, setAll, dMt, appD, extD, dLc, lcGo, wipeD, iSq, iRg1, iRg2, iZipD, iEnumD, iRevD, srcOf, rangeD, zipD, small, itemsD, List.range, List.range.loop, eqD_int, dSl, dRev, slD, cutD, okR, sNext, sNever, sBrk, sCnt, dMake, makeG, PK.initD, iSeq, iDrop, iSet, iFld, dMeth, dIfE, isND, PK.isNon, oSome, oNone, HT.sIx, e1, e2, enc]
  · obtain ⟨c, p2, e2, b1, b2, hp2⟩ := g_draw (many := (n : Int) - 1) hp1 (by omega) (by omega) (by omega)
    obtain ⟨c, rfl⟩ := Int.eq_ofNat_of_zero_le b1
    obtain ⟨k, p3, e3, c1, c2, hp3⟩ := g_draw (many := (n : Int) - 1 - c) hp2 (by omega) (by omega) (by omega)
    obtain ⟨k, rfl⟩ := Int.eq_ofNat_of_zero_le c1
    refine ⟨.swap c (c + 1 + k), p3, ?_, ⟨⟨by omega, by omega⟩, fun _ _ _ _ e => by cases e⟩, hp3.up (by omega)⟩
    unfold G_law_plain f_law_plain
    simp [fnD, sSeq, sSet, sDrop, sRet, sRetN, sIf, sAsg, sPar, sFor, forD, dC, dVar, dOp, der, ders, frz, frzs, dTup, dLst, aNil, aCons, aStar, PK.mk, dCB, PK.g1, PK.g2, lenD, absD, maxD, minD, PK.intD, listD, tupD, sumD, allD, intsD, bls, addD, subD, mulD, divD, modD, powD, cmpD, ixD, atI, ixN, dUn, negD, dB, truD, bNot, bAnd, bOr, bYes, dAndV, dOrV, dNotV, dChain, dFld, recvOk, dIsi, tyD, kitB, dCallN, callG, refs, renum, lives, PK.putAll, hNm, hSub, hNil, hCons, hTup, setIx, asgT, setAll, dMt, appD, extD, dLc, lcGo, wipeD, iSq, iRg1, iRg2, iZipD, iEnumD, iRevD, srcOf, rangeD, zipD, small, itemsD, List.range, List.range.loop, eqD_int, dSl, dRev, slD, cutD, okR, sNext, sNever, sBrk, sCnt, dMake, makeG, PK.initD, iSeq, iDrop, iSet, iFld, dMeth, dIfE, isND, PK.isNon, oSome, oNone, HT.sIx, e1, e2, e3, enc, hd]
theorem g_pool {ns : List Int} {i : Nat} (hi : i ≤ 10) : ∃ p, G_law_pool [.fz (.scr ns), .fz (.int i)] [] = some (.fresh p, []) ∧ Pool 0 p := by
  have e1 : okPow 10 = true := by decide
  have e2 : okMul 7368787 ((i : Int) + 1) = true := okMul_nn (by decide) (by omega)
  by_cases h : i < ns.length
  · have hz0 := Int.emod_nonneg ns[i] (show (2305843009213693951 : Int) ≠ 0 by decide)
    have hz1 := Int.emod_lt_of_pos ns[i] (show (0 : Int) < 2305843009213693951 by decide)
    have e3 : ns[i]? = some ns[i] := List.getElem?_eq_getElem h
    have e4 : G_law_pool [.fz (.scr ns), .fz (.int i)] [] = some (.fresh [.int (if 1000000000000000000 < (if ns[i] < 0 then -ns[i] else ns[i]) then (if ns[i] < 0 then -ns[i] else ns[i]) - 1000000000000000000 else 0), .int (ns[i] % 2305843009213693951 + 7368787 * ((i : Int) + 1)), .int 0], []) := by
      unfold G_law_pool f_law_pool
      simp [fnD, sSeq, sSet, sDrop, sRet, sRetN, sIf, sAsg, sPar, sFor, forD, dC, dVar, dOp, der, ders, frz, frzs, dTup, dLst, aNil, aCons, aStar, PK.mk, dCB, PK.g1, PK.g2, lenD, absD, maxD, minD, PK.intD, listD, tupD, sumD, allD, intsD, bls, addD, subD, mulD, divD, modD, powD, cmpD, ixD, atI, ixN, dUn, negD, dB, truD, bNot, bAnd, bOr, bYes, dAndV, dOrV, dNotV, dChain, dFld, recvOk, dIsi, tyD, kitB, dCallN, callG, refs, renum, lives, PK.putAll, hNm, hSub, hNil, hCons, hTup, setIx, asgT, setAll, dMt, appD, extD, dLc, lcGo, wipeD, iSq, iRg1, iRg2, iZipD, iEnumD, iRevD, srcOf, rangeD, zipD, small, itemsD, List.range, List.range.loop, eqD_int, dSl, dRev, slD, cutD, okR, sNext, sNever, sBrk, sCnt, dMake, makeG, PK.initD, iSeq, iDrop, iSet, iFld, dMeth, dIfE, isND, PK.isNon, oSome, oNone, HT.sIx, e1, e2, e3, h]
    exact ⟨_, e4, _, ns[i] % 2305843009213693951 + 7368787 * ((i : Int) + 1), 0, rfl, by omega, by omega, by omega, by omega⟩
  · have e4 : G_law_pool [.fz (.scr ns), .fz (.int i)] [] = some (.fresh [.int 0, .int (7368787 * ((i : Int) + 1)), .int 0], []) := by
      unfold G_law_pool f_law_pool
      simp [fnD, sSeq, sSet, sDrop, sRet, sRetN, sIf, sAsg, sPar, sFor, forD, dC, dVar, dOp, der, ders, frz, frzs, dTup, dLst, aNil, aCons, aStar, PK.mk, dCB, PK.g1, PK.g2, lenD, absD, maxD, minD, PK.intD, listD, tupD, sumD, allD, intsD, bls, addD, subD, mulD, divD, modD, powD, cmpD, ixD, atI, ixN, dUn, negD, dB, truD, bNot, bAnd, bOr, bYes, dAndV, dOrV, dNotV, dChain, dFld, recvOk, dIsi, tyD, kitB, dCallN, callG, refs, renum, lives, PK.putAll, hNm, hSub, hNil, hCons, hTup, setIx, asgT, setAll, dMt, appD, extD, dLc, lcGo, wipeD, iSq, iRg1, iRg2, iZipD, iEnumD, iRevD, srcOf, rangeD, zipD, small, itemsD, List.range, List.range.loop, eqD_int, dSl, dRev, slD, cutD, okR, sNext, sNever, sBrk, sCnt, dMake, makeG, PK.initD, iSeq, iDrop, iSet, iFld, dMeth, dIfE, isND, PK.isNon, oSome, oNone, HT.sIx, e1, e2, h]
    exact ⟨_, e4, 0, 7368787 * ((i : Int) + 1), 0, rfl, by omega, by omega, by omega, by omega⟩
end K51

set_option maxHeartbeats 0
namespace K51
open PySem L2 PK
def dvL : S → Int
  | .lift _ _ _ d => d
  | _ => 1
def prL : List S → Int
  | [] => 1
  | s :: r => dvL s * prL r
theorem prL_app (s : S) : ∀ ss : List S, prL (ss ++ [s]) = prL ss * dvL s
  | [] => by simp [prL]
  | t :: r => by simp only [List.cons_append, prL, prL_app s r, Int.mul_assoc]
theorem dvL_1 {n : Nat} {s : S} (h : Dr n s) : 1 ≤ dvL s := by
  cases s with
  | lift c ws m d => exact h.1.2.2.2.2.2.2.1
  | _ => exact Int.le_refl _
theorem prL_1 {n : Nat} : ∀ {ss : List S}, (∀ s ∈ ss, Dr n s) → 1 ≤ prL ss
  | [], _ => Int.le_refl _
  | s :: r, h => by
    have h1 := dvL_1 (h s List.mem_cons_self)
    have h2 := prL_1 (ss := r) fun t ht => h t (List.mem_cons_of_mem _ ht)
    have := Int.mul_le_mul h1 h2 (by decide) (by omega)
    simpa [prL] using this
def dvO (o : Option S) : Int := match o with | some s => dvL s | none => 1
theorem g_plainL {n m : Nat} (hn : n = 2 ∨ n = 3) {p : List D} (hp : Pool m p) (hm : m ≤ 9000) : ∃ (s : S) (p' : List D), G_law_plain [.rf 0, .fz (.int n)] [p] = some (.val (enc s), [p']) ∧ Dr n s ∧ Pool (m + 3) p' ∧ dvL s = 1 := by
  obtain ⟨d, p1, e1, a1, a2, hp1⟩ := g_draw (many := 2) hp (by decide) (by decide) (by omega)
  by_cases hd : d = 0
  · subst hd
    obtain ⟨c, p2, e2, b1, b2, hp2⟩ := g_draw (many := n) hp1 (by omega) (by omega) (by omega)
    obtain ⟨c, rfl⟩ := Int.eq_ofNat_of_zero_le b1
    refine ⟨.turn c, p2, ?_, ⟨show c < n by omega, fun _ _ _ _ e => by cases e⟩, hp2.up (by omega), rfl⟩
    unfold G_law_plain f_law_plain
    simp [fnD, sSeq, sSet, sDrop, sRet, sRetN, sIf, sAsg, sPar, sFor, forD, dC, dVar, dOp, der, ders, frz, frzs, dTup, dLst, aNil, aCons, aStar, PK.mk, dCB, PK.g1, PK.g2, lenD, absD, maxD, minD, PK.intD, listD, tupD, sumD, allD, intsD, bls, addD, subD, mulD, divD, modD, powD, cmpD, ixD, atI, ixN, dUn, negD, dB, truD, bNot, bAnd, bOr, bYes, dAndV, dOrV, dNotV, dChain, dFld, recvOk, dIsi, tyD, kitB, dCallN, callG, refs, renum, lives, PK.putAll, hNm, hSub, hNil, hCons, hTup, setIx, asgT, setAll, dMt, appD, extD, dLc, lcGo, wipeD, iSq, iRg1, iRg2, iZipD, iEnumD, iRevD, srcOf, rangeD, zipD, small, itemsD, List.range, List.range.loop, eqD_int, dSl, dRev, slD, cutD, okR, sNext, sNever, sBrk, sCnt, dMake, makeG, PK.initD, iSeq, iDrop, iSet, iFld, dMeth, dIfE, isND, PK.isNon, oSome, oNone, HT.sIx, e1, e2, enc]
  · obtain ⟨c, p2, e2, b1, b2, hp2⟩ := g_draw (many := (n : Int) - 1) hp1 (by omega) (by omega) (by omega)
    obtain ⟨c, rfl⟩ := Int.eq_ofNat_of_zero_le b1
    obtain ⟨k, p3, e3, c1, c2, hp3⟩ := g_draw (many := (n : Int) - 1 - c) hp2 (by omega) (by omega) (by omega)
    obtain ⟨k, rfl⟩ := Int.eq_ofNat_of_zero_le c1
    refine ⟨.swap c (c + 1 + k), p3, ?_, ⟨⟨by omega, by omega⟩, fun _ _ _ _ e => by cases e⟩, hp3.up (by omega), rfl⟩
    unfold G_law_plain f_law_plain
    simp [fnD, sSeq, sSet, sDrop, sRet, sRetN, sIf, sAsg, sPar, sFor, forD, dC, dVar, dOp, der, ders, frz, frzs, dTup, dLst, aNil, aCons, aStar, PK.mk, dCB, PK.g1, PK.g2, lenD, absD, maxD, minD, PK.intD, listD, tupD, sumD, allD, intsD, bls, addD, subD, mulD, divD, modD, powD, cmpD, ixD, atI, ixN, dUn, negD, dB, truD, bNot, bAnd, bOr, bYes, dAndV, dOrV, dNotV, dChain, dFld, recvOk, dIsi, tyD, kitB, dCallN, callG, refs, renum, lives, PK.putAll, hNm, hSub, hNil, hCons, hTup, setIx, asgT, setAll, dMt, appD, extD, dLc, lcGo, wipeD, iSq, iRg1, iRg2, iZipD, iEnumD, iRevD, srcOf, rangeD, zipD, small, itemsD, List.range, List.range.loop, eqD_int, dSl, dRev, slD, cutD, okR, sNext, sNever, sBrk, sCnt, dMake, makeG, PK.initD, iSeq, iDrop, iSet, iFld, dMeth, dIfE, isND, PK.isNon, oSome, oNone, HT.sIx, e1, e2, e3, enc, hd]
theorem nice_encs {ss : List S} : ∀ x ∈ encs ss, Nice 2 x := fun x hx => by
  obtain ⟨s, _, rfl⟩ := List.mem_map.mp hx
  exact nice_enc s
/-- the state of the loop that draws steps -/
def mv (n : Nat) (T R0 : Int) (p : List D) (R : Int) (acc : List D) (x6 x7 x8 : Option Vl) : Dl := ⟨[some (.rf 0), some (.fz (.int n)), some (.fz (.int T)), some (.fz (.int R0)), some (.rf 1), some (.rf 2), x6, x7, x8], [some p, some [.int R], some acc]⟩
noncomputable def mA : SF := sPar [7, 8] (aCons (dCallN false 2 G_law_draw (aCons (dVar 0) (aCons (dC (.int 9)) aNil))) (aCons (dC .non) aNil))
noncomputable def mB1 : SF := sSet 8 (dOp ixD (dLst false (aCons (dOp ixD (dVar 5) (dUn negD (dC (.int 1)))) (aCons (dCallN false 1 G_law_back (aCons (dOp ixD (dVar 5) (dUn negD (dC (.int 1)))) aNil)) aNil))) (dOp subD (dVar 7) (dC (.int 7))))
def mB2 : SF := sIf (bAnd (dB (dOp (eqD false) (dOp ixD (dVar 8) (dC (.int 0))) (dC (.str "lift")))) (bOr (dB (dOp gtD (dOp ixD (dVar 8) (dC (.int 4))) (dOp ixD (dVar 4) (dC (.int 0))))) (dB (dOp gtD (dCB absD (aCons (dOp ixD (dVar 8) (dC (.int 3))) aNil)) (dC (.int 20)))))) (sSet 8 (dC .non)) (sIf (dB (dOp (eqD false) (dOp ixD (dVar 8) (dC (.int 0))) (dC (.str "lift")))) (sAsg (hSub (dVar 4) (dC (.int 0))) (dOp divD (dOp ixD (dVar 4) (dC (.int 0))) (dOp ixD (dVar 8) (dC (.int 4))))) sNext)
noncomputable def mB : SF := sIf (bAnd (dB (dOp (eqD true) (dVar 5) (dLst false aNil))) (dB (dOp gtD (dVar 7) (dC (.int 6))))) (sSeq mB1 mB2) sNext
noncomputable def mC : SF := sIf (dB (dOp isND (dVar 8) (dC .non))) (sSet 8 (dIfE (dB (dOp gtD (dVar 7) (dC (.int 2)))) (dCallN false 3 G_law_lift (aCons (dVar 0) (aCons (dVar 1) (aCons (dVar 4) aNil)))) (dCallN false 2 G_law_plain (aCons (dVar 0) (aCons (dVar 1) aNil))))) sNext
def mD : SF := sDrop (dMt appD (dVar 5) (aCons (dVar 8) aNil))
theorem f_moves_eq : f_law_moves = sSeq (sPar [4, 5] (aCons (dLst true (aCons (dVar 3) aNil)) (aCons (dLst true aNil) aNil))) (sSeq (sFor (iRg1 (dCallN false 2 G_law_draw (aCons (dVar 0) (aCons (dOp (addD false) (dVar 2) (dC (.int 1))) aNil)))) (.nm 6) (sSeq mA (sSeq mB (sSeq mC mD)))) (sRet (dVar 5))) := rfl
section
variable {n m : Nat} {T R0 R : Int} {p acc : List D} {x6 x7 x8 : Option Vl}
theorem d_mA (hp : Pool m p) (hm : m ≤ 9000) : ∃ w p', 0 ≤ w ∧ w < 9 ∧ Pool (m + 1) p' ∧ mA (mv n T R0 p R acc x6 x7 x8) = some (.nx, mv n T R0 p' R acc x6 (some (.fz (.int w))) (some (.fz .non))) := by
  obtain ⟨w, p', e, h1, h2, h3⟩ := g_draw (many := 9) hp (by decide) (by decide) (by omega)
  refine ⟨w, p', h1, h2, h3, ?_⟩
  have e' := cl1 (G := G_law_draw) (m := false) (n := 2) (fa := aCons (dVar 0) (aCons (dC (.int 9)) aNil)) (δ := mv n T R0 p R acc x6 x7 x8) (k := 0) rfl rfl rfl rfl e
  unfold mA
  rw [sPar2 (aC e' (aC rfl rfl))]
  rfl
theorem d_mB1 {ss : List S} {s : S} {w : Int} (hn : n = 2 ∨ n = 3) (h : Ok n s) (hw : w = 7 ∨ w = 8) : mB1 (mv n T R0 p R (encs ss ++ [enc s]) x6 (some (.fz (.int w))) x8) = some (.nx, mv n T R0 p R (encs ss ++ [enc s]) x6 (some (.fz (.int w))) (some (.fz (enc (if w = 7 then s else back s))))) := by
  have e1 : dOp ixD (dVar 5) (dUn negD (dC (.int 1))) (mv n T R0 p R (encs ss ++ [enc s]) x6 (some (.fz (.int w))) x8) = some (.fz (enc s), mv n T R0 p R (encs ss ++ [enc s]) x6 (some (.fz (.int w))) x8) := by
    have h4 : atI (encs ss ++ [enc s]) (-1) = some (enc s) := atI_last _ _
    simp [mv, dOp, dVar, dUn, dC, negD, der, ixD, h4]
  have e2 := cl0 (G := G_law_back) (m := false) (n := 1) (fa := aCons (dOp ixD (dVar 5) (dUn negD (dC (.int 1)))) aNil) (aC e1 rfl) rfl rfl (g_back hn h)
  have e3 : dLst false (aCons (dOp ixD (dVar 5) (dUn negD (dC (.int 1)))) (aCons (dCallN false 1 G_law_back (aCons (dOp ixD (dVar 5) (dUn negD (dC (.int 1)))) aNil)) aNil)) (mv n T R0 p R (encs ss ++ [enc s]) x6 (some (.fz (.int w))) x8) = some (.fz (.lst [enc s, enc (back s)]), mv n T R0 p R (encs ss ++ [enc s]) x6 (some (.fz (.int w))) x8) := by
    rw [dLst, aC e1 (aC e2 rfl)]
    rfl
  have e4 : dOp subD (dVar 7) (dC (.int 7)) (mv n T R0 p R (encs ss ++ [enc s]) x6 (some (.fz (.int w))) x8) = some (.fz (.int (w - 7)), mv n T R0 p R (encs ss ++ [enc s]) x6 (some (.fz (.int w))) x8) := rfl
  have e5 : dOp ixD (dLst false (aCons (dOp ixD (dVar 5) (dUn negD (dC (.int 1)))) (aCons (dCallN false 1 G_law_back (aCons (dOp ixD (dVar 5) (dUn negD (dC (.int 1)))) aNil)) aNil))) (dOp subD (dVar 7) (dC (.int 7))) (mv n T R0 p R (encs ss ++ [enc s]) x6 (some (.fz (.int w))) x8) = some (.fz (enc (if w = 7 then s else back s)), mv n T R0 p R (encs ss ++ [enc s]) x6 (some (.fz (.int w))) x8) := by
    rcases hw with rfl | rfl
    · rw [dOp, e3]
      simp [e4, der, ixD, atI, ixN]
    · rw [dOp, e3]
      simp [e4, der, ixD, atI, ixN]
  unfold mB1
  rw [sSet_ e5]
  rfl
theorem d_mB2 {t : S} (h : Ok n t) (h1 : 1 ≤ R) (h2 : R ≤ 12) : ∃ R' o, (o = Option.none ∨ ∃ s, o = some s ∧ Dr n s) ∧ 1 ≤ R' ∧ R' ≤ 12 ∧ dvO o * R' ≤ R ∧ mB2 (mv n T R0 p R acc x6 x7 (some (.fz (enc t)))) = some (.nx, mv n T R0 p R' acc x6 x7 (some (.fz (match o with | some s => enc s | none => .non)))) := by
  cases t with
  | lift c ws a d =>
    obtain ⟨g1, g2, g3, g4, g5, g6, g7, g8⟩ := id h
    by_cases hd : R < d
    · refine ⟨R, Option.none, .inl rfl, h1, h2, (by simp [dvO]), ?_⟩
      unfold mB2
      simp [fnD, sSeq, sSet, sDrop, sRet, sRetN, sIf, sAsg, sPar, sFor, forD, dC, dVar, dOp, der, ders, frz, frzs, dTup, dLst, aNil, aCons, aStar, PK.mk, dCB, PK.g1, PK.g2, lenD, absD, maxD, minD, PK.intD, listD, tupD, sumD, allD, intsD, bls, addD, subD, mulD, divD, modD, powD, cmpD, ixD, atI, ixN, dUn, negD, dB, truD, bNot, bAnd, bOr, bYes, dAndV, dOrV, dNotV, dChain, dFld, recvOk, dIsi, tyD, kitB, dCallN, callG, refs, renum, lives, PK.putAll, hNm, hSub, hNil, hCons, hTup, setIx, asgT, setAll, dMt, appD, extD, dLc, lcGo, wipeD, iSq, iRg1, iRg2, iZipD, iEnumD, iRevD, srcOf, rangeD, zipD, small, itemsD, List.range, List.range.loop, eqD_int, dSl, dRev, slD, cutD, okR, sNext, sNever, sBrk, sCnt, dMake, makeG, PK.initD, iSeq, iDrop, iSet, iFld, dMeth, dIfE, isND, PK.isNon, oSome, oNone, HT.sIx, mv, enc, q1, hd]
    · by_cases ha : 20 < (if a < 0 then -a else a)
      · refine ⟨R, Option.none, .inl rfl, h1, h2, (by simp [dvO]), ?_⟩
        unfold mB2
        simp [fnD, sSeq, sSet, sDrop, sRet, sRetN, sIf, sAsg, sPar, sFor, forD, dC, dVar, dOp, der, ders, frz, frzs, dTup, dLst, aNil, aCons, aStar, PK.mk, dCB, PK.g1, PK.g2, lenD, absD, maxD, minD, PK.intD, listD, tupD, sumD, allD, intsD, bls, addD, subD, mulD, divD, modD, powD, cmpD, ixD, atI, ixN, dUn, negD, dB, truD, bNot, bAnd, bOr, bYes, dAndV, dOrV, dNotV, dChain, dFld, recvOk, dIsi, tyD, kitB, dCallN, callG, refs, renum, lives, PK.putAll, hNm, hSub, hNil, hCons, hTup, setIx, asgT, setAll, dMt, appD, extD, dLc, lcGo, wipeD, iSq, iRg1, iRg2, iZipD, iEnumD, iRevD, srcOf, rangeD, zipD, small, itemsD, List.range, List.range.loop, eqD_int, dSl, dRev, slD, cutD, okR, sNext, sNever, sBrk, sCnt, dMake, makeG, PK.initD, iSeq, iDrop, iSet, iFld, dMeth, dIfE, isND, PK.isNon, oSome, oNone, HT.sIx, mv, enc, q1, hd, ha]
      · refine ⟨R / d, some (.lift c ws a d), .inr ⟨_, rfl, h, fun c' ws' m' d' e => ?_⟩, (Int.le_ediv_iff_mul_le (by omega)).mpr (by omega), Int.le_trans (Int.ediv_le_self _ (by omega)) h2, (show d * (R / d) ≤ R from Int.mul_ediv_self_le (by omega)), ?_⟩
        · cases e
          split at ha <;> omega
        · have e3 : okDiv d = true := okDiv_of g7 (by omega)
          unfold mB2
          simp [fnD, sSeq, sSet, sDrop, sRet, sRetN, sIf, sAsg, sPar, sFor, forD, dC, dVar, dOp, der, ders, frz, frzs, dTup, dLst, aNil, aCons, aStar, PK.mk, dCB, PK.g1, PK.g2, lenD, absD, maxD, minD, PK.intD, listD, tupD, sumD, allD, intsD, bls, addD, subD, mulD, divD, modD, powD, cmpD, ixD, atI, ixN, dUn, negD, dB, truD, bNot, bAnd, bOr, bYes, dAndV, dOrV, dNotV, dChain, dFld, recvOk, dIsi, tyD, kitB, dCallN, callG, refs, renum, lives, PK.putAll, hNm, hSub, hNil, hCons, hTup, setIx, asgT, setAll, dMt, appD, extD, dLc, lcGo, wipeD, iSq, iRg1, iRg2, iZipD, iEnumD, iRevD, srcOf, rangeD, zipD, small, itemsD, List.range, List.range.loop, eqD_int, dSl, dRev, slD, cutD, okR, sNext, sNever, sBrk, sCnt, dMake, makeG, PK.initD, iSeq, iDrop, iSet, iFld, dMeth, dIfE, isND, PK.isNon, oSome, oNone, HT.sIx, mv, enc, q1, hd, ha, e3]
  | swap i j =>
    refine ⟨R, some (.swap i j), .inr ⟨_, rfl, h, fun c' ws' m' d' e => by cases e⟩, h1, h2, (by simp [dvO, dvL]), ?_⟩
    unfold mB2
    simp [fnD, sSeq, sSet, sDrop, sRet, sRetN, sIf, sAsg, sPar, sFor, forD, dC, dVar, dOp, der, ders, frz, frzs, dTup, dLst, aNil, aCons, aStar, PK.mk, dCB, PK.g1, PK.g2, lenD, absD, maxD, minD, PK.intD, listD, tupD, sumD, allD, intsD, bls, addD, subD, mulD, divD, modD, powD, cmpD, ixD, atI, ixN, dUn, negD, dB, truD, bNot, bAnd, bOr, bYes, dAndV, dOrV, dNotV, dChain, dFld, recvOk, dIsi, tyD, kitB, dCallN, callG, refs, renum, lives, PK.putAll, hNm, hSub, hNil, hCons, hTup, setIx, asgT, setAll, dMt, appD, extD, dLc, lcGo, wipeD, iSq, iRg1, iRg2, iZipD, iEnumD, iRevD, srcOf, rangeD, zipD, small, itemsD, List.range, List.range.loop, eqD_int, dSl, dRev, slD, cutD, okR, sNext, sNever, sBrk, sCnt, dMake, makeG, PK.initD, iSeq, iDrop, iSet, iFld, dMeth, dIfE, isND, PK.isNon, oSome, oNone, HT.sIx, mv, enc, q2]
  | turn i =>
    refine ⟨R, some (.turn i), .inr ⟨_, rfl, h, fun c' ws' m' d' e => by cases e⟩, h1, h2, (by simp [dvO, dvL]), ?_⟩
    unfold mB2
    simp [fnD, sSeq, sSet, sDrop, sRet, sRetN, sIf, sAsg, sPar, sFor, forD, dC, dVar, dOp, der, ders, frz, frzs, dTup, dLst, aNil, aCons, aStar, PK.mk, dCB, PK.g1, PK.g2, lenD, absD, maxD, minD, PK.intD, listD, tupD, sumD, allD, intsD, bls, addD, subD, mulD, divD, modD, powD, cmpD, ixD, atI, ixN, dUn, negD, dB, truD, bNot, bAnd, bOr, bYes, dAndV, dOrV, dNotV, dChain, dFld, recvOk, dIsi, tyD, kitB, dCallN, callG, refs, renum, lives, PK.putAll, hNm, hSub, hNil, hCons, hTup, setIx, asgT, setAll, dMt, appD, extD, dLc, lcGo, wipeD, iSq, iRg1, iRg2, iZipD, iEnumD, iRevD, srcOf, rangeD, zipD, small, itemsD, List.range, List.range.loop, eqD_int, dSl, dRev, slD, cutD, okR, sNext, sNever, sBrk, sCnt, dMake, makeG, PK.initD, iSeq, iDrop, iSet, iFld, dMeth, dIfE, isND, PK.isNon, oSome, oNone, HT.sIx, mv, enc, q3]
end
end K51

set_option maxHeartbeats 0
namespace K51
open PySem L2 PK
def od (o : Option S) : D := match o with | some s => enc s | none => .non
section
variable {n m : Nat} {T R0 R : Int} {p : List D} {x6 x7 x8 : Option Vl}
theorem d_cond {ss : List S} {w : Int} : bAnd (dB (dOp (eqD true) (dVar 5) (dLst false aNil))) (dB (dOp gtD (dVar 7) (dC (.int 6)))) (mv n T R0 p R (encs ss) x6 (some (.fz (.int w))) x8) = some (decide (ss ≠ [] ∧ 6 < w), mv n T R0 p R (encs ss) x6 (some (.fz (.int w))) x8) := by
  have e1 : dLst false aNil (mv n T R0 p R (encs ss) x6 (some (.fz (.int w))) x8) = some (.fz (.lst []), mv n T R0 p R (encs ss) x6 (some (.fz (.int w))) x8) := rfl
  cases ss with
  | nil =>
    have e2 : dB (dOp (eqD true) (dVar 5) (dLst false aNil)) (mv n T R0 p R (encs []) x6 (some (.fz (.int w))) x8) = some (false, mv n T R0 p R (encs []) x6 (some (.fz (.int w))) x8) := by
      have e3 := eqD_nil (neg := true) (δ := mv n T R0 p R (encs []) x6 (some (.fz (.int w))) x8)
      exact dB_ ((dOp_ rfl e1 rfl rfl).trans e3)
    simp [bAnd, e2]
  | cons s ss =>
    have e2 : dB (dOp (eqD true) (dVar 5) (dLst false aNil)) (mv n T R0 p R (encs (s :: ss)) x6 (some (.fz (.int w))) x8) = some (true, mv n T R0 p R (encs (s :: ss)) x6 (some (.fz (.int w))) x8) := by
      have e3 := eqD_ne (k := 2) (neg := true) (δ := mv n T R0 p R (encs (s :: ss)) x6 (some (.fz (.int w))) x8) (acc := encs (s :: ss)) (by simp [encs]) nice_encs (by decide)
      exact dB_ ((dOp_ rfl e1 rfl rfl).trans e3)
    rw [bAnd, e2]
    simp [mv, dB, dOp, dVar, dC, der, cmpD, truD]
theorem d_mB {ss : List S} {w : Int} (hn : n = 2 ∨ n = 3) (hs : ∀ s ∈ ss, Dr n s) (hw : w < 9) (h1 : 1 ≤ R) (h2 : R ≤ 12) : ∃ R' o, (o = Option.none ∨ ∃ s, o = some s ∧ Dr n s) ∧ 1 ≤ R' ∧ R' ≤ 12 ∧ dvO o * R' ≤ R ∧
    mB (mv n T R0 p R (encs ss) x6 (some (.fz (.int w))) (some (.fz .non))) = some (.nx, mv n T R0 p R' (encs ss) x6 (some (.fz (.int w))) (some (.fz (od o)))) := by
  unfold mB
  rw [sIf_ d_cond]
  by_cases hc : ss ≠ [] ∧ 6 < w
  · rw [decide_eq_true hc, if_pos rfl]
    obtain ⟨ts, s, rfl⟩ : ∃ ts s, ss = ts ++ [s] := ⟨ss.dropLast, ss.getLast hc.1, (List.dropLast_concat_getLast hc.1).symm⟩
    have hs1 := hs s (by simp)
    have ee : encs (ts ++ [s]) = encs ts ++ [enc s] := by simp [encs]
    rw [ee, sSeq_nx (d_mB1 hn hs1.1 (by omega))]
    have ht : Ok n (if w = 7 then s else back s) := by
      split
      · exact hs1.1
      · exact ok_back hs1.1 fun c ws a d e => by have := hs1.2 c ws a d e; omega
    obtain ⟨R', o, g1, g2, g3, g4, g5⟩ := d_mB2 (T := T) (R0 := R0) (p := p) (acc := encs ts ++ [enc s]) (x6 := x6) (x7 := some (.fz (.int w))) ht h1 h2
    exact ⟨R', o, g1, g2, g3, g4, g5⟩
  · rw [decide_eq_false hc, if_neg Bool.false_ne_true]
    exact ⟨R, Option.none, .inl rfl, h1, h2, (by simp [dvO]), rfl⟩
theorem d_mC {acc : List D} {w : Int} {o : Option S} (hn : n = 2 ∨ n = 3) (ho : o = Option.none ∨ ∃ s, o = some s ∧ Dr n s) (hp : Pool m p) (hm : m ≤ 7000) (h1 : 1 ≤ R) (h2 : R ≤ 12) : ∃ R' p' s, Dr n s ∧ 1 ≤ R' ∧ R' ≤ 12 ∧ dvL s * R' ≤ dvO o * R ∧ Pool (m + 10) p' ∧
    mC (mv n T R0 p R acc x6 (some (.fz (.int w))) (some (.fz (od o)))) = some (.nx, mv n T R0 p' R' acc x6 (some (.fz (.int w))) (some (.fz (enc s)))) := by
  rcases ho with rfl | ⟨s, rfl, hs⟩
  · have e1 : dB (dOp isND (dVar 8) (dC .non)) (mv n T R0 p R acc x6 (some (.fz (.int w))) (some (.fz (od Option.none)))) = some (true, mv n T R0 p R acc x6 (some (.fz (.int w))) (some (.fz (od Option.none)))) := rfl
    unfold mC
    rw [sIf_ e1, if_pos rfl]
    have e2 : dB (dOp gtD (dVar 7) (dC (.int 2))) (mv n T R0 p R acc x6 (some (.fz (.int w))) (some (.fz (od Option.none)))) = some (decide (2 < w), mv n T R0 p R acc x6 (some (.fz (.int w))) (some (.fz (od Option.none)))) := rfl
    by_cases hw : 2 < w
    · obtain ⟨s, R', p', e3, g1, g2, g3, g4, _, _, _, _, rfl, g6⟩ := g_lift hn hp hm h1 h2
      have e4 := cl2 (G := G_law_lift) (m := false) (n := 3) (fa := aCons (dVar 0) (aCons (dVar 1) (aCons (dVar 4) aNil))) (δ := mv n T R0 p R acc x6 (some (.fz (.int w))) (some (.fz (od Option.none)))) (k := 0) (l := 1) rfl rfl rfl (by decide) rfl rfl e3
      refine ⟨R', p', _, g1, g2, g3, (by simpa [dvO, dvL] using g6), g4, ?_⟩
      rw [sSet, dIfE, e2, Option.bind_some, if_pos (decide_eq_true hw), e4]
      rfl
    · obtain ⟨s, p', e3, g1, g4, gl⟩ := g_plainL hn hp (by omega)
      have e4 := cl1 (G := G_law_plain) (m := false) (n := 2) (fa := aCons (dVar 0) (aCons (dVar 1) aNil)) (δ := mv n T R0 p R acc x6 (some (.fz (.int w))) (some (.fz (od Option.none)))) (k := 0) rfl rfl rfl rfl e3
      refine ⟨R, p', s, g1, h1, h2, (by simp [dvO, gl]), g4.up (by omega), ?_⟩
      rw [sSet, dIfE, e2, Option.bind_some, if_neg (by simp [hw]), e4]
      rfl
  · have e1 : dB (dOp isND (dVar 8) (dC .non)) (mv n T R0 p R acc x6 (some (.fz (.int w))) (some (.fz (od (some s))))) = some (false, mv n T R0 p R acc x6 (some (.fz (.int w))) (some (.fz (od (some s))))) := by
      cases s <;> rfl
    unfold mC
    rw [sIf_ e1, if_neg Bool.false_ne_true]
    exact ⟨R, p, s, hs, h1, h2, Int.le_refl _, hp.up (by omega), rfl⟩
theorem d_mD {ss : List S} {s : S} (hl : ss.length ≤ 100) : mD (mv n T R0 p R (encs ss) x6 x7 (some (.fz (enc s)))) = some (.nx, mv n T R0 p R (encs (ss ++ [s])) x6 x7 (some (.fz (enc s)))) := by
  have h3 : (encs ss).length < small := by simp [encs, small]; omega
  have ee : encs (ss ++ [s]) = encs ss ++ [enc s] := by simp [encs]
  unfold mD
  simp [mv, sDrop, dMt, dVar, aCons, aNil, frzs, frz, appD, h3, ee]
end
theorem g_moves {n m : Nat} {T R0 : Int} {p : List D} (hn : n = 2 ∨ n = 3) (hT : 0 ≤ T ∧ T ≤ 6) (hp : Pool m p) (hm : m ≤ 6000) (h1 : 1 ≤ R0) (h2 : R0 ≤ 12) : ∃ ss p', G_law_moves [.rf 0, .fz (.int n), .fz (.int T), .fz (.int R0)] [p] = some (.fresh (encs ss), [p']) ∧ (∀ s ∈ ss, Dr n s) ∧ (ss.length : Int) ≤ T ∧ prL ss ≤ R0 ∧ Pool (m + 67) p' := by
  obtain ⟨k, p1, e1, a1, a2, hp1⟩ := g_draw (many := T + 1) hp (by omega) (by omega) (by omega)
  obtain ⟨k, rfl⟩ := Int.eq_ofNat_of_zero_le a1
  obtain ⟨δ', e2, ⟨p2, R2, ss, x6, x7, x8, rfl, b1, b2, b3, b4, b5, b6⟩⟩ := forD_inv (tg := .nm 6) (body := sSeq mA (sSeq mB (sSeq mC mD))) (ck := []) (fun i δ => ∃ p R ss x6 x7 x8, δ = mv n T R0 p R (encs ss) x6 x7 x8 ∧ Pool (m + 1 + 11 * i) p ∧ 1 ≤ R ∧ R ≤ 12 ∧ (∀ s ∈ ss, Dr n s) ∧ ss.length ≤ i ∧ prL ss * R ≤ R0) (fun i δ _ => by simp) (rangeD 0 k) 0 (mv n T R0 p1 R0 (encs []) none none none) ⟨p1, R0, [], none, none, none, rfl, hp1, h1, h2, by simp, by simp, by simp [prL]⟩ (by
      rintro j d δ hj ⟨p, R, ss, x6, x7, x8, rfl, c1, c2, c3, c4, c5, c6⟩
      have hj7 : j < 7 := by
        obtain ⟨hlt, _⟩ := List.getElem?_eq_some_iff.mp hj
        simp [rangeD] at hlt
        omega
      refine ⟨_, rfl, ?_⟩
      obtain ⟨w, p3, w0, w9, hp3, e3⟩ := d_mA (n := n) (T := T) (R0 := R0) (R := R) (acc := encs ss) (x6 := some (.fz d)) (x7 := x7) (x8 := x8) c1 (by omega)
      obtain ⟨R4, o, ho, r1, r2, q4, e4⟩ := d_mB (T := T) (R0 := R0) (p := p3) (x6 := some (.fz d)) hn c4 w9 c2 c3
      obtain ⟨R5, p5, s, hs, r3, r4, q5, hp5, e5⟩ := d_mC (T := T) (R0 := R0) (acc := encs ss) (x6 := some (.fz d)) (w := w) hn ho hp3 (by omega) r1 r2
      have e6 := d_mD (n := n) (T := T) (R0 := R0) (R := R5) (p := p5) (x6 := some (.fz d)) (x7 := some (.fz (.int w))) (ss := ss) (s := s) (by omega)
      refine ⟨mv n T R0 p5 R5 (encs (ss ++ [s])) (some (.fz d)) (some (.fz (.int w))) (some (.fz (enc s))), ?_, p5, R5, ss ++ [s], _, _, _, rfl, hp5.up (by omega), r3, r4, ?_, by simp; omega, ?_⟩
      · show sSeq mA (sSeq mB (sSeq mC mD)) (mv n T R0 p R (encs ss) (some (.fz d)) x7 x8) = _
        rw [sSeq_nx e3, sSeq_nx e4, sSeq_nx e5, e6]
      · intro t ht
        rcases List.mem_append.mp ht with h | h
        · exact c4 t h
        · rw [List.mem_singleton.mp h]; exact hs
      · have q := prL_1 c4
        rw [prL_app, Int.mul_assoc]
        exact Int.le_trans (Int.mul_le_mul_of_nonneg_left (Int.le_trans q5 q4) (by omega)) c6)
  have hl : (rangeD 0 k).length = k := by simp [rangeD]
  have q := prL_1 b4
  have b7 : prL ss ≤ R0 := by
    have := Int.mul_le_mul_of_nonneg_left b2 (show 0 ≤ prL ss by omega)
    omega
  refine ⟨ss, p2, ?_, b4, by omega, b7, b1.up (by omega)⟩
  unfold G_law_moves fnD
  rw [f_moves_eq]
  have s1 : sPar [4, 5] (aCons (dLst true (aCons (dVar 3) aNil)) (aCons (dLst true aNil) aNil)) ⟨[some (.rf 0), some (.fz (.int n)), some (.fz (.int T)), some (.fz (.int R0)), none, none, none, none, none], [some p]⟩ = some (.nx, mv n T R0 p R0 (encs []) none none none) := rfl
  have e7 := cl1 (G := G_law_draw) (m := false) (n := 2) (fa := aCons (dVar 0) (aCons (dOp (addD false) (dVar 2) (dC (.int 1))) aNil)) (δ := mv n T R0 p R0 (encs []) none none none) (k := 0) rfl rfl rfl rfl e1
  have s2 : iRg1 (dCallN false 2 G_law_draw (aCons (dVar 0) (aCons (dOp (addD false) (dVar 2) (dC (.int 1))) aNil))) (mv n T R0 p R0 (encs []) none none none) = some (rangeD 0 k, [], mv n T R0 p1 R0 (encs []) none none none) := by
    rw [iRg1, e7, Option.bind_some]
    simp [okR, mv, show (k : Int) < 4611686018427387904 by omega, show (-4611686018427387904 : Int) ≤ k by omega]
  have s3 : sFor (iRg1 (dCallN false 2 G_law_draw (aCons (dVar 0) (aCons (dOp (addD false) (dVar 2) (dC (.int 1))) aNil)))) (.nm 6) (sSeq mA (sSeq mB (sSeq mC mD))) (mv n T R0 p R0 (encs []) none none none) = some (.nx, mv n T R0 p2 R2 (encs ss) x6 x7 x8) := by
    rw [sFor, s2]
    exact e2
  show ((sSeq _ (sSeq _ _) ⟨[some (.rf 0), some (.fz (.int n)), some (.fz (.int T)), some (.fz (.int R0)), none, none, none, none, none], [some p]⟩).bind _) = _
  rw [sSeq_nx s1, sSeq_nx s3]
  simp [sRet, dVar, mv, lives, List.range, List.range.loop]
end K51

set_option maxHeartbeats 0
namespace K51
open PySem L2 PK
/-! ### a chain made of a changing list -/
theorem g_checkR {n : Nat} (hn : n = 2 ∨ n = 3) {ss : List S} (h : ∀ s ∈ ss, Ok n s) : G_check_chain [.fz (.int n), .rf 0] [encs ss] = some (.val .non, [encs ss]) := by
  have loop : ∀ (C : List D) (ss : List S) (i : Nat) (a b : Option Vl), (∀ s ∈ ss, Ok n s) → ∃ a' b', forD [(0, C)] (.tp [2, 3]) (sIf (bNot (dB (dCallN false 2 G_is_step (aCons (dVar 0) (aCons (dVar 3) aNil))))) sNever sNext) (enumD i (encs ss)) ⟨[some (.fz (.int n)), some (.rf 0), a, b], [some C]⟩ = some (.nx, ⟨[some (.fz (.int n)), some (.rf 0), a', b'], [some C]⟩) := by
    intro C ss
    induction ss with
    | nil => intro i a b _; exact ⟨a, b, by simp [encs, enumD, forD]⟩
    | cons s ss ih =>
      intro i a b hs
      obtain ⟨a', b', e⟩ := ih (i + 1) (some (.fz (.int i))) (some (.fz (enc s))) fun x hx => hs x (List.mem_cons_of_mem _ hx)
      refine ⟨a', b', ?_⟩
      have e1 := g_is_step hn (hs s List.mem_cons_self)
      simp only [encs, List.map_cons, enumD]
      rw [forD]
      rw [← e]
      simp [fnD, sSeq, sSet, sDrop, sRet, sRetN, sIf, sAsg, sPar, sFor, forD, dC, dVar, dOp, der, ders, frz, frzs, dTup, dLst, aNil, aCons, aStar, PK.mk, dCB, PK.g1, PK.g2, lenD, absD, maxD, minD, PK.intD, listD, tupD, sumD, allD, intsD, bls, addD, subD, mulD, divD, modD, powD, cmpD, ixD, atI, ixN, dUn, negD, dB, truD, bNot, bAnd, bOr, bYes, dAndV, dOrV, dNotV, dChain, dFld, recvOk, dIsi, tyD, kitB, dCallN, callG, refs, renum, lives, PK.putAll, hNm, hSub, hNil, hCons, hTup, setIx, asgT, setAll, dMt, appD, extD, dLc, lcGo, wipeD, iSq, iRg1, iRg2, iZipD, iEnumD, iRevD, srcOf, rangeD, zipD, small, itemsD, List.range, List.range.loop, eqD_int, dSl, dRev, slD, cutD, okR, sNext, sNever, sBrk, sCnt, dMake, makeG, PK.initD, iSeq, iDrop, iSet, iFld, dMeth, dIfE, isND, PK.isNon, oSome, oNone, HT.sIx, e1]
      rfl
  obtain ⟨a', b', e⟩ := loop (encs ss) ss 0 none none h
  unfold G_check_chain f_check_chain
  simp [fnD, sSeq, sSet, sDrop, sRet, sRetN, sIf, sAsg, sPar, sFor, forD, dC, dVar, dOp, der, ders, frz, frzs, dTup, dLst, aNil, aCons, aStar, PK.mk, dCB, PK.g1, PK.g2, lenD, absD, maxD, minD, PK.intD, listD, tupD, sumD, allD, intsD, bls, addD, subD, mulD, divD, modD, powD, cmpD, ixD, atI, ixN, dUn, negD, dB, truD, bNot, bAnd, bOr, bYes, dAndV, dOrV, dNotV, dChain, dFld, recvOk, dIsi, tyD, kitB, dCallN, callG, refs, renum, lives, PK.putAll, hNm, hSub, hNil, hCons, hTup, setIx, asgT, setAll, dMt, appD, extD, dLc, lcGo, wipeD, iSq, iRg1, iRg2, iZipD, iEnumD, iRevD, srcOf, rangeD, zipD, small, itemsD, List.range, List.range.loop, eqD_int, dSl, dRev, slD, cutD, okR, sNext, sNever, sBrk, sCnt, dMake, makeG, PK.initD, iSeq, iDrop, iSet, iFld, dMeth, dIfE, isND, PK.isNon, oSome, oNone, HT.sIx, inD23 hn, e]
theorem g_initR {n : Nat} (hn : n = 2 ∨ n = 3) {ss : List S} (h : ∀ s ∈ ss, Ok n s) : G_Chain_init [.fz (.int n), .rf 0] [encs ss] = some (fsC, [.int n, .lst (encs ss)], [encs ss]) := by
  have e := g_checkR hn h
  unfold G_Chain_init f_Chain_init
  simp [fnD, sSeq, sSet, sDrop, sRet, sRetN, sIf, sAsg, sPar, sFor, forD, dC, dVar, dOp, der, ders, frz, frzs, dTup, dLst, aNil, aCons, aStar, PK.mk, dCB, PK.g1, PK.g2, lenD, absD, maxD, minD, PK.intD, listD, tupD, sumD, allD, intsD, bls, addD, subD, mulD, divD, modD, powD, cmpD, ixD, atI, ixN, dUn, negD, dB, truD, bNot, bAnd, bOr, bYes, dAndV, dOrV, dNotV, dChain, dFld, recvOk, dIsi, tyD, kitB, dCallN, callG, refs, renum, lives, PK.putAll, hNm, hSub, hNil, hCons, hTup, setIx, asgT, setAll, dMt, appD, extD, dLc, lcGo, wipeD, iSq, iRg1, iRg2, iZipD, iEnumD, iRevD, srcOf, rangeD, zipD, small, itemsD, List.range, List.range.loop, eqD_int, dSl, dRev, slD, cutD, okR, sNext, sNever, sBrk, sCnt, dMake, makeG, PK.initD, iSeq, iDrop, iSet, iFld, dMeth, dIfE, isND, PK.isNon, oSome, oNone, HT.sIx, e, kn]
theorem mk_chainR {n k : Nat} (hn : n = 2 ∨ n = 3) {ss : List S} (h : ∀ s ∈ ss, Ok n s) {fa : AF} {δ δ' : Dl} (e : fa δ = some ([.fz (.int n), .rf k], δ')) (hk : δ'.st[k]? = some (some (encs ss))) : dMake "Chain" 3 G_Chain_init fa δ = some (.fz (chD n ss), δ') := by
  have hs : δ'.st.set k (some (encs ss)) = δ'.st := by
    obtain ⟨hl, e⟩ := List.getElem?_eq_some_iff.mp hk
    rw [← e]
    exact List.set_getElem_self hl
  simp [dMake, e, makeG, refs, renum, lives, hk, g_initR hn h, PK.putAll, chD, hs]
theorem g_steps {n : Nat} {ss : List S} : G_Chain_steps [.fz (chD n ss)] [] = some (.fresh (encs ss), []) := by
  unfold G_Chain_steps f_Chain_steps
  simp [fnD, sSeq, sSet, sDrop, sRet, sRetN, sIf, sAsg, sPar, sFor, forD, dC, dVar, dOp, der, ders, frz, frzs, dTup, dLst, aNil, aCons, aStar, PK.mk, dCB, PK.g1, PK.g2, lenD, absD, maxD, minD, PK.intD, listD, tupD, sumD, allD, intsD, bls, addD, subD, mulD, divD, modD, powD, cmpD, ixD, atI, ixN, dUn, negD, dB, truD, bNot, bAnd, bOr, bYes, dAndV, dOrV, dNotV, dChain, dFld, recvOk, dIsi, tyD, kitB, dCallN, callG, refs, renum, lives, PK.putAll, hNm, hSub, hNil, hCons, hTup, setIx, asgT, setAll, dMt, appD, extD, dLc, lcGo, wipeD, iSq, iRg1, iRg2, iZipD, iEnumD, iRevD, srcOf, rangeD, zipD, small, itemsD, List.range, List.range.loop, eqD_int, dSl, dRev, slD, cutD, okR, sNext, sNever, sBrk, sCnt, dMake, makeG, PK.initD, iSeq, iDrop, iSet, iFld, dMeth, dIfE, isND, PK.isNon, oSome, oNone, HT.sIx, chD, fl_steps']
theorem st_fm {n : Nat} {ss : List S} {fo : EF} {δ δ1 : Dl} (mm : Bool) (e : fo δ = some (.fz (chD n ss), δ1)) : dMeth mm "Chain" "" 1 G_Chain_steps fo aNil δ = some (PK.mk mm (encs ss) δ1) := mt0f e rv_no rfl rfl rfl g_steps
theorem encs_len (ss : List S) : (encs ss).length = ss.length := by simp [encs]
theorem encs_get {ss : List S} {i : Nat} {s : S} (h : ss[i]? = some s) : (encs ss)[i]? = some (enc s) := by simp [encs, h]
theorem encs_at {ss : List S} {i : Nat} {s : S} (h : ss[i]? = some s) : atI (encs ss) (i : Int) = some (enc s) := atI_nat (encs_get h)
theorem encs_set {ss : List S} {i : Nat} {s : S} : (encs ss).set i (enc s) = encs (ss.set i s) := by simp [encs, List.map_set]
theorem ixN_in {n i : Nat} (h : i < n) : ixN n (i : Int) = some i := by
  unfold ixN
  rw [if_pos (by omega), if_pos (by omega)]
  simp
end K51

set_option maxHeartbeats 0
namespace K51
open PySem L2 PK
theorem nice_lencs {ss : List S} : Nice 3 (.lst (encs ss)) := nice_lst nice_encs
section
variable {n m : Nat} {ss : List S} {p : List D}
theorem st_f {fo : EF} {δ δ1 : Dl} (e : fo δ = some (.fz (chD n ss), δ1)) : dMeth false "Chain" "" 1 G_Chain_steps fo aNil δ = some (.fz (.lst (encs ss)), δ1) := mt0f e rv_no rfl rfl rfl g_steps
end

/-! ### the product of the divisors -/
def dv : S → Int
  | .lift _ _ _ d => d
  | _ => 1
def whole : List S → Int → Int
  | [], t => t
  | s :: ss, t => whole ss (t * dv s)
theorem dv_ok {n : Nat} {s : S} (h : Ok n s) : 1 ≤ dv s ∧ dv s ≤ 12 := by
  cases s with
  | lift c ws m d => exact ⟨h.2.2.2.2.2.2.1, h.2.2.2.2.2.2.2⟩
  | swap i j => exact ⟨Int.le_refl 1, by show (1 : Int) ≤ 12; decide⟩
  | turn i => exact ⟨Int.le_refl 1, by show (1 : Int) ≤ 12; decide⟩
theorem mul_bd {t d : Int} {k : Nat} (ht : t.natAbs < 2 ^ k) (hd : 1 ≤ d ∧ d ≤ 12) : (t * d).natAbs < 2 ^ (k + 4) := by
  have hp : 2 ^ (k + 4) = 2 ^ k * 16 := by rw [Nat.pow_add]
  rw [Int.natAbs_mul]
  have : t.natAbs * d.natAbs ≤ t.natAbs * 12 := Nat.mul_le_mul_left _ (by omega)
  omega
theorem okMul_d {t d : Int} {k : Nat} (ht : t.natAbs < 2 ^ k) (hk : k ≤ 1000) (hd : 1 ≤ d ∧ d ≤ 12) : okMul t d = true := by
  unfold okMul
  have h1 := log_of ht
  have h2 : d.natAbs.log2 ≤ d.natAbs := Nat.log2_le_self _
  exact decide_eq_true (by omega)
theorem encs_app (ss ts : List S) : encs ss ++ encs ts = encs (ss ++ ts) := by simp [encs]
end K51

set_option maxHeartbeats 0
namespace K51
open PySem L2 PK
theorem add_l {ss ts : List S} {fa fb : EF} {δ δ1 δ2 : Dl} (e1 : fa δ = some (.fz (.lst (encs ss)), δ1)) (e2 : fb δ1 = some (.fz (.lst (encs ts)), δ2)) (hl : ss.length + ts.length ≤ 1000) : dOp (addD false) fa fb δ = some (.fz (.lst (encs (ss ++ ts))), δ2) := by
  refine (dOp_ e1 e2 rfl rfl).trans ?_
  have : (encs ss).length + (encs ts).length ≤ small := by simp [encs, small]; omega
  simp only [addD, this, if_true, PK.mk, encs_app]
  rfl
end K51

set_option maxHeartbeats 0
namespace K51
open PySem L2 PK
theorem three {d : Int} (h0 : 0 ≤ d) (h : d < 3) : d = 0 ∨ d = 1 ∨ d = 2 := by omega
theorem two {d : Int} (h0 : 0 ≤ d) (h : d < 2) : d = 0 ∨ d = 1 := by omega
theorem neg_ok {n c : Nat} {ws : List Int} (lw : ws.length = n) (zw : ws.getD c 0 = 0) (bw : ∀ w ∈ ws, -6 ≤ w ∧ w ≤ 6) : (ws.map fun w => 0 - w).length = n ∧ (ws.map fun w => 0 - w).getD c 0 = 0 ∧ ∀ w ∈ ws.map fun w => 0 - w, -6 ≤ w ∧ w ≤ 6 := by
  refine ⟨by simpa using lw, ?_, fun w hw => ?_⟩
  · rw [List.getD_eq_getElem?_getD, List.getElem?_map]
    rw [List.getD_eq_getElem?_getD] at zw
    cases e : ws[c]? with
    | none => rfl
    | some w =>
      rw [e] at zw
      have : w = 0 := zw
      rw [this]
      rfl
  · obtain ⟨u, hu, rfl⟩ := List.mem_map.mp hw
    have := bw u hu
    omega
/-- two lifts of which the second one takes the first one's weights back -/
theorem g_pair {n m : Nat} (hn : n = 2 ∨ n = 3) {p : List D} {R : Int} (hp : Pool m p) (hm : m ≤ 6000) (h1 : 1 ≤ R) (h2 : R ≤ 12) : ∃ (s t : S) (R' : Int) (p' : List D), G_law_pair [.rf 0, .fz (.int n), .rf 1] [p, [.int R]] = some (.fresh (encs [s, t]), [p', [.int R']]) ∧ Dr n s ∧ Dr n t ∧ 1 ≤ R' ∧ R' ≤ 12 ∧ dvL s * dvL t * R' ≤ R ∧ Pool (m + 12) p' := by
  obtain ⟨c, p1, e1, a1, a2, hp1⟩ := g_draw (many := n) hp (by omega) (by omega) (by omega)
  obtain ⟨c, rfl⟩ := Int.eq_ofNat_of_zero_le a1
  obtain ⟨ws, p2, e2, lw, zw, bw, hp2⟩ := g_weights (c := c) hn (by omega) hp1 (by omega)
  obtain ⟨lw', zw', bw'⟩ := neg_ok lw zw bw
  have fin : ∀ (d : Int) (p3 : List D), 1 ≤ d → d ≤ 3 → d * d ≤ R → Pool (m + 8) p3 → (∀ ma mb p4 p5, G_law_more [.rf 0] [p3] = some (.val (.int ma), [p4]) → G_law_more [.rf 0] [p4] = some (.val (.int mb), [p5]) → G_law_pair [.rf 0, .fz (.int n), .rf 1] [p, [.int R]] = some (.fresh (encs [.lift c ws ma d, .lift c (ws.map fun w => 0 - w) mb d]), [p5, [.int (R / (d * d))]])) →
      ∃ (s t : S) (R' : Int) (p' : List D), G_law_pair [.rf 0, .fz (.int n), .rf 1] [p, [.int R]] = some (.fresh (encs [s, t]), [p', [.int R']]) ∧ Dr n s ∧ Dr n t ∧ 1 ≤ R' ∧ R' ≤ 12 ∧ dvL s * dvL t * R' ≤ R ∧ Pool (m + 12) p' := by
    intro d p3 d1 d3 hd hp3 K
    obtain ⟨ma, p4, e4, b1, b2, hp4⟩ := g_more hp3 (by omega)
    obtain ⟨mb, p5, e5, c1, c2, hp5⟩ := g_more hp4 (by omega)
    have dd : 1 ≤ d * d := by
      have := Int.mul_le_mul (show 1 ≤ d from d1) d1 (by decide) (by omega)
      omega
    refine ⟨_, _, _, _, K ma mb p4 p5 e4 e5, ⟨⟨by omega, lw, zw, bw, by omega, by omega, by omega, by omega⟩, fun _ _ _ _ e => by cases e; exact ⟨b1, b2⟩⟩, ⟨⟨by omega, lw', zw', bw', by omega, by omega, by omega, by omega⟩, fun _ _ _ _ e => by cases e; exact ⟨c1, c2⟩⟩, (Int.le_ediv_iff_mul_le (by omega)).mpr (by omega), Int.le_trans (Int.ediv_le_self _ (by omega)) h2, (show d * d * (R / (d * d)) ≤ R from Int.mul_ediv_self_le (by omega)), hp5.up (by omega)⟩
  have ev2 : ∀ (d t i : Int) (p3 : List D), 1 ≤ d → d ≤ 3 → (t = 1 ∧ ¬ R > 3 ∧ d = 1 ∧ i = 0 ∨ t = 2 ∧ R > 3 ∧ ¬ R > 8 ∧ i = d - 1 ∧ d ≤ 2 ∨ t = 3 ∧ R > 8 ∧ i = d - 1) → G_law_draw [.rf 0, .fz (.int t)] [p2] = some (.val (.int i), [p3]) → ∀ ma mb p4 p5, G_law_more [.rf 0] [p3] = some (.val (.int ma), [p4]) → G_law_more [.rf 0] [p4] = some (.val (.int mb), [p5]) → G_law_pair [.rf 0, .fz (.int n), .rf 1] [p, [.int R]] = some (.fresh (encs [.lift c ws ma d, .lift c (ws.map fun w => 0 - w) mb d]), [p5, [.int (R / (d * d))]]) := by
    intro d t i p3 d1 d3 ht e3 ma mb p4 p5 e4 e5
    have od : ∀ k : Int, 1 ≤ k → k ≤ 9 → okDiv k = true := fun k x y => okDiv_of x (by omega)
    have o1 := od 1 (by decide) (by decide)
    have o4 := od 4 (by decide) (by decide)
    have o9 := od 9 (by decide) (by decide)
    have q1 : okMul 1 1 = true := okMul_nn (by decide) (by decide)
    have q2 : okMul 2 2 = true := okMul_nn (by decide) (by decide)
    have q3 : okMul 3 3 = true := okMul_nn (by decide) (by decide)
    rcases hn with rfl | rfl
    · obtain ⟨x, y, rfl⟩ := len2 lw
      rw [show ((2 : Nat) : Int) = 2 from rfl] at e1 e2 ⊢
      rcases ht with ⟨rfl, r3, rfl, rfl⟩ | ⟨rfl, r3, r8, rfl, d2⟩ | ⟨rfl, r8, rfl⟩
      · unfold G_law_pair f_law_pair
        simp [fnD, sSeq, sSet, sDrop, sRet, sRetN, sIf, sAsg, sPar, sFor, forD, dC, dVar, dOp, der, ders, frz, frzs, dTup, dLst, aNil, aCons, aStar, PK.mk, dCB, PK.g1, PK.g2, lenD, absD, maxD, minD, PK.intD, listD, tupD, sumD, allD, intsD, bls, addD, subD, mulD, divD, modD, powD, cmpD, ixD, atI, ixN, dUn, negD, dB, truD, bNot, bAnd, bOr, bYes, dAndV, dOrV, dNotV, dChain, dFld, recvOk, dIsi, tyD, kitB, dCallN, callG, refs, renum, lives, PK.putAll, hNm, hSub, hNil, hCons, hTup, setIx, asgT, setAll, dMt, appD, extD, dLc, lcGo, wipeD, iSq, iRg1, iRg2, iZipD, iEnumD, iRevD, srcOf, rangeD, zipD, small, itemsD, List.range, List.range.loop, eqD_int, dSl, dRev, slD, cutD, okR, sNext, sNever, sBrk, sCnt, dMake, makeG, PK.initD, iSeq, iDrop, iSet, iFld, dMeth, dIfE, isND, PK.isNon, oSome, oNone, HT.sIx, e1, e2, e3, e4, e5, r3, show ¬ R > 8 by omega, encs, enc, tupI, o1, q1, cutD]
      · rcases (show d = 1 ∨ d = 2 by omega) with rfl | rfl
        · unfold G_law_pair f_law_pair
          simp [fnD, sSeq, sSet, sDrop, sRet, sRetN, sIf, sAsg, sPar, sFor, forD, dC, dVar, dOp, der, ders, frz, frzs, dTup, dLst, aNil, aCons, aStar, PK.mk, dCB, PK.g1, PK.g2, lenD, absD, maxD, minD, PK.intD, listD, tupD, sumD, allD, intsD, bls, addD, subD, mulD, divD, modD, powD, cmpD, ixD, atI, ixN, dUn, negD, dB, truD, bNot, bAnd, bOr, bYes, dAndV, dOrV, dNotV, dChain, dFld, recvOk, dIsi, tyD, kitB, dCallN, callG, refs, renum, lives, PK.putAll, hNm, hSub, hNil, hCons, hTup, setIx, asgT, setAll, dMt, appD, extD, dLc, lcGo, wipeD, iSq, iRg1, iRg2, iZipD, iEnumD, iRevD, srcOf, rangeD, zipD, small, itemsD, List.range, List.range.loop, eqD_int, dSl, dRev, slD, cutD, okR, sNext, sNever, sBrk, sCnt, dMake, makeG, PK.initD, iSeq, iDrop, iSet, iFld, dMeth, dIfE, isND, PK.isNon, oSome, oNone, HT.sIx, e1, e2, e3, e4, e5, r3, r8, encs, enc, tupI, o1, q1, cutD]
        · unfold G_law_pair f_law_pair
          simp [fnD, sSeq, sSet, sDrop, sRet, sRetN, sIf, sAsg, sPar, sFor, forD, dC, dVar, dOp, der, ders, frz, frzs, dTup, dLst, aNil, aCons, aStar, PK.mk, dCB, PK.g1, PK.g2, lenD, absD, maxD, minD, PK.intD, listD, tupD, sumD, allD, intsD, bls, addD, subD, mulD, divD, modD, powD, cmpD, ixD, atI, ixN, dUn, negD, dB, truD, bNot, bAnd, bOr, bYes, dAndV, dOrV, dNotV, dChain, dFld, recvOk, dIsi, tyD, kitB, dCallN, callG, refs, renum, lives, PK.putAll, hNm, hSub, hNil, hCons, hTup, setIx, asgT, setAll, dMt, appD, extD, dLc, lcGo, wipeD, iSq, iRg1, iRg2, iZipD, iEnumD, iRevD, srcOf, rangeD, zipD, small, itemsD, List.range, List.range.loop, eqD_int, dSl, dRev, slD, cutD, okR, sNext, sNever, sBrk, sCnt, dMake, makeG, PK.initD, iSeq, iDrop, iSet, iFld, dMeth, dIfE, isND, PK.isNon, oSome, oNone, HT.sIx, e1, e2, e3, e4, e5, r3, r8, encs, enc, tupI, o4, q2, cutD]
      · rcases (show d = 1 ∨ d = 2 ∨ d = 3 by omega) with rfl | rfl | rfl
        · unfold G_law_pair f_law_pair
          simp [fnD, sSeq, sSet, sDrop, sRet, sRetN, sIf, sAsg, sPar, sFor, forD, dC, dVar, dOp, der, ders, frz, frzs, dTup, dLst, aNil, aCons, aStar, PK.mk, dCB, PK.g1, PK.g2, lenD, absD, maxD, minD, PK.intD, listD, tupD, sumD, allD, intsD, bls, addD, subD, mulD, divD, modD, powD, cmpD, ixD, atI, ixN, dUn, negD, dB, truD, bNot, bAnd, bOr, bYes, dAndV, dOrV, dNotV, dChain, dFld, recvOk, dIsi, tyD, kitB, dCallN, callG, refs, renum, lives, PK.putAll, hNm, hSub, hNil, hCons, hTup, setIx, asgT, setAll, dMt, appD, extD, dLc, lcGo, wipeD, iSq, iRg1, iRg2, iZipD, iEnumD, iRevD, srcOf, rangeD, zipD, small, itemsD, List.range, List.range.loop, eqD_int, dSl, dRev, slD, cutD, okR, sNext, sNever, sBrk, sCnt, dMake, makeG, PK.initD, iSeq, iDrop, iSet, iFld, dMeth, dIfE, isND, PK.isNon, oSome, oNone, HT.sIx, e1, e2, e3, e4, e5, r8, show R > 3 by omega, encs, enc, tupI, o1, q1, cutD]
        · unfold G_law_pair f_law_pair
          simp [fnD, sSeq, sSet, sDrop, sRet, sRetN, sIf, sAsg, sPar, sFor, forD, dC, dVar, dOp, der, ders, frz, frzs, dTup, dLst, aNil, aCons, aStar, PK.mk, dCB, PK.g1, PK.g2, lenD, absD, maxD, minD, PK.intD, listD, tupD, sumD, allD, intsD, bls, addD, subD, mulD, divD, modD, powD, cmpD, ixD, atI, ixN, dUn, negD, dB, truD, bNot, bAnd, bOr, bYes, dAndV, dOrV, dNotV, dChain, dFld, recvOk, dIsi, tyD, kitB, dCallN, callG, refs, renum, lives, PK.putAll, hNm, hSub, hNil, hCons, hTup, setIx, asgT, setAll, dMt, appD, extD, dLc, lcGo, wipeD, iSq, iRg1, iRg2, iZipD, iEnumD, iRevD, srcOf, rangeD, zipD, small, itemsD, List.range, List.range.loop, eqD_int, dSl, dRev, slD, cutD, okR, sNext, sNever, sBrk, sCnt, dMake, makeG, PK.initD, iSeq, iDrop, iSet, iFld, dMeth, dIfE, isND, PK.isNon, oSome, oNone, HT.sIx, e1, e2, e3, e4, e5, r8, show R > 3 by omega, encs, enc, tupI, o4, q2, cutD]
        · unfold G_law_pair f_law_pair
          simp [fnD, sSeq, sSet, sDrop, sRet, sRetN, sIf, sAsg, sPar, sFor, forD, dC, dVar, dOp, der, ders, frz, frzs, dTup, dLst, aNil, aCons, aStar, PK.mk, dCB, PK.g1, PK.g2, lenD, absD, maxD, minD, PK.intD, listD, tupD, sumD, allD, intsD, bls, addD, subD, mulD, divD, modD, powD, cmpD, ixD, atI, ixN, dUn, negD, dB, truD, bNot, bAnd, bOr, bYes, dAndV, dOrV, dNotV, dChain, dFld, recvOk, dIsi, tyD, kitB, dCallN, callG, refs, renum, lives, PK.putAll, hNm, hSub, hNil, hCons, hTup, setIx, asgT, setAll, dMt, appD, extD, dLc, lcGo, wipeD, iSq, iRg1, iRg2, iZipD, iEnumD, iRevD, srcOf, rangeD, zipD, small, itemsD, List.range, List.range.loop, eqD_int, dSl, dRev, slD, cutD, okR, sNext, sNever, sBrk, sCnt, dMake, makeG, PK.initD, iSeq, iDrop, iSet, iFld, dMeth, dIfE, isND, PK.isNon, oSome, oNone, HT.sIx, e1, e2, e3, e4, e5, r8, show R > 3 by omega, encs, enc, tupI, o9, q3, cutD]
    · obtain ⟨x, y, z, rfl⟩ := len3 lw
      rw [show ((3 : Nat) : Int) = 3 from rfl] at e1 e2 ⊢
      rcases ht with ⟨rfl, r3, rfl, rfl⟩ | ⟨rfl, r3, r8, rfl, d2⟩ | ⟨rfl, r8, rfl⟩
      · unfold G_law_pair f_law_pair
        simp [fnD, sSeq, sSet, sDrop, sRet, sRetN, sIf, sAsg, sPar, sFor, forD, dC, dVar, dOp, der, ders, frz, frzs, dTup, dLst, aNil, aCons, aStar, PK.mk, dCB, PK.g1, PK.g2, lenD, absD, maxD, minD, PK.intD, listD, tupD, sumD, allD, intsD, bls, addD, subD, mulD, divD, modD, powD, cmpD, ixD, atI, ixN, dUn, negD, dB, truD, bNot, bAnd, bOr, bYes, dAndV, dOrV, dNotV, dChain, dFld, recvOk, dIsi, tyD, kitB, dCallN, callG, refs, renum, lives, PK.putAll, hNm, hSub, hNil, hCons, hTup, setIx, asgT, setAll, dMt, appD, extD, dLc, lcGo, wipeD, iSq, iRg1, iRg2, iZipD, iEnumD, iRevD, srcOf, rangeD, zipD, small, itemsD, List.range, List.range.loop, eqD_int, dSl, dRev, slD, cutD, okR, sNext, sNever, sBrk, sCnt, dMake, makeG, PK.initD, iSeq, iDrop, iSet, iFld, dMeth, dIfE, isND, PK.isNon, oSome, oNone, HT.sIx, e1, e2, e3, e4, e5, r3, show ¬ R > 8 by omega, encs, enc, tupI, o1, q1, cutD]
      · rcases (show d = 1 ∨ d = 2 by omega) with rfl | rfl
        · unfold G_law_pair f_law_pair
          simp [fnD, sSeq, sSet, sDrop, sRet, sRetN, sIf, sAsg, sPar, sFor, forD, dC, dVar, dOp, der, ders, frz, frzs, dTup, dLst, aNil, aCons, aStar, PK.mk, dCB, PK.g1, PK.g2, lenD, absD, maxD, minD, PK.intD, listD, tupD, sumD, allD, intsD, bls, addD, subD, mulD, divD, modD, powD, cmpD, ixD, atI, ixN, dUn, negD, dB, truD, bNot, bAnd, bOr, bYes, dAndV, dOrV, dNotV, dChain, dFld, recvOk, dIsi, tyD, kitB, dCallN, callG, refs, renum, lives, PK.putAll, hNm, hSub, hNil, hCons, hTup, setIx, asgT, setAll, dMt, appD, extD, dLc, lcGo, wipeD, iSq, iRg1, iRg2, iZipD, iEnumD, iRevD, srcOf, rangeD, zipD, small, itemsD, List.range, List.range.loop, eqD_int, dSl, dRev, slD, cutD, okR, sNext, sNever, sBrk, sCnt, dMake, makeG, PK.initD, iSeq, iDrop, iSet, iFld, dMeth, dIfE, isND, PK.isNon, oSome, oNone, HT.sIx, e1, e2, e3, e4, e5, r3, r8, encs, enc, tupI, o1, q1, cutD]
        · unfold G_law_pair f_law_pair
          simp [fnD, sSeq, sSet, sDrop, sRet, sRetN, sIf, sAsg, sPar, sFor, forD, dC, dVar, dOp, der, ders, frz, frzs, dTup, dLst, aNil, aCons, aStar, PK.mk, dCB, PK.g1, PK.g2, lenD, absD, maxD, minD, PK.intD, listD, tupD, sumD, allD, intsD, bls, addD, subD, mulD, divD, modD, powD, cmpD, ixD, atI, ixN, dUn, negD, dB, truD, bNot, bAnd, bOr, bYes, dAndV, dOrV, dNotV, dChain, dFld, recvOk, dIsi, tyD, kitB, dCallN, callG, refs, renum, lives, PK.putAll, hNm, hSub, hNil, hCons, hTup, setIx, asgT, setAll, dMt, appD, extD, dLc, lcGo, wipeD, iSq, iRg1, iRg2, iZipD, iEnumD, iRevD, srcOf, rangeD, zipD, small, itemsD, List.range, List.range.loop, eqD_int, dSl, dRev, slD, cutD, okR, sNext, sNever, sBrk, sCnt, dMake, makeG, PK.initD, iSeq, iDrop, iSet, iFld, dMeth, dIfE, isND, PK.isNon, oSome, oNone, HT.sIx, e1, e2, e3, e4, e5, r3, r8, encs, enc, tupI, o4, q2, cutD]
      · rcases (show d = 1 ∨ d = 2 ∨ d = 3 by omega) with rfl | rfl | rfl
        · unfold G_law_pair f_law_pair
          simp [fnD, sSeq, sSet, sDrop, sRet, sRetN, sIf, sAsg, sPar, sFor, forD, dC, dVar, dOp, der, ders, frz, frzs, dTup, dLst, aNil, aCons, aStar, PK.mk, dCB, PK.g1, PK.g2, lenD, absD, maxD, minD, PK.intD, listD, tupD, sumD, allD, intsD, bls, addD, subD, mulD, divD, modD, powD, cmpD, ixD, atI, ixN, dUn, negD, dB, truD, bNot, bAnd, bOr, bYes, dAndV, dOrV, dNotV, dChain, dFld, recvOk, dIsi, tyD, kitB, dCallN, callG, refs, renum, lives, PK.putAll, hNm, hSub, hNil, hCons, hTup, setIx, asgT, setAll, dMt, appD, extD, dLc, lcGo, wipeD, iSq, iRg1, iRg2, iZipD, iEnumD, iRevD, srcOf, rangeD, zipD, small, itemsD, List.range, List.range.loop, eqD_int, dSl, dRev, slD, cutD, okR, sNext, sNever, sBrk, sCnt, dMake, makeG, PK.initD, iSeq, iDrop, iSet, iFld, dMeth, dIfE, isND, PK.isNon, oSome, oNone, HT.sIx, e1, e2, e3, e4, e5, r8, show R > 3 by omega, encs, enc, tupI, o1, q1, cutD]
        · unfold G_law_pair f_law_pair
          simp [fnD, sSeq, sSet, sDrop, sRet, sRetN, sIf, sAsg, sPar, sFor, forD, dC, dVar, dOp, der, ders, frz, frzs, dTup, dLst, aNil, aCons, aStar, PK.mk, dCB, PK.g1, PK.g2, lenD, absD, maxD, minD, PK.intD, listD, tupD, sumD, allD, intsD, bls, addD, subD, mulD, divD, modD, powD, cmpD, ixD, atI, ixN, dUn, negD, dB, truD, bNot, bAnd, bOr, bYes, dAndV, dOrV, dNotV, dChain, dFld, recvOk, dIsi, tyD, kitB, dCallN, callG, refs, renum, lives, PK.putAll, hNm, hSub, hNil, hCons, hTup, setIx, asgT, setAll, dMt, appD, extD, dLc, lcGo, wipeD, iSq, iRg1, iRg2, iZipD, iEnumD, iRevD, srcOf, rangeD, zipD, small, itemsD, List.range, List.range.loop, eqD_int, dSl, dRev, slD, cutD, okR, sNext, sNever, sBrk, sCnt, dMake, makeG, PK.initD, iSeq, iDrop, iSet, iFld, dMeth, dIfE, isND, PK.isNon, oSome, oNone, HT.sIx, e1, e2, e3, e4, e5, r8, show R > 3 by omega, encs, enc, tupI, o4, q2, cutD]
        · unfold G_law_pair f_law_pair
          simp [fnD, sSeq, sSet, sDrop, sRet, sRetN, sIf, sAsg, sPar, sFor, forD, dC, dVar, dOp, der, ders, frz, frzs, dTup, dLst, aNil, aCons, aStar, PK.mk, dCB, PK.g1, PK.g2, lenD, absD, maxD, minD, PK.intD, listD, tupD, sumD, allD, intsD, bls, addD, subD, mulD, divD, modD, powD, cmpD, ixD, atI, ixN, dUn, negD, dB, truD, bNot, bAnd, bOr, bYes, dAndV, dOrV, dNotV, dChain, dFld, recvOk, dIsi, tyD, kitB, dCallN, callG, refs, renum, lives, PK.putAll, hNm, hSub, hNil, hCons, hTup, setIx, asgT, setAll, dMt, appD, extD, dLc, lcGo, wipeD, iSq, iRg1, iRg2, iZipD, iEnumD, iRevD, srcOf, rangeD, zipD, small, itemsD, List.range, List.range.loop, eqD_int, dSl, dRev, slD, cutD, okR, sNext, sNever, sBrk, sCnt, dMake, makeG, PK.initD, iSeq, iDrop, iSet, iFld, dMeth, dIfE, isND, PK.isNon, oSome, oNone, HT.sIx, e1, e2, e3, e4, e5, r8, show R > 3 by omega, encs, enc, tupI, o9, q3, cutD]
  by_cases r3 : R > 3
  · by_cases r8 : R > 8
    · obtain ⟨i, p3, e3, i0, i1, hp3⟩ := g_draw (many := 3) hp2 (by decide) (by decide) (by omega)
      exact fin (i + 1) p3 (by omega) (by omega) (by rcases three i0 i1 with rfl | rfl | rfl <;> omega) (hp3.up (by omega)) (ev2 (i + 1) 3 i p3 (by omega) (by omega) (.inr (.inr ⟨rfl, r8, by omega⟩)) e3)
    · obtain ⟨i, p3, e3, i0, i1, hp3⟩ := g_draw (many := 2) hp2 (by decide) (by decide) (by omega)
      exact fin (i + 1) p3 (by omega) (by omega) (by rcases two i0 i1 with rfl | rfl <;> omega) (hp3.up (by omega)) (ev2 (i + 1) 2 i p3 (by omega) (by omega) (.inr (.inl ⟨rfl, r3, r8, by omega, by omega⟩)) e3)
  · obtain ⟨i, p3, e3, i0, i1, hp3⟩ := g_draw (many := 1) hp2 (by decide) (by decide) (by omega)
    obtain rfl : i = 0 := by omega
    exact fin 1 p3 (by omega) (by omega) (by omega) (hp3.up (by omega)) (ev2 1 1 0 p3 (by omega) (by omega) (.inl ⟨rfl, r3, rfl, rfl⟩) e3)
end K51

set_option maxHeartbeats 0
namespace K51
open PySem L2 PK
theorem ok_wheel {n c : Nat} {ws : List Int} {mo : Int} (hc : c < n) (hl : ws.length = n) (hz : ws.getD c 0 = 0) (hw : ∀ w ∈ ws, -1 ≤ w ∧ w ≤ 3) (h1 : -20 ≤ mo) (h2 : mo ≤ 20) : Dr n (.lift c ws mo 1) := ⟨⟨hc, hl, hz, fun w q => by have := hw w q; omega, by omega, by omega, by decide, by decide⟩, fun _ _ _ _ e => by cases e; exact ⟨h1, h2⟩⟩
theorem g_wheel {n m : Nat} (hn : n = 2 ∨ n = 3) {p : List D} (hp : Pool m p) (hm : m ≤ 6000) : ∃ (s t : S) (p' : List D), G_law_wheel [.rf 0, .fz (.int n)] [p] = some (.fresh (encs [s, t]), [p']) ∧ Dr n s ∧ Dr n t ∧ dvL s = 1 ∧ dvL t = 1 ∧ Pool (m + 7) p' := by
  obtain ⟨c, p1, e1, a1, a2, hp1⟩ := g_draw (many := n) hp (by omega) (by omega) (by omega)
  obtain ⟨j, p2, e2, b1, b2, hp2⟩ := g_draw (many := (n : Int) - 1) hp1 (by omega) (by omega) (by omega)
  obtain ⟨w, p3, e3, c1, c2, hp3⟩ := g_draw (many := 3) hp2 (by decide) (by decide) (by omega)
  obtain ⟨ma, p4, e4, d1, d2, hp4⟩ := g_more hp3 (by omega)
  obtain ⟨mb, p5, e5, f1, f2, hp5⟩ := g_more hp4 (by omega)
  have o2 : okDiv 2 = true := okDiv_of (by decide) (by decide)
  have o3 : okDiv 3 = true := okDiv_of (by decide) (by decide)
  have w1 : okMul (1 + w) 1 = true := okMul_nn (by omega) (by decide)
  have w0 : okMul (1 + w) 0 = true := okMul_nn (by omega) (by decide)
  rcases hn with rfl | rfl
  · obtain rfl : j = 0 := by omega
    rw [show ((2 : Nat) : Int) = 2 from rfl] at e1
    rw [show ((2 : Nat) : Int) - 1 = 1 from rfl] at e2
    rw [show ((2 : Nat) : Int) = 2 from rfl]
    rcases (show c = 0 ∨ c = 1 by omega) with rfl | rfl
    · refine ⟨.lift 0 [0, -1] ma 1, .lift 1 [1 + w, 0] mb 1, p5, ?_, ok_wheel (by decide) rfl rfl (by simp) d1 d2, ok_wheel (by decide) rfl rfl (by simp; omega) f1 f2, rfl, rfl, hp5.up (by omega)⟩
      unfold G_law_wheel f_law_wheel
      simp [fnD, sSeq, sSet, sDrop, sRet, sRetN, sIf, sAsg, sPar, sFor, forD, dC, dVar, dOp, der, ders, frz, frzs, dTup, dLst, aNil, aCons, aStar, PK.mk, dCB, PK.g1, PK.g2, lenD, absD, maxD, minD, PK.intD, listD, tupD, sumD, allD, intsD, bls, addD, subD, mulD, divD, modD, powD, cmpD, ixD, atI, ixN, dUn, negD, dB, truD, bNot, bAnd, bOr, bYes, dAndV, dOrV, dNotV, dChain, dFld, recvOk, dIsi, tyD, kitB, dCallN, callG, refs, renum, lives, PK.putAll, hNm, hSub, hNil, hCons, hTup, setIx, asgT, setAll, dMt, appD, extD, dLc, lcGo, wipeD, iSq, iRg1, iRg2, iZipD, iEnumD, iRevD, srcOf, rangeD, zipD, small, itemsD, List.range, List.range.loop, eqD_int, dSl, dRev, slD, cutD, okR, sNext, sNever, sBrk, sCnt, dMake, makeG, PK.initD, iSeq, iDrop, iSet, iFld, dMeth, dIfE, isND, PK.isNon, oSome, oNone, HT.sIx, e1, e2, e3, e4, e5, encs, enc, tupI, o2, w0, w1, eqD_int]
    · refine ⟨.lift 1 [-1, 0] ma 1, .lift 0 [0, 1 + w] mb 1, p5, ?_, ok_wheel (by decide) rfl rfl (by simp) d1 d2, ok_wheel (by decide) rfl rfl (by simp; omega) f1 f2, rfl, rfl, hp5.up (by omega)⟩
      unfold G_law_wheel f_law_wheel
      simp [fnD, sSeq, sSet, sDrop, sRet, sRetN, sIf, sAsg, sPar, sFor, forD, dC, dVar, dOp, der, ders, frz, frzs, dTup, dLst, aNil, aCons, aStar, PK.mk, dCB, PK.g1, PK.g2, lenD, absD, maxD, minD, PK.intD, listD, tupD, sumD, allD, intsD, bls, addD, subD, mulD, divD, modD, powD, cmpD, ixD, atI, ixN, dUn, negD, dB, truD, bNot, bAnd, bOr, bYes, dAndV, dOrV, dNotV, dChain, dFld, recvOk, dIsi, tyD, kitB, dCallN, callG, refs, renum, lives, PK.putAll, hNm, hSub, hNil, hCons, hTup, setIx, asgT, setAll, dMt, appD, extD, dLc, lcGo, wipeD, iSq, iRg1, iRg2, iZipD, iEnumD, iRevD, srcOf, rangeD, zipD, small, itemsD, List.range, List.range.loop, eqD_int, dSl, dRev, slD, cutD, okR, sNext, sNever, sBrk, sCnt, dMake, makeG, PK.initD, iSeq, iDrop, iSet, iFld, dMeth, dIfE, isND, PK.isNon, oSome, oNone, HT.sIx, e1, e2, e3, e4, e5, encs, enc, tupI, o2, w0, w1, eqD_int]
  · have a2' : c < 3 := a2
    rw [show ((3 : Nat) : Int) - 1 = 2 from rfl] at e2 b2
    rw [show ((3 : Nat) : Int) = 3 from rfl] at e1 ⊢
    rcases (show j = 0 ∨ j = 1 by omega) with rfl | rfl
    · rcases (show c = 0 ∨ c = 1 ∨ c = 2 by omega) with rfl | rfl | rfl
      · refine ⟨.lift 0 [0, -1, 0] ma 1, .lift 1 [1 + w, 0, 0] mb 1, p5, ?_, ok_wheel (by decide) rfl rfl (by simp) d1 d2, ok_wheel (by decide) rfl rfl (by simp; omega) f1 f2, rfl, rfl, hp5.up (by omega)⟩
        unfold G_law_wheel f_law_wheel
        simp [fnD, sSeq, sSet, sDrop, sRet, sRetN, sIf, sAsg, sPar, sFor, forD, dC, dVar, dOp, der, ders, frz, frzs, dTup, dLst, aNil, aCons, aStar, PK.mk, dCB, PK.g1, PK.g2, lenD, absD, maxD, minD, PK.intD, listD, tupD, sumD, allD, intsD, bls, addD, subD, mulD, divD, modD, powD, cmpD, ixD, atI, ixN, dUn, negD, dB, truD, bNot, bAnd, bOr, bYes, dAndV, dOrV, dNotV, dChain, dFld, recvOk, dIsi, tyD, kitB, dCallN, callG, refs, renum, lives, PK.putAll, hNm, hSub, hNil, hCons, hTup, setIx, asgT, setAll, dMt, appD, extD, dLc, lcGo, wipeD, iSq, iRg1, iRg2, iZipD, iEnumD, iRevD, srcOf, rangeD, zipD, small, itemsD, List.range, List.range.loop, eqD_int, dSl, dRev, slD, cutD, okR, sNext, sNever, sBrk, sCnt, dMake, makeG, PK.initD, iSeq, iDrop, iSet, iFld, dMeth, dIfE, isND, PK.isNon, oSome, oNone, HT.sIx, e1, e2, e3, e4, e5, encs, enc, tupI, o3, w0, w1, eqD_int]
      · refine ⟨.lift 1 [0, 0, -1] ma 1, .lift 2 [0, 1 + w, 0] mb 1, p5, ?_, ok_wheel (by decide) rfl rfl (by simp) d1 d2, ok_wheel (by decide) rfl rfl (by simp; omega) f1 f2, rfl, rfl, hp5.up (by omega)⟩
        unfold G_law_wheel f_law_wheel
        simp [fnD, sSeq, sSet, sDrop, sRet, sRetN, sIf, sAsg, sPar, sFor, forD, dC, dVar, dOp, der, ders, frz, frzs, dTup, dLst, aNil, aCons, aStar, PK.mk, dCB, PK.g1, PK.g2, lenD, absD, maxD, minD, PK.intD, listD, tupD, sumD, allD, intsD, bls, addD, subD, mulD, divD, modD, powD, cmpD, ixD, atI, ixN, dUn, negD, dB, truD, bNot, bAnd, bOr, bYes, dAndV, dOrV, dNotV, dChain, dFld, recvOk, dIsi, tyD, kitB, dCallN, callG, refs, renum, lives, PK.putAll, hNm, hSub, hNil, hCons, hTup, setIx, asgT, setAll, dMt, appD, extD, dLc, lcGo, wipeD, iSq, iRg1, iRg2, iZipD, iEnumD, iRevD, srcOf, rangeD, zipD, small, itemsD, List.range, List.range.loop, eqD_int, dSl, dRev, slD, cutD, okR, sNext, sNever, sBrk, sCnt, dMake, makeG, PK.initD, iSeq, iDrop, iSet, iFld, dMeth, dIfE, isND, PK.isNon, oSome, oNone, HT.sIx, e1, e2, e3, e4, e5, encs, enc, tupI, o3, w0, w1, eqD_int]
      · refine ⟨.lift 2 [-1, 0, 0] ma 1, .lift 0 [0, 0, 1 + w] mb 1, p5, ?_, ok_wheel (by decide) rfl rfl (by simp) d1 d2, ok_wheel (by decide) rfl rfl (by simp; omega) f1 f2, rfl, rfl, hp5.up (by omega)⟩
        unfold G_law_wheel f_law_wheel
        simp [fnD, sSeq, sSet, sDrop, sRet, sRetN, sIf, sAsg, sPar, sFor, forD, dC, dVar, dOp, der, ders, frz, frzs, dTup, dLst, aNil, aCons, aStar, PK.mk, dCB, PK.g1, PK.g2, lenD, absD, maxD, minD, PK.intD, listD, tupD, sumD, allD, intsD, bls, addD, subD, mulD, divD, modD, powD, cmpD, ixD, atI, ixN, dUn, negD, dB, truD, bNot, bAnd, bOr, bYes, dAndV, dOrV, dNotV, dChain, dFld, recvOk, dIsi, tyD, kitB, dCallN, callG, refs, renum, lives, PK.putAll, hNm, hSub, hNil, hCons, hTup, setIx, asgT, setAll, dMt, appD, extD, dLc, lcGo, wipeD, iSq, iRg1, iRg2, iZipD, iEnumD, iRevD, srcOf, rangeD, zipD, small, itemsD, List.range, List.range.loop, eqD_int, dSl, dRev, slD, cutD, okR, sNext, sNever, sBrk, sCnt, dMake, makeG, PK.initD, iSeq, iDrop, iSet, iFld, dMeth, dIfE, isND, PK.isNon, oSome, oNone, HT.sIx, e1, e2, e3, e4, e5, encs, enc, tupI, o3, w0, w1, eqD_int]
    · rcases (show c = 0 ∨ c = 1 ∨ c = 2 by omega) with rfl | rfl | rfl
      · refine ⟨.lift 0 [0, 0, -1] ma 1, .lift 2 [1 + w, 0, 0] mb 1, p5, ?_, ok_wheel (by decide) rfl rfl (by simp) d1 d2, ok_wheel (by decide) rfl rfl (by simp; omega) f1 f2, rfl, rfl, hp5.up (by omega)⟩
        unfold G_law_wheel f_law_wheel
        simp [fnD, sSeq, sSet, sDrop, sRet, sRetN, sIf, sAsg, sPar, sFor, forD, dC, dVar, dOp, der, ders, frz, frzs, dTup, dLst, aNil, aCons, aStar, PK.mk, dCB, PK.g1, PK.g2, lenD, absD, maxD, minD, PK.intD, listD, tupD, sumD, allD, intsD, bls, addD, subD, mulD, divD, modD, powD, cmpD, ixD, atI, ixN, dUn, negD, dB, truD, bNot, bAnd, bOr, bYes, dAndV, dOrV, dNotV, dChain, dFld, recvOk, dIsi, tyD, kitB, dCallN, callG, refs, renum, lives, PK.putAll, hNm, hSub, hNil, hCons, hTup, setIx, asgT, setAll, dMt, appD, extD, dLc, lcGo, wipeD, iSq, iRg1, iRg2, iZipD, iEnumD, iRevD, srcOf, rangeD, zipD, small, itemsD, List.range, List.range.loop, eqD_int, dSl, dRev, slD, cutD, okR, sNext, sNever, sBrk, sCnt, dMake, makeG, PK.initD, iSeq, iDrop, iSet, iFld, dMeth, dIfE, isND, PK.isNon, oSome, oNone, HT.sIx, e1, e2, e3, e4, e5, encs, enc, tupI, o3, w0, w1, eqD_int]
      · refine ⟨.lift 1 [-1, 0, 0] ma 1, .lift 0 [0, 1 + w, 0] mb 1, p5, ?_, ok_wheel (by decide) rfl rfl (by simp) d1 d2, ok_wheel (by decide) rfl rfl (by simp; omega) f1 f2, rfl, rfl, hp5.up (by omega)⟩
        unfold G_law_wheel f_law_wheel
        simp [fnD, sSeq, sSet, sDrop, sRet, sRetN, sIf, sAsg, sPar, sFor, forD, dC, dVar, dOp, der, ders, frz, frzs, dTup, dLst, aNil, aCons, aStar, PK.mk, dCB, PK.g1, PK.g2, lenD, absD, maxD, minD, PK.intD, listD, tupD, sumD, allD, intsD, bls, addD, subD, mulD, divD, modD, powD, cmpD, ixD, atI, ixN, dUn, negD, dB, truD, bNot, bAnd, bOr, bYes, dAndV, dOrV, dNotV, dChain, dFld, recvOk, dIsi, tyD, kitB, dCallN, callG, refs, renum, lives, PK.putAll, hNm, hSub, hNil, hCons, hTup, setIx, asgT, setAll, dMt, appD, extD, dLc, lcGo, wipeD, iSq, iRg1, iRg2, iZipD, iEnumD, iRevD, srcOf, rangeD, zipD, small, itemsD, List.range, List.range.loop, eqD_int, dSl, dRev, slD, cutD, okR, sNext, sNever, sBrk, sCnt, dMake, makeG, PK.initD, iSeq, iDrop, iSet, iFld, dMeth, dIfE, isND, PK.isNon, oSome, oNone, HT.sIx, e1, e2, e3, e4, e5, encs, enc, tupI, o3, w0, w1, eqD_int]
      · refine ⟨.lift 2 [0, -1, 0] ma 1, .lift 1 [0, 0, 1 + w] mb 1, p5, ?_, ok_wheel (by decide) rfl rfl (by simp) d1 d2, ok_wheel (by decide) rfl rfl (by simp; omega) f1 f2, rfl, rfl, hp5.up (by omega)⟩
        unfold G_law_wheel f_law_wheel
        simp [fnD, sSeq, sSet, sDrop, sRet, sRetN, sIf, sAsg, sPar, sFor, forD, dC, dVar, dOp, der, ders, frz, frzs, dTup, dLst, aNil, aCons, aStar, PK.mk, dCB, PK.g1, PK.g2, lenD, absD, maxD, minD, PK.intD, listD, tupD, sumD, allD, intsD, bls, addD, subD, mulD, divD, modD, powD, cmpD, ixD, atI, ixN, dUn, negD, dB, truD, bNot, bAnd, bOr, bYes, dAndV, dOrV, dNotV, dChain, dFld, recvOk, dIsi, tyD, kitB, dCallN, callG, refs, renum, lives, PK.putAll, hNm, hSub, hNil, hCons, hTup, setIx, asgT, setAll, dMt, appD, extD, dLc, lcGo, wipeD, iSq, iRg1, iRg2, iZipD, iEnumD, iRevD, srcOf, rangeD, zipD, small, itemsD, List.range, List.range.loop, eqD_int, dSl, dRev, slD, cutD, okR, sNext, sNever, sBrk, sCnt, dMake, makeG, PK.initD, iSeq, iDrop, iSet, iFld, dMeth, dIfE, isND, PK.isNon, oSome, oNone, HT.sIx, e1, e2, e3, e4, e5, encs, enc, tupI, o3, w0, w1, eqD_int]
end K51

set_option maxHeartbeats 0
namespace K51
open PySem L2 PK
theorem cl2f {G : GF} {m : Bool} {n k l : Nat} {fa : AF} {δ δ' : Dl} {rs : List Vl} {p p' q q' es : List D} (ea : fa δ = some (rs, δ')) (hl : rs.length = n) (hr : refs rs = [k, l]) (hkl : k ≠ l) (ek : δ'.st[k]? = some (some p)) (el : δ'.st[l]? = some (some q)) (eG : G (renum 0 rs) [p, q] = some (.fresh es, [p', q'])) :
    dCallN m n G fa δ = some (PK.mk m es { δ' with st := (δ'.st.set k (some p')).set l (some q') }) := by
  simp [dCallN, ea, hl, callG, hr, lives, ek, el, eG, PK.putAll, hkl]
noncomputable def tt1 : SF := (sPar [2, 3] (aCons (dLst true (aCons (dOp ixD (dLst false (aCons (dC (.int 12)) (aCons (dC (.int 6)) aNil))) (dOp subD (dVar 1) (dC (.int 2)))) aNil)) (aCons (dLst false aNil) aNil)))
noncomputable def cPr : EF := dCallN false 3 G_law_pair (aCons (dVar 0) (aCons (dVar 1) (aCons (dVar 2) aNil)))
noncomputable def cWh : EF := dCallN false 2 G_law_wheel (aCons (dVar 0) (aCons (dVar 1) aNil))
noncomputable def cPl : EF := dCallN false 2 G_law_plain (aCons (dVar 0) (aCons (dVar 1) aNil))
noncomputable def cDr (k : Int) : EF := dCallN false 2 G_law_draw (aCons (dVar 0) (aCons (dC (.int k)) aNil))
noncomputable def tt2 : SF := (sIf (dB (dOp (eqD false) (cDr 3) (dC (.int 0)))) (sRet (dOp (addD true) (dOp (addD false) cPr cWh) cPr)) sNext)
noncomputable def tb1 : SF := (sSet 5 (dLst false (aCons cPl aNil)))
noncomputable def tb2 : SF := (sIf (dB (dOp (eqD false) (cDr 2) (dC (.int 0)))) (sSet 5 cPr) sNext)
noncomputable def tb3 : SF := (sSet 3 (dIfE (dB (dOp ltD (dOp (addD false) (dCB lenD (aCons (dVar 3) aNil)) (dCB lenD (aCons (dVar 5) aNil))) (dC (.int 7)))) (dOp (addD false) (dVar 3) (dVar 5)) (dVar 3)))
theorem f_law_turning_eq : f_law_turning = sSeq tt1 (sSeq tt2 (sSeq (sFor (iRg1 (cDr 5)) (.nm 4) (sSeq tb1 (sSeq tb2 tb3))) (sRet (dVar 3)))) := rfl
def tst (n : Nat) (p : List D) (R : Int) (fd : List D) (x4 x5 : Option Vl) : Dl := ⟨[some (.rf 0), some (.fz (.int n)), some (.rf 1), some (.fz (.lst fd)), x4, x5], [some p, some [.int R]]⟩
/-- what the law turns round: few steps, the product of their divisors bounded -/
def Few (n : Nat) (R R0 : Int) (ss : List S) : Prop := (∀ s ∈ ss, Dr n s) ∧ ss.length ≤ 6 ∧ prL ss * R ≤ R0
theorem prL_two {ss : List S} (s t : S) : prL (ss ++ [s, t]) = prL ss * (dvL s * dvL t) := by
  rw [show ss ++ [s, t] = (ss ++ [s]) ++ [t] by simp, prL_app, prL_app, Int.mul_assoc]
section
variable {n m : Nat} {p : List D} {R R0 : Int} {fd : List D} {x4 x5 : Option Vl}
theorem d_Dr {k : Int} (hk : 0 < k) (hk2 : k ≤ 100) (hp : Pool m p) (hm : m ≤ 9000) : ∃ d p', cDr k (tst n p R fd x4 x5) = some (.fz (.int d), tst n p' R fd x4 x5) ∧ 0 ≤ d ∧ d < k ∧ Pool (m + 1) p' := by
  obtain ⟨d, p1, e1, a1, a2, hp1⟩ := g_draw (many := k) hp hk (by omega) (by omega)
  exact ⟨d, p1, cl1 (G := G_law_draw) (m := false) (n := 2) (fa := aCons (dVar 0) (aCons (dC (.int k)) aNil)) (δ := tst n p R fd x4 x5) (k := 0) rfl rfl rfl rfl e1, a1, a2, hp1⟩
theorem d_Pr (hn : n = 2 ∨ n = 3) (hp : Pool m p) (hm : m ≤ 5000) (h1 : 1 ≤ R) (h2 : R ≤ 12) : ∃ s t R' p', cPr (tst n p R fd x4 x5) = some (.fz (.lst (encs [s, t])), tst n p' R' fd x4 x5) ∧ Dr n s ∧ Dr n t ∧ 1 ≤ R' ∧ R' ≤ 12 ∧ dvL s * dvL t * R' ≤ R ∧ Pool (m + 12) p' := by
  obtain ⟨s, t, R', p', e, a, b, c, d, f, g⟩ := g_pair hn hp (by omega) h1 h2
  exact ⟨s, t, R', p', cl2f (G := G_law_pair) (m := false) (n := 3) (fa := aCons (dVar 0) (aCons (dVar 1) (aCons (dVar 2) aNil))) (δ := tst n p R fd x4 x5) (k := 0) (l := 1) rfl rfl rfl (by decide) rfl rfl e, a, b, c, d, f, g⟩
theorem d_Wh (hn : n = 2 ∨ n = 3) (hp : Pool m p) (hm : m ≤ 5000) : ∃ s t p', cWh (tst n p R fd x4 x5) = some (.fz (.lst (encs [s, t])), tst n p' R fd x4 x5) ∧ Dr n s ∧ Dr n t ∧ dvL s = 1 ∧ dvL t = 1 ∧ Pool (m + 7) p' := by
  obtain ⟨s, t, p', e, a, b, c, d, g⟩ := g_wheel hn hp (by omega)
  exact ⟨s, t, p', cl1f (G := G_law_wheel) (m := false) (n := 2) (fa := aCons (dVar 0) (aCons (dVar 1) aNil)) (δ := tst n p R fd x4 x5) (k := 0) rfl rfl rfl rfl e, a, b, c, d, g⟩
theorem d_Pl (hn : n = 2 ∨ n = 3) (hp : Pool m p) (hm : m ≤ 5000) : ∃ s p', cPl (tst n p R fd x4 x5) = some (.fz (enc s), tst n p' R fd x4 x5) ∧ Dr n s ∧ dvL s = 1 ∧ Pool (m + 3) p' := by
  obtain ⟨s, p', e, a, g, b⟩ := g_plainL hn hp (by omega)
  exact ⟨s, p', cl1 (G := G_law_plain) (m := false) (n := 2) (fa := aCons (dVar 0) (aCons (dVar 1) aNil)) (δ := tst n p R fd x4 x5) (k := 0) rfl rfl rfl rfl e, a, b, g⟩
theorem add_enc {m : Bool} {ss ts : List S} {fa fb : EF} {δ δ1 δ2 : Dl} (e1 : fa δ = some (.fz (.lst (encs ss)), δ1)) (e2 : fb δ1 = some (.fz (.lst (encs ts)), δ2)) (hl : ss.length + ts.length ≤ 1000) : dOp (addD m) fa fb δ = some (PK.mk m (encs (ss ++ ts)) δ2) := by
  refine (dOp_ e1 e2 rfl rfl).trans ?_
  have hs : (encs ss).length + (encs ts).length ≤ small := by
    simp [encs, small]
    omega
  simp only [addD]
  rw [if_pos hs]
  simp [encs]
theorem d_tb {ss : List S} (hn : n = 2 ∨ n = 3) (hF : Few n R R0 ss) (hp : Pool m p) (hm : m ≤ 4000) (h1 : 1 ≤ R) (h2 : R ≤ 12) : ∃ ts R' p' y5, sSeq tb1 (sSeq tb2 tb3) (tst n p R (encs ss) x4 x5) = some (.nx, tst n p' R' (encs ts) x4 y5) ∧ Few n R' R0 ts ∧ 1 ≤ R' ∧ R' ≤ 12 ∧ Pool (m + 20) p' := by
  obtain ⟨hd, hl, hr⟩ := hF
  have pos := prL_1 hd
  obtain ⟨s, p1, e1, ds, v1, hp1⟩ := d_Pl (R := R) (fd := encs ss) (x4 := x4) (x5 := x5) hn hp (by omega)
  have s1 : tb1 (tst n p R (encs ss) x4 x5) = some (.nx, tst n p1 R (encs ss) x4 (some (.fz (.lst (encs [s]))))) := by
    have e : dLst false (aCons cPl aNil) (tst n p R (encs ss) x4 x5) = some (.fz (.lst (encs [s])), tst n p1 R (encs ss) x4 x5) := by
      rw [dLst, aC e1 (g := aNil) rfl]
      rfl
    exact (sSet_ e).trans rfl
  obtain ⟨d, p2, e2, a1, a2, hp2⟩ := d_Dr (n := n) (R := R) (fd := encs ss) (x4 := x4) (x5 := some (.fz (.lst (encs [s])))) (k := 2) (by decide) (by decide) hp1 (by omega)
  have t2 := dB_ ((dOp_ (g := eqD false) (fb := dC (.int 0)) e2 rfl rfl rfl).trans (eqD_int (neg := false)))
  -- the last assignment
  have last : ∀ {us : List S} {R'' : Int} {q : List D}, (∀ u ∈ us, Dr n u) → us.length ≤ 2 → 1 ≤ R'' → prL (ss ++ us) * R'' ≤ R0 → prL ss * R'' ≤ R0 → ∃ ts, tb3 (tst n q R'' (encs ss) x4 (some (.fz (.lst (encs us))))) = some (.nx, tst n q R'' (encs ts) x4 (some (.fz (.lst (encs us))))) ∧ Few n R'' R0 ts := by
    intro us R'' q hu lu hR hP hP2
    let δ := tst n q R'' (encs ss) x4 (some (.fz (.lst (encs us))))
    have l3 : dCB lenD (aCons (dVar 3) aNil) δ = some (.fz (.int (ss.length : Int)), δ) := by
      have : ((encs ss).length : Int) = ss.length := by simp [encs]
      rw [← this]
      rfl
    have l5 : dCB lenD (aCons (dVar 5) aNil) δ = some (.fz (.int (us.length : Int)), δ) := by
      have : ((encs us).length : Int) = us.length := by simp [encs]
      rw [← this]
      rfl
    have k1 := (dOp_ (g := addD false) l3 l5 rfl rfl).trans (show addD false δ (.int (ss.length : Int)) (.int (us.length : Int)) = some (.fz (.int ((ss.length : Int) + (us.length : Int))), δ) from rfl)
    have t := dB_ ((dOp_ (g := ltD) (fb := dC (.int 7)) k1 rfl rfl rfl).trans (show ltD δ (.int ((ss.length : Int) + (us.length : Int))) (.int 7) = some (.fz (.bl (decide ((ss.length : Int) + (us.length : Int) < 7))), δ) from rfl))
    by_cases hlt : (ss.length : Int) + (us.length : Int) < 7
    · refine ⟨ss ++ us, ?_, fun x hx => (List.mem_append.mp hx).elim (hd x) (hu x), by simp; omega, hP⟩
      have e := add_enc (m := false) (ss := ss) (ts := us) (fa := dVar 3) (fb := dVar 5) (δ := δ) (δ1 := δ) (δ2 := δ) rfl rfl (by omega)
      have : dIfE (dB (dOp ltD (dOp (addD false) (dCB lenD (aCons (dVar 3) aNil)) (dCB lenD (aCons (dVar 5) aNil))) (dC (.int 7)))) (dOp (addD false) (dVar 3) (dVar 5)) (dVar 3) δ = some (.fz (.lst (encs (ss ++ us))), δ) := by
        rw [dIfE, t]
        simp only [hlt, decide_true, Option.bind_some, if_true]
        exact e
      exact (sSet_ this).trans rfl
    · refine ⟨ss, ?_, hd, hl, hP2⟩
      have : dIfE (dB (dOp ltD (dOp (addD false) (dCB lenD (aCons (dVar 3) aNil)) (dCB lenD (aCons (dVar 5) aNil))) (dC (.int 7)))) (dOp (addD false) (dVar 3) (dVar 5)) (dVar 3) δ = some (.fz (.lst (encs ss)), δ) := by
        rw [dIfE, t]
        simp only [hlt, decide_false, Option.bind_some, Bool.false_eq_true, if_false]
        rfl
      exact (sSet_ this).trans rfl
  rcases two a1 a2 with rfl | rfl
  · obtain ⟨u, v, R', p3, e3, du, dv', r1, r2, hr', hp3⟩ := d_Pr (fd := encs ss) (x4 := x4) (x5 := some (.fz (.lst (encs [s])))) hn hp2 (by omega) h1 h2
    have s2 : tb2 (tst n p1 R (encs ss) x4 (some (.fz (.lst (encs [s]))))) = some (.nx, tst n p3 R' (encs ss) x4 (some (.fz (.lst (encs [u, v]))))) := by
      unfold tb2
      rw [sIf_ t2]
      exact (sSet_ e3).trans rfl
    have du1 := dvL_1 du
    have dv1 := dvL_1 dv'
    have uv : 1 ≤ dvL u * dvL v := by
      have := Int.mul_le_mul du1 dv1 (by decide) (by omega)
      omega
    have hP : prL (ss ++ [u, v]) * R' ≤ R0 := by
      rw [prL_two, Int.mul_assoc]
      exact Int.le_trans (Int.mul_le_mul_of_nonneg_left hr' (by omega)) hr
    have hP2 : prL ss * R' ≤ R0 := by
      refine Int.le_trans (Int.mul_le_mul_of_nonneg_left ?_ (by omega)) hr
      have := Int.mul_le_mul_of_nonneg_right uv (show 0 ≤ R' by omega)
      omega
    obtain ⟨ts, e4, hts⟩ := last (us := [u, v]) (R'' := R') (q := p3) (fun x hx => by
      simp only [List.mem_cons, List.not_mem_nil, or_false] at hx
      rcases hx with rfl | rfl <;> assumption) (by simp) r1 hP hP2
    exact ⟨ts, R', p3, _, by rw [sSeq_nx s1, sSeq_nx s2, e4], hts, r1, r2, hp3.up (by omega)⟩
  · have s2 : tb2 (tst n p1 R (encs ss) x4 (some (.fz (.lst (encs [s]))))) = some (.nx, tst n p2 R (encs ss) x4 (some (.fz (.lst (encs [s]))))) := by
      unfold tb2
      rw [sIf_ t2]
      rfl
    obtain ⟨ts, e4, hts⟩ := last (us := [s]) (R'' := R) (q := p2) (fun x hx => by
      rw [List.mem_singleton.mp hx]
      exact ds) (by simp) h1 (by rw [prL_app, v1, Int.mul_one]; exact hr) hr
    exact ⟨ts, R, p2, _, by rw [sSeq_nx s1, sSeq_nx s2, e4], hts, h1, h2, hp2.up (by omega)⟩
/-- steps of a turning chain -/
theorem g_turning (hn : n = 2 ∨ n = 3) (hp : Pool m p) (hm : m ≤ 3000) : ∃ ss p' r, G_law_turning [.rf 0, .fz (.int n)] [p] = some (r, [p']) ∧ (r = .fresh (encs ss) ∨ r = .val (.lst (encs ss))) ∧ (∀ s ∈ ss, Dr n s) ∧ ss.length ≤ 6 ∧ prL ss ≤ (if n = 2 then 12 else 6) ∧ Pool (m + 90) p' := by
  let R0 : Int := if n = 2 then 12 else 6
  have r01 : 1 ≤ R0 ∧ R0 ≤ 12 := by rcases hn with rfl | rfl <;> exact ⟨by decide, by decide⟩
  have s1 : tt1 ⟨[some (.rf 0), some (.fz (.int n)), none, none, none, none], [some p]⟩ = some (.nx, tst n p R0 [] none none) := by rcases hn with rfl | rfl <;> rfl
  obtain ⟨d, p2, e2, a1, a2, hp2⟩ := d_Dr (n := n) (R := R0) (fd := []) (x4 := none) (x5 := none) (k := 3) (by decide) (by decide) hp (by omega)
  have t2 := dB_ ((dOp_ (g := eqD false) (fb := dC (.int 0)) e2 rfl rfl rfl).trans (eqD_int (neg := false)))
  by_cases hd : d = 0
  · subst hd
    obtain ⟨s, t, R1, p3, e3, ds, dt, f1, f2, f3, hp3⟩ := d_Pr (fd := []) (x4 := none) (x5 := none) hn hp2 (by omega) r01.1 r01.2
    obtain ⟨u, v, p4, e4, du, dv', g1, g2, hp4⟩ := d_Wh (R := R1) (fd := []) (x4 := none) (x5 := none) hn hp3 (by omega)
    obtain ⟨x, y, R2, p5, e5, dx, dy, k1, k2, k3, hp5⟩ := d_Pr (fd := []) (x4 := none) (x5 := none) hn hp4 (by omega) f1 f2
    have q1 := add_enc (m := false) e3 e4 (by simp)
    have q2 := add_enc (m := true) q1 e5 (by simp)
    have s2 : tt2 (tst n p R0 [] none none) = some (.rt (.rf 2), ⟨[some (.rf 0), some (.fz (.int n)), some (.rf 1), some (.fz (.lst [])), none, none], [some p5, some [.int R2], some (encs ([s, t] ++ [u, v] ++ [x, y]))]⟩) := by
      unfold tt2
      rw [sIf_ t2]
      show sRet _ _ = _
      rw [sRet, q2]
      rfl
    refine ⟨[s, t, u, v, x, y], p5, .fresh (encs [s, t, u, v, x, y]), ?_, .inl rfl, ?_, by simp, ?_, hp5.up (by omega)⟩
    · unfold G_law_turning fnD
      rw [f_law_turning_eq]
      show ((sSeq tt1 _ ⟨[some (.rf 0), some (.fz (.int n)), none, none, none, none], [some p]⟩).bind _) = _
      rw [sSeq_nx s1, sSeq, s2]
      rfl
    · intro z hz
      simp only [List.mem_cons, List.not_mem_nil, or_false] at hz
      rcases hz with rfl | rfl | rfl | rfl | rfl | rfl <;> assumption
    · have e : prL [s, t, u, v, x, y] = dvL s * dvL t * (dvL x * dvL y) := by
        have h1 := prL_two (ss := [s, t, u, v]) x y
        have h2 := prL_two (ss := [s, t]) u v
        have h3 := prL_two (ss := []) s t
        simp only [List.cons_append, List.nil_append] at h1 h2 h3
        rw [h1, h2, h3, g1, g2]
        simp [prL]
      rw [e]
      have dx1 := dvL_1 dx
      have dy1 := dvL_1 dy
      have ds1 := dvL_1 ds
      have dt1 := dvL_1 dt
      have st : 1 ≤ dvL s * dvL t := by
        have := Int.mul_le_mul ds1 dt1 (by decide) (by omega)
        omega
      have xy : 1 ≤ dvL x * dvL y := by
        have := Int.mul_le_mul dx1 dy1 (by decide) (by omega)
        omega
      have h4 : dvL x * dvL y ≤ R1 := by
        have := Int.mul_le_mul_of_nonneg_left k1 (show 0 ≤ dvL x * dvL y by omega)
        omega
      exact Int.le_trans (Int.mul_le_mul_of_nonneg_left h4 (by omega)) f3
  · have hd' : (d == 0) = false := by simp [hd]
    have s2 : tt2 (tst n p R0 [] none none) = some (.nx, tst n p2 R0 [] none none) := by
      unfold tt2
      rw [sIf_ t2]
      simp [hd']
      rfl
    obtain ⟨k, p3, e3, b1, b2, hp3⟩ := d_Dr (n := n) (R := R0) (fd := []) (x4 := none) (x5 := none) (k := 5) (by decide) (by decide) hp2 (by omega)
    obtain ⟨k, rfl⟩ := Int.eq_ofNat_of_zero_le b1
    have it : iRg1 (cDr 5) (tst n p2 R0 [] none none) = some (rangeD 0 k, [], tst n p3 R0 [] none none) := by
      rw [iRg1, e3, Option.bind_some]
      simp only
      rw [if_pos (by unfold okR; omega)]
      simp
    obtain ⟨δ', e, p4, R', ss, x4, x5, rfl, hF, r1, r2, hp4⟩ := forD_inv (tg := .nm 4) (body := sSeq tb1 (sSeq tb2 tb3)) (ck := []) (fun j δ => ∃ p R ss x4 x5, δ = tst n p R (encs ss) x4 x5 ∧ Few n R R0 ss ∧ 1 ≤ R ∧ R ≤ 12 ∧ Pool (m + 2 + 20 * j) p) (fun i δ _ => by simp) (rangeD 0 k) 0 (tst n p3 R0 [] none none) ⟨p3, R0, [], none, none, rfl, ⟨fun _ h => (by cases h), by simp, by simp [prL]⟩, r01.1, r01.2, hp3.up (by omega)⟩ (by
      rintro j d δ hj ⟨p, R, ss, x4, x5, rfl, hF, r1, r2, hp⟩
      have hjk : j < k := by
        obtain ⟨hlt, _⟩ := List.getElem?_eq_some_iff.mp hj
        simpa [rangeD] using hlt
      rw [rangeD_get hjk] at hj
      cases hj
      obtain ⟨ts, R', p', y5, e, hF', q1, q2, hp'⟩ := d_tb (x4 := some (.fz (.int (0 + (j : Int))))) (x5 := x5) hn hF hp (by omega) r1 r2
      exact ⟨_, rfl, _, e, p', R', ts, _, _, rfl, hF', q1, q2, hp'.up (by omega)⟩)
    rw [Nat.zero_add, rangeD_len] at hp4
    have s3 : sFor (iRg1 (cDr 5)) (.nm 4) (sSeq tb1 (sSeq tb2 tb3)) (tst n p2 R0 [] none none) = some (.nx, tst n p4 R' (encs ss) x4 x5) := by
      rw [sFor, it]
      exact e
    refine ⟨ss, p4, .val (.lst (encs ss)), ?_, .inr rfl, hF.1, hF.2.1, ?_, hp4.up (by omega)⟩
    · unfold G_law_turning fnD
      rw [f_law_turning_eq]
      show ((sSeq tt1 _ ⟨[some (.rf 0), some (.fz (.int n)), none, none, none, none], [some p]⟩).bind _) = _
      rw [sSeq_nx s1, sSeq_nx s2, sSeq_nx s3]
      rfl
    · have := Int.mul_le_mul_of_nonneg_left r1 (show 0 ≤ prL ss by have := prL_1 hF.1; omega)
      have h5 := hF.2.2
      show prL ss ≤ R0
      omega
end
end K51

set_option maxHeartbeats 0
namespace K51
open PySem L2 PK
theorem toPys_ints : ∀ (a : List Int), toPys (a.map D.int) = some (a.map PyData.int)
  | [] => rfl
  | x :: a => by simp [toPys, toPy, toPys_ints a]
theorem eqv_ints : ∀ (a b : List Int), PyData.eqvAll (a.map PyData.int) (b.map PyData.int) = decide (a = b)
  | [], [] => rfl
  | [], y :: b => rfl
  | x :: a, [] => rfl
  | x :: a, y :: b => by
    rw [List.map_cons, List.map_cons, PyData.eqvAll, eqv_ints a b, PyData.eqv]
    simp only [List.cons.injEq, Bool.decide_and]
    rfl
theorem eqD_tup {neg : Bool} {δ : Dl} {a b : List Int} : eqD neg δ (tupI a) (tupI b) = some (.fz (.bl (neg != decide (a = b))), δ) := by
  have nice : ∀ v : List Int, Nice 1 (tupI v) := fun v => nice_tup (k := 0) fun d hd => by
    obtain ⟨i, _, rfl⟩ := List.mem_map.mp hd
    exact nice_int
  obtain ⟨x, hx⟩ := eqD_val (nice a) (nice b) (by decide)
  have h1 : ∀ v : List Int, toPy (tupI v) = some (.tuple (v.map PyData.int)) := fun v => by
    rw [tupI, toPy, toPys_ints]
    rfl
  have := hx false δ
  rw [hx neg δ]
  unfold eqD at this
  rw [h1, h1] at this
  simp only [PyData.eqv, eqv_ints] at this
  split at this
  · simp at this
    rw [← this]
  · cases this
/-! ### steps with remainders -/
def wm (w : Int) (v : List Int) : List Int := v.map fun x => x % w
def gow (w : Int) (s : S) (v : List Int) : List Int := wm w (go s v)
def runsw (w : Int) : List S → List Int → List Int
  | [], v => v
  | s :: ss, v => runsw w ss (gow w s v)
def Bx (n : Nat) (w : Int) (v : List Int) : Prop := v.length = n ∧ ∀ x ∈ v, 0 ≤ x ∧ x < w
theorem wm_box {n : Nat} {w : Int} {v : List Int} (hw : 1 ≤ w) (hv : v.length = n) : Bx n w (wm w v) := ⟨by simp [wm, hv], fun x hx => by
  obtain ⟨y, _, rfl⟩ := List.mem_map.mp hx
  exact ⟨Int.emod_nonneg _ (by omega), Int.emod_lt_of_pos _ (by omega)⟩⟩
theorem gow_box {n : Nat} {w : Int} {s : S} {v : List Int} (hw : 1 ≤ w) (hv : v.length = n) : Bx n w (gow w s v) := wm_box hw (by rw [go_len, hv])
theorem runsw_box {n : Nat} {w : Int} (hw : 1 ≤ w) : ∀ {ss : List S} {v : List Int}, Bx n w v → Bx n w (runsw w ss v)
  | [], v, h => h
  | s :: ss, v, h => show Bx n w (runsw w ss (gow w s v)) from runsw_box hw (gow_box (s := s) hw h.1)
theorem em {x w : Int} (h : 0 ≤ x ∧ x < w) : x % w = x := Int.emod_eq_of_lt h.1 h.2
theorem ea {x K w : Int} (h : 0 ≤ x ∧ x < w) : ((x + K) % w + -K) % w = x := by
  rw [Int.emod_add_emod, show x + K + -K = x by omega, em h]
theorem en {x w : Int} (h : 0 ≤ x ∧ x < w) : -(-x % w) % w = x := by
  rw [← Int.sub_zero (-(-x % w)), show -(-x % w) - 0 = 0 - -x % w by omega, Int.sub_emod, Int.emod_emod, ← Int.sub_emod, show (0 : Int) - -x = x by omega, em h]
theorem bk1 (w y m d : Int) (h : 1 ≤ d) : (-w * y + (d - 1 - m)) / d = -((w * y + m) / d) := by
  rw [show -w * y + (d - 1 - m) = d - 1 - (w * y + m) by rw [Int.neg_mul]; omega, floor_back _ _ h]
theorem bk2 (w y u z m d : Int) (h : 1 ≤ d) : (-w * y + -u * z + (d - 1 - m)) / d = -((w * y + u * z + m) / d) := by
  rw [show -w * y + -u * z + (d - 1 - m) = d - 1 - (w * y + u * z + m) by rw [Int.neg_mul, Int.neg_mul]; omega, floor_back _ _ h]
theorem gow_back {n : Nat} {w : Int} (hn : n = 2 ∨ n = 3) {v : List Int} (hv : Bx n w v) {s : S} (h : Ok n s) : gow w (back s) (gow w s v) = v := by
  obtain ⟨hl, hb⟩ := hv
  revert hb
  refine ok_cases (P := fun n v s => (∀ x ∈ v, 0 ≤ x ∧ x < w) → gow w (back s) (gow w s v) = v) hn hl h ?_ ?_ ?_ ?_ ?_ ?_ ?_ ?_ ?_ ?_ ?_ ?_ ?_ ?_
  · intro x y u m d hw h1 h2 h3 h4 hb
    have hx := hb x (by simp)
    have hy := hb y (by simp)
    have := bk1 u y m d h3
    simp [gow, wm, go, back, dotI, em hx, em hy, this, ea hx]
  · intro x y u m d hw h1 h2 h3 h4 hb
    have hx := hb x (by simp)
    have hy := hb y (by simp)
    have := bk1 u x m d h3
    simp [gow, wm, go, back, dotI, em hx, em hy, this, ea hy]
  · intro x y hb
    have hx := hb x (by simp)
    have hy := hb y (by simp)
    simp [gow, wm, go, back, em hx, em hy]
  · intro x y hb
    have hx := hb x (by simp)
    have hy := hb y (by simp)
    simp [gow, wm, go, back, em hx, em hy, en hx]
  · intro x y hb
    have hx := hb x (by simp)
    have hy := hb y (by simp)
    simp [gow, wm, go, back, em hx, em hy, en hy]
  · intro x y z u t m d hw hu h1 h2 h3 h4 hb
    have hx := hb x (by simp)
    have hy := hb y (by simp)
    have hz := hb z (by simp)
    have := bk2 u y t z m d h3
    simp [gow, wm, go, back, dotI, em hx, em hy, em hz, this, ea hx]
  · intro x y z u t m d hw hu h1 h2 h3 h4 hb
    have hx := hb x (by simp)
    have hy := hb y (by simp)
    have hz := hb z (by simp)
    have := bk2 u x t z m d h3
    simp [gow, wm, go, back, dotI, em hx, em hy, em hz, this, ea hy]
  · intro x y z u t m d hw hu h1 h2 h3 h4 hb
    have hx := hb x (by simp)
    have hy := hb y (by simp)
    have hz := hb z (by simp)
    have := bk2 u x t y m d h3
    simp [gow, wm, go, back, dotI, em hx, em hy, em hz, this, ea hz]
  all_goals
    intro x y z hb
    have hx := hb x (by simp)
    have hy := hb y (by simp)
    have hz := hb z (by simp)
    simp [gow, wm, go, back, em hx, em hy, em hz, en hx, en hy, en hz]
theorem runsw_inj {n : Nat} {w : Int} (hn : n = 2 ∨ n = 3) (hw : 1 ≤ w) : ∀ {ss : List S} {u v : List Int}, Oks n ss → Bx n w u → Bx n w v → runsw w ss u = runsw w ss v → u = v
  | [], u, v, _, _, _, e => e
  | s :: ss, u, v, h, hu, hv, e => by
    have e2 := runsw_inj hn hw (fun x hx => h x (List.mem_cons_of_mem _ hx)) (gow_box (s := s) hw hu.1) (gow_box (s := s) hw hv.1) e
    rw [← gow_back hn hu (h s List.mem_cons_self), e2, gow_back hn hv (h s List.mem_cons_self)]
/-! ### rounds -/
def itr (f : List Int → List Int) : Nat → List Int → List Int
  | 0, v => v
  | k + 1, v => f (itr f k v)
theorem itr_add (f : List Int → List Int) (v : List Int) (j : Nat) : ∀ k, itr f (k + j) v = itr f k (itr f j v)
  | 0 => by rw [Nat.zero_add]; rfl
  | k + 1 => by rw [show k + 1 + j = (k + j) + 1 by omega, itr, itr_add f v j k, itr]
theorem pigeon : ∀ (N : Nat) (f : Nat → Nat), (∀ i, i ≤ N → f i < N) → ∃ i j, i < j ∧ j ≤ N ∧ f i = f j
  | 0, f, h => absurd (h 0 (Nat.le_refl _)) (by omega)
  | N + 1, f, h => by
    by_cases hx : ∃ i, i ≤ N ∧ f i = f (N + 1)
    · obtain ⟨i, hi, e⟩ := hx
      exact ⟨i, N + 1, by omega, Nat.le_refl _, e⟩
    · have ne : ∀ i, i ≤ N → f i ≠ f (N + 1) := fun i hi e => hx ⟨i, hi, e⟩
      let g : Nat → Nat := fun i => if f i = N then f (N + 1) else f i
      obtain ⟨i, j, hij, hj, e⟩ := pigeon N g fun i hi => by
        show (if f i = N then f (N + 1) else f i) < N
        have h1 := h i (by omega)
        have h2 := h (N + 1) (Nat.le_refl _)
        have h3 := ne i hi
        split <;> omega
      refine ⟨i, j, hij, by omega, ?_⟩
      have h1 := ne i (by omega)
      have h2 := ne j hj
      have e' : (if f i = N then f (N + 1) else f i) = (if f j = N then f (N + 1) else f j) := e
      split at e' <;> split at e' <;> omega
def code (w : Int) : List Int → Int
  | [] => 0
  | x :: v => x + w * code w v
theorem code_inj {w : Int} (hw : 1 ≤ w) : ∀ {u v : List Int}, u.length = v.length → (∀ x ∈ u, 0 ≤ x ∧ x < w) → (∀ x ∈ v, 0 ≤ x ∧ x < w) → code w u = code w v → u = v
  | [], [], _, _, _, _ => rfl
  | x :: u, y :: v, hl, hu, hv, e => by
    have hx := hu x List.mem_cons_self
    have hy := hv y List.mem_cons_self
    have e' : x + w * code w u = y + w * code w v := e
    have m1 : (x + w * code w u) % w = x := by rw [Int.add_mul_emod_self_left, em hx]
    have m2 : (y + w * code w v) % w = y := by rw [Int.add_mul_emod_self_left, em hy]
    have exy : x = y := by rw [← m1, e', m2]
    subst exy
    have : code w u = code w v := by
      have q : w * code w u = w * code w v := by omega
      exact Int.eq_of_mul_eq_mul_left (by omega) q
    rw [code_inj hw (by simpa using hl) (fun z hz => hu z (List.mem_cons_of_mem _ hz)) (fun z hz => hv z (List.mem_cons_of_mem _ hz)) this]
theorem code2 {w x y : Int} (hw : 1 ≤ w ∧ w ≤ 16) (hx : 0 ≤ x ∧ x < w) (hy : 0 ≤ y ∧ y < w) : 0 ≤ code w [x, y] ∧ code w [x, y] < 256 := by
  have a : 0 ≤ w * y := Int.mul_nonneg (by omega) hy.1
  have b : w * y ≤ 16 * 15 := Int.mul_le_mul hw.2 (by omega) hy.1 (by decide)
  simp only [code, Int.mul_zero, Int.add_zero]
  omega
theorem code3 {w x y z : Int} (hw : 1 ≤ w ∧ w ≤ 6) (hx : 0 ≤ x ∧ x < w) (hy : 0 ≤ y ∧ y < w) (hz : 0 ≤ z ∧ z < w) : 0 ≤ code w [x, y, z] ∧ code w [x, y, z] < 256 := by
  have a : 0 ≤ w * z := Int.mul_nonneg (by omega) hz.1
  have b : w * z ≤ 6 * 5 := Int.mul_le_mul hw.2 (by omega) hz.1 (by decide)
  have c : 0 ≤ w * (y + w * z) := Int.mul_nonneg (by omega) (by omega)
  have d : w * (y + w * z) ≤ 6 * 35 := Int.mul_le_mul hw.2 (by omega) (by omega) (by decide)
  simp only [code, Int.mul_zero, Int.add_zero]
  omega
def Wid (n : Nat) (w : Int) : Prop := 1 ≤ w ∧ (n = 2 ∧ w ≤ 16 ∨ n = 3 ∧ w ≤ 6)
theorem code_box {n : Nat} {w : Int} {v : List Int} (hw : Wid n w) (hv : Bx n w v) : 0 ≤ code w v ∧ code w v < 256 := by
  obtain ⟨h1, ⟨rfl, h2⟩ | ⟨rfl, h2⟩⟩ := hw
  · obtain ⟨x, y, rfl⟩ := len2 hv.1
    exact code2 ⟨h1, h2⟩ (hv.2 x (by simp)) (hv.2 y (by simp))
  · obtain ⟨x, y, z, rfl⟩ := len3 hv.1
    exact code3 ⟨h1, h2⟩ (hv.2 x (by simp)) (hv.2 y (by simp)) (hv.2 z (by simp))
theorem itr_box {n : Nat} {w : Int} {ss : List S} {v : List Int} (hw : 1 ≤ w) (hv : Bx n w v) : ∀ k, Bx n w (itr (runsw w ss) k v)
  | 0 => hv
  | k + 1 => runsw_box hw (itr_box hw hv k)
theorem itr_inj {n : Nat} {w : Int} (hn : n = 2 ∨ n = 3) (hw : 1 ≤ w) {ss : List S} (h : Oks n ss) : ∀ (k : Nat) {u v : List Int}, Bx n w u → Bx n w v → itr (runsw w ss) k u = itr (runsw w ss) k v → u = v
  | 0, _, _, _, _, e => e
  | k + 1, u, v, hu, hv, e => itr_inj hn hw h k hu hv (runsw_inj hn hw h (itr_box hw hu k) (itr_box hw hv k) e)
/-- the cycle's length -/
theorem cycle {n : Nat} {w : Int} (hn : n = 2 ∨ n = 3) (hw : Wid n w) {ss : List S} (h : Oks n ss) {v : List Int} (hv : Bx n w v) : ∃ L, 1 ≤ L ∧ L ≤ 256 ∧ itr (runsw w ss) L v = v ∧ ∀ k, 1 ≤ k → k < L → itr (runsw w ss) k v ≠ v := by
  have ex : ∃ L, 1 ≤ L ∧ L ≤ 256 ∧ itr (runsw w ss) L v = v := by
    obtain ⟨i, j, hij, hj, e⟩ := pigeon 256 (fun k => (code w (itr (runsw w ss) k v)).toNat) fun k _ => by
      have := code_box hw (itr_box (ss := ss) hw.1 hv k)
      omega
    have bi := itr_box (ss := ss) hw.1 hv i
    have bj := itr_box (ss := ss) hw.1 hv j
    have ci := code_box hw bi
    have cj := code_box hw bj
    have e2 := code_inj hw.1 (bi.1.trans bj.1.symm) bi.2 bj.2 (by omega)
    have e3 : itr (runsw w ss) j v = itr (runsw w ss) i (itr (runsw w ss) (j - i) v) := by
      rw [← itr_add]
      congr 1
      omega
    rw [e3] at e2
    exact ⟨j - i, by omega, by omega, (itr_inj hn hw.1 h i hv (itr_box hw.1 hv _) e2).symm⟩
  obtain ⟨L, h1, h2, h3⟩ := ex
  have low : ∀ M : Nat, (1 ≤ M ∧ M ≤ 256 ∧ itr (runsw w ss) M v = v) → ∃ L, 1 ≤ L ∧ L ≤ 256 ∧ itr (runsw w ss) L v = v ∧ ∀ k, 1 ≤ k → k < L → itr (runsw w ss) k v ≠ v := by
    intro M
    induction M using Nat.strongRecOn with
    | ind M ih =>
      intro hM
      by_cases q : ∃ k, 1 ≤ k ∧ k < M ∧ itr (runsw w ss) k v = v
      · obtain ⟨k, a, b, c⟩ := q
        exact ih k b ⟨a, by omega, c⟩
      · exact ⟨M, hM.1, hM.2.1, hM.2.2, fun k a b c => q ⟨k, a, b, c⟩⟩
  exact low L ⟨h1, h2, h3⟩
end K51

set_option maxHeartbeats 0
namespace K51
open PySem L2 PK
theorem lcW {f elt : EF} {i : Nat} {sl : List (Option Vl)} {st : List (Option (List D))} {u : List Int} {w : Int} (e : f ⟨sl, st⟩ = some (.fz (tupI u), ⟨sl, st⟩)) (hl : u.length ≤ 10) (he : ∀ x : Int, elt ⟨(wipeD sl [i]).set i (some (.fz (.int x))), st⟩ = some (.fz (.int (x % w)), ⟨(wipeD sl [i]).set i (some (.fz (.int x))), st⟩)) : dCB tupD (aCons (dLc false (iSq f) (.nm i) [i] bYes elt) aNil) ⟨sl, st⟩ = some (.fz (tupI (wm w u)), ⟨sl, st⟩) := by
  have it : iSq f ⟨sl, st⟩ = some (u.map D.int, [], ⟨sl, st⟩) := by
    rw [iSq, e]
    rfl
  have e4 := lcGo_map (own := [i]) (elt := elt) (i := i) (sl := wipeD sl [i]) (st := st) (en := D.int) (out := fun x => D.int (x % w)) u [] (by simp [small]; omega) fun x _ => ⟨_, he x⟩
  rw [List.nil_append] at e4
  have e5 : dLc false (iSq f) (.nm i) [i] bYes elt ⟨sl, st⟩ = some (.fz (.lst ((wm w u).map D.int)), ⟨sl, st⟩) := by
    rw [dLc, it, Option.bind_some]
    show (Option.map _ (lcGo [] (.nm i) [i] bYes elt (wipeD sl [i]) (u.map D.int) [] ⟨wipeD sl [i], st⟩)) = _
    rw [e4, wm, List.map_map]
    rfl
  rw [dCB, aC e5 (g := aNil) rfl]
  rfl
noncomputable def rB : SF := (sSet 2 (dCB tupD (aCons (dLc false (iSq (dCallN false 2 G_apply_step (aCons (dVar 3) (aCons (dVar 2) aNil)))) (.nm 4) [4] bYes (dOp modD (dVar 4) (dVar 1))) aNil)))
theorem f_wrapped_round_eq : f_wrapped_round = sSeq (sFor (iSq (dVar 0)) (.nm 3) rB) (sRet (dVar 2)) := rfl
noncomputable def oB : SF := (sSet 3 (dCB tupD (aCons (dLc false (iSq (dCallN false 2 G_law_done (aCons (dVar 4) (aCons (dVar 3) aNil)))) (.nm 5) [5] bYes (dOp modD (dCB intD (aCons (dVar 5) aNil)) (dVar 1))) aNil)))
theorem f_law_once_eq : f_law_once = sSeq (sSet 3 (dVar 2)) (sSeq (sFor (iSq (dVar 0)) (.nm 4) oB) (sRet (dVar 3))) := rfl
section
variable {n : Nat} {w : Int} {ss : List S} {v : List Int}
theorem box_bd (hw : Wid n w) (hv : Bx n w v) : Bd 5 v := fun x hx => by
  have := hv.2 x hx
  obtain ⟨h1, ⟨_, h2⟩ | ⟨_, h2⟩⟩ := hw <;> omega
theorem d_rounds {A : D} (hn : n = 2 ∨ n = 3) (hw : Wid n w) : ∀ (ss : List S) (v : List Int) (x3 x4 : Option Vl), Oks n ss → Bx n w v → ∃ y3, forD [] (.nm 3) rB (encs ss) ⟨[some (.fz A), some (.fz (.int w)), some (.fz (tupI v)), x3, x4], []⟩ = some (.nx, ⟨[some (.fz A), some (.fz (.int w)), some (.fz (tupI (runsw w ss v))), y3, x4], []⟩)
  | [], v, x3, x4, _, _ => ⟨x3, forD_nil0⟩
  | s :: ss, v, x3, x4, h, hv => by
    have hs := h s List.mem_cons_self
    obtain ⟨y3, ih⟩ := d_rounds (A := A) hn hw ss (gow w s v) (some (.fz (enc s))) x4 (fun x hx => h x (List.mem_cons_of_mem _ hx)) (gow_box hw.1 hv.1)
    refine ⟨y3, forD_nm ?_ ih⟩
    have e1 := cl0 (G := G_apply_step) (m := false) (n := 2) (fa := aCons (dVar 3) (aCons (dVar 2) aNil)) (δ := ⟨[some (.fz A), some (.fz (.int w)), some (.fz (tupI v)), some (.fz (enc s)), x4], []⟩) rfl rfl rfl (g_apply hn hv.1 hs (box_bd hw hv) (by decide))
    have e2 := lcW (elt := dOp modD (dVar 4) (dVar 1)) (i := 4) (w := w) e1 (by rw [go_len, hv.1]; omega) fun x => by
      refine (dOp_ (g := modD) (fa := dVar 4) (fb := dVar 1) (x := .fz (.int x)) (y := .fz (.int w)) rfl rfl rfl rfl).trans ?_
      have := hw.1
      simp only [modD]
      rw [if_pos (by omega)]
    exact (sSet_ e2).trans rfl
theorem g_round (hn : n = 2 ∨ n = 3) (hw : Wid n w) (h : Oks n ss) (hv : Bx n w v) : G_wrapped_round [.fz (.lst (encs ss)), .fz (.int w), .fz (tupI v)] [] = some (.val (tupI (runsw w ss v)), []) := by
  obtain ⟨y3, e⟩ := d_rounds (A := .lst (encs ss)) hn hw ss v none none h hv
  unfold G_wrapped_round fnD
  rw [f_wrapped_round_eq]
  show ((sSeq _ _ ⟨[some (.fz (.lst (encs ss))), some (.fz (.int w)), some (.fz (tupI v)), none, none], []⟩).bind _) = _
  have s1 : sFor (iSq (dVar 0)) (.nm 3) rB ⟨[some (.fz (.lst (encs ss))), some (.fz (.int w)), some (.fz (tupI v)), none, none], []⟩ = some (.nx, ⟨[some (.fz (.lst (encs ss))), some (.fz (.int w)), some (.fz (tupI (runsw w ss v))), y3, none], []⟩) := by
    rw [sFor]
    exact e
  rw [sSeq_nx s1]
  rfl
theorem d_onces {A B : D} (hn : n = 2 ∨ n = 3) (hw : Wid n w) : ∀ (ss : List S) (v : List Int) (x4 x5 : Option Vl), Oks n ss → Bx n w v → ∃ y4, forD [] (.nm 4) oB (encs ss) ⟨[some (.fz A), some (.fz (.int w)), some (.fz B), some (.fz (tupI v)), x4, x5], []⟩ = some (.nx, ⟨[some (.fz A), some (.fz (.int w)), some (.fz B), some (.fz (tupI (runsw w ss v))), y4, x5], []⟩)
  | [], v, x4, x5, _, _ => ⟨x4, forD_nil0⟩
  | s :: ss, v, x4, x5, h, hv => by
    have hs := h s List.mem_cons_self
    obtain ⟨y4, ih⟩ := d_onces (A := A) (B := B) hn hw ss (gow w s v) (some (.fz (enc s))) x5 (fun x hx => h x (List.mem_cons_of_mem _ hx)) (gow_box hw.1 hv.1)
    refine ⟨y4, forD_nm ?_ ih⟩
    have e1 := cl0 (G := G_law_done) (m := false) (n := 2) (fa := aCons (dVar 4) (aCons (dVar 3) aNil)) (δ := ⟨[some (.fz A), some (.fz (.int w)), some (.fz B), some (.fz (tupI v)), some (.fz (enc s)), x5], []⟩) rfl rfl rfl (g_done hn hv.1 hs (box_bd hw hv) (by decide))
    have e2 := lcW (elt := dOp modD (dCB intD (aCons (dVar 5) aNil)) (dVar 1)) (i := 5) (w := w) e1 (by rw [go_len, hv.1]; omega) fun x => by
      refine (dOp_ (g := modD) (fa := dCB intD (aCons (dVar 5) aNil)) (fb := dVar 1) (x := .fz (.int x)) (y := .fz (.int w)) rfl rfl rfl rfl).trans ?_
      have := hw.1
      simp only [modD]
      rw [if_pos (by omega)]
    exact (sSet_ e2).trans rfl
theorem g_once (hn : n = 2 ∨ n = 3) (hw : Wid n w) (h : Oks n ss) (hv : Bx n w v) : G_law_once [.fz (.lst (encs ss)), .fz (.int w), .fz (tupI v)] [] = some (.val (tupI (runsw w ss v)), []) := by
  obtain ⟨y4, e⟩ := d_onces (A := .lst (encs ss)) (B := tupI v) hn hw ss v none none h hv
  unfold G_law_once fnD
  rw [f_law_once_eq]
  show ((sSeq _ _ ⟨[some (.fz (.lst (encs ss))), some (.fz (.int w)), some (.fz (tupI v)), none, none, none], []⟩).bind _) = _
  have s0 : sSet 3 (dVar 2) ⟨[some (.fz (.lst (encs ss))), some (.fz (.int w)), some (.fz (tupI v)), none, none, none], []⟩ = some (.nx, ⟨[some (.fz (.lst (encs ss))), some (.fz (.int w)), some (.fz (tupI v)), some (.fz (tupI v)), none, none], []⟩) := rfl
  have s1 : sFor (iSq (dVar 0)) (.nm 4) oB ⟨[some (.fz (.lst (encs ss))), some (.fz (.int w)), some (.fz (tupI v)), some (.fz (tupI v)), none, none], []⟩ = some (.nx, ⟨[some (.fz (.lst (encs ss))), some (.fz (.int w)), some (.fz (tupI v)), some (.fz (tupI (runsw w ss v))), y4, none], []⟩) := by
    rw [sFor]
    exact e
  rw [sSeq_nx s0, sSeq_nx s1]
  rfl
/-! ### until it is back -/
def orbL (w : Int) (ss : List S) (v : List Int) (L : Nat) : List D := (List.range L).map fun k => tupI (itr (runsw w ss) k v)
theorem orb_succ (k : Nat) : orbL w ss v (k + 1) = orbL w ss v k ++ [tupI (itr (runsw w ss) k v)] := by simp [orbL, List.range_succ]
theorem orb_len (k : Nat) : (orbL w ss v k).length = k := by simp [orbL]
theorem orb_get {k j : Nat} (h : j < k) : (orbL w ss v k)[j]? = some (tupI (itr (runsw w ss) j v)) := by simp [orbL, h]
theorem whileCyc {L : Nat} (hw : 1 ≤ w) (hv : Bx n w v) (h1 : 1 ≤ L) (h2 : L ≤ 256) (hL : itr (runsw w ss) L v = v) (hmin : ∀ k, 1 ≤ k → k < L → itr (runsw w ss) k v ≠ v) {t : BF} {f : SF} {st : List D → List Int → Dl}
    (ht : ∀ k row, 1 ≤ k → t (st (orbL w ss v k) row) = some (decide (row ≠ v), st (orbL w ss v k) row))
    (hf : ∀ k row, k ≤ 256 → Bx n w row → f (st (orbL w ss v k) row) = some (.nx, st (orbL w ss v k ++ [tupI row]) (runsw w ss row))) : sWhile t f (st (orbL w ss v 1) (runsw w ss v)) = some (.nx, st (orbL w ss v L) v) := by
  have key : ∀ d k, k + d = L → 1 ≤ k → whileN t f (d + 1) (st (orbL w ss v k) (itr (runsw w ss) k v)) = some (.nx, st (orbL w ss v L) v) := by
    intro d
    induction d with
    | zero =>
      intro k hk k1
      obtain rfl : k = L := by omega
      rw [hL, whileN, ht k v k1]
      simp
    | succ d ih =>
      intro k hk k1
      have hne := hmin k k1 (by omega)
      rw [whileN, ht k _ k1]
      simp only [ne_eq, hne, not_false_eq_true, decide_true, Option.bind_some, if_true]
      rw [hf k _ (by omega) (itr_box hw hv k), ← orb_succ]
      exact ih (k + 1) (by omega) (by omega)
  exact sWhile_of (key (L - 1) 1 (by omega) (Nat.le_refl _)) (by omega)
noncomputable def wT : BF := (dB (dOp (eqD true) (dVar 5) (dOp ixD (dVar 4) (dC (.int 0)))))
noncomputable def wF : SF := (sSeq (sDrop (dMt appD (dVar 4) (aCons (dVar 5) aNil))) (sSet 5 (dCallN false 3 G_wrapped_round (aCons (dVar 3) (aCons (dVar 1) (aCons (dVar 5) aNil))))))
theorem f_wrapped_orbit_eq : f_wrapped_orbit = sSeq (sSet 3 (dMeth false "Chain" "" 1 G_Chain_steps (dVar 0) aNil)) (sSeq (sSet 4 (dLst true (aCons (dCB tupD (aCons (dVar 2) aNil)) aNil))) (sSeq (sSet 5 (dCallN false 3 G_wrapped_round (aCons (dVar 3) (aCons (dVar 1) (aCons (dOp ixD (dVar 4) (dC (.int 0))) aNil))))) (sSeq (sWhile wT wF) (sRet (dVar 4))))) := rfl
def ost (n : Nat) (ss : List S) (w : Int) (v : List Int) (acc : List D) (row : List Int) : Dl := ⟨[some (.fz (chD n ss)), some (.fz (.int w)), some (.fz (tupI v)), some (.fz (.lst (encs ss))), some (.rf 0), some (.fz (tupI row))], [some acc]⟩
theorem app_ {δ : Dl} {i k : Nat} {acc : List D} {d : D} {fb : EF} (h : dVar i δ = some (.rf k, δ)) (hk : δ.st[k]? = some (some acc)) (hb : fb δ = some (.fz d, δ)) (hl : acc.length < 1000) : sDrop (dMt appD (dVar i) (aCons fb aNil)) δ = some (.nx, ⟨δ.sl, δ.st.set k (some (acc ++ [d]))⟩) := by
  have hs : acc.length < small := by simp [small]; omega
  simp [sDrop, dMt, h, aCons, aNil, hb, frzs, frz, hk, appD, hs]
theorem g_orbit {L : Nat} (hn : n = 2 ∨ n = 3) (hw : Wid n w) (h : Oks n ss) (hv : Bx n w v) (h1 : 1 ≤ L) (h2 : L ≤ 256) (hL : itr (runsw w ss) L v = v) (hmin : ∀ k, 1 ≤ k → k < L → itr (runsw w ss) k v ≠ v) : G_wrapped_orbit [.fz (chD n ss), .fz (.int w), .fz (tupI v)] [] = some (.fresh (orbL w ss v L), []) := by
  let δ0 : Dl := ⟨[some (.fz (chD n ss)), some (.fz (.int w)), some (.fz (tupI v)), none, none, none], []⟩
  let δ1 : Dl := ⟨[some (.fz (chD n ss)), some (.fz (.int w)), some (.fz (tupI v)), some (.fz (.lst (encs ss))), none, none], []⟩
  let δ2 : Dl := ⟨[some (.fz (chD n ss)), some (.fz (.int w)), some (.fz (tupI v)), some (.fz (.lst (encs ss))), some (.rf 0), none], [some (orbL w ss v 1)]⟩
  have s1 : sSet 3 (dMeth false "Chain" "" 1 G_Chain_steps (dVar 0) aNil) δ0 = some (.nx, δ1) := (sSet_ (st_f (n := n) (ss := ss) (fo := dVar 0) (δ := δ0) rfl)).trans rfl
  have s2 : sSet 4 (dLst true (aCons (dCB tupD (aCons (dVar 2) aNil)) aNil)) δ1 = some (.nx, δ2) := rfl
  have k1 := cl0 (G := G_wrapped_round) (m := false) (n := 3) (fa := aCons (dVar 3) (aCons (dVar 1) (aCons (dOp ixD (dVar 4) (dC (.int 0))) aNil))) (δ := δ2) (rs := [.fz (.lst (encs ss)), .fz (.int w), .fz (tupI v)]) rfl rfl rfl (g_round hn hw h hv)
  have s3 : sSet 5 (dCallN false 3 G_wrapped_round (aCons (dVar 3) (aCons (dVar 1) (aCons (dOp ixD (dVar 4) (dC (.int 0))) aNil)))) δ2 = some (.nx, ost n ss w v (orbL w ss v 1) (runsw w ss v)) := (sSet_ k1).trans rfl
  have s4 : sWhile wT wF (ost n ss w v (orbL w ss v 1) (runsw w ss v)) = some (.nx, ost n ss w v (orbL w ss v L) v) := by
    refine whileCyc (n := n) (st := ost n ss w v) hw.1 hv h1 h2 hL hmin (fun k row k1 => ?_) (fun k row hk hr => ?_)
    · have q : dOp ixD (dVar 4) (dC (.int 0)) (ost n ss w v (orbL w ss v k) row) = some (.fz (tupI v), ost n ss w v (orbL w ss v k) row) := by
        refine (dOp_ (g := ixD) (fa := dVar 4) (fb := dC (.int 0)) (x := .rf 0) (y := .fz (.int 0)) (a := .lst (orbL w ss v k)) rfl rfl rfl rfl).trans ?_
        have a : atI (orbL w ss v k) ((0 : Nat) : Int) = some (tupI v) := atI_nat (orb_get (by omega))
        show ixD _ (.lst (orbL w ss v k)) (.int ((0 : Nat) : Int)) = _
        simp only [ixD, a]
        rfl
      have e := dB_ ((dOp_ (g := eqD true) (fa := dVar 5) (δ := ost n ss w v (orbL w ss v k) row) (x := .fz (tupI row)) rfl q rfl rfl).trans eqD_tup)
      unfold wT
      rw [e]
      simp
    · have a := app_ (δ := ost n ss w v (orbL w ss v k) row) (i := 4) (k := 0) (acc := orbL w ss v k) (d := tupI row) (fb := dVar 5) rfl rfl rfl (by rw [orb_len]; omega)
      have b := cl0 (G := G_wrapped_round) (m := false) (n := 3) (fa := aCons (dVar 3) (aCons (dVar 1) (aCons (dVar 5) aNil))) (δ := ost n ss w v (orbL w ss v k ++ [tupI row]) row) rfl rfl rfl (g_round hn hw h hr)
      unfold wF
      rw [sSeq_nx (a.trans rfl)]
      exact (sSet_ b).trans rfl
  unfold G_wrapped_orbit fnD
  rw [f_wrapped_orbit_eq]
  show ((sSeq _ _ δ0).bind _) = _
  rw [sSeq_nx s1, sSeq_nx s2, sSeq_nx s3, sSeq_nx s4]
  rfl
noncomputable def cT : BF := (dB (dOp (eqD true) (dVar 4) (dVar 2)))
noncomputable def cF : SF := (sSeq (sDrop (dMt appD (dVar 3) (aCons (dVar 4) aNil))) (sSet 4 (dCallN false 3 G_law_once (aCons (dVar 0) (aCons (dVar 1) (aCons (dVar 4) aNil))))))
theorem f_law_cycle_eq : f_law_cycle = sSeq (sSet 3 (dLst true (aCons (dVar 2) aNil))) (sSeq (sSet 4 (dCallN false 3 G_law_once (aCons (dVar 0) (aCons (dVar 1) (aCons (dVar 2) aNil))))) (sSeq (sWhile cT cF) (sRet (dVar 3)))) := rfl
def cst (ss : List S) (w : Int) (v : List Int) (acc : List D) (row : List Int) : Dl := ⟨[some (.fz (.lst (encs ss))), some (.fz (.int w)), some (.fz (tupI v)), some (.rf 0), some (.fz (tupI row))], [some acc]⟩
theorem g_cycle {L : Nat} (hn : n = 2 ∨ n = 3) (hw : Wid n w) (h : Oks n ss) (hv : Bx n w v) (h1 : 1 ≤ L) (h2 : L ≤ 256) (hL : itr (runsw w ss) L v = v) (hmin : ∀ k, 1 ≤ k → k < L → itr (runsw w ss) k v ≠ v) : G_law_cycle [.fz (.lst (encs ss)), .fz (.int w), .fz (tupI v)] [] = some (.fresh (orbL w ss v L), []) := by
  let δ0 : Dl := ⟨[some (.fz (.lst (encs ss))), some (.fz (.int w)), some (.fz (tupI v)), none, none], []⟩
  let δ2 : Dl := ⟨[some (.fz (.lst (encs ss))), some (.fz (.int w)), some (.fz (tupI v)), some (.rf 0), none], [some (orbL w ss v 1)]⟩
  have s2 : sSet 3 (dLst true (aCons (dVar 2) aNil)) δ0 = some (.nx, δ2) := rfl
  have k1 := cl0 (G := G_law_once) (m := false) (n := 3) (fa := aCons (dVar 0) (aCons (dVar 1) (aCons (dVar 2) aNil))) (δ := δ2) rfl rfl rfl (g_once hn hw h hv)
  have s3 : sSet 4 (dCallN false 3 G_law_once (aCons (dVar 0) (aCons (dVar 1) (aCons (dVar 2) aNil)))) δ2 = some (.nx, cst ss w v (orbL w ss v 1) (runsw w ss v)) := (sSet_ k1).trans rfl
  have s4 : sWhile cT cF (cst ss w v (orbL w ss v 1) (runsw w ss v)) = some (.nx, cst ss w v (orbL w ss v L) v) := by
    refine whileCyc (n := n) (st := cst ss w v) hw.1 hv h1 h2 hL hmin (fun k row k1 => ?_) (fun k row hk hr => ?_)
    · have e := dB_ ((dOp_ (g := eqD true) (fa := dVar 4) (fb := dVar 2) (δ := cst ss w v (orbL w ss v k) row) (x := .fz (tupI row)) (y := .fz (tupI v)) rfl rfl rfl rfl).trans eqD_tup)
      unfold cT
      rw [e]
      simp
    · have a := app_ (δ := cst ss w v (orbL w ss v k) row) (i := 3) (k := 0) (acc := orbL w ss v k) (d := tupI row) (fb := dVar 4) rfl rfl rfl (by rw [orb_len]; omega)
      have b := cl0 (G := G_law_once) (m := false) (n := 3) (fa := aCons (dVar 0) (aCons (dVar 1) (aCons (dVar 4) aNil))) (δ := cst ss w v (orbL w ss v k ++ [tupI row]) row) rfl rfl rfl (g_once hn hw h hr)
      unfold cF
      rw [sSeq_nx (a.trans rfl)]
      exact (sSet_ b).trans rfl
  unfold G_law_cycle fnD
  rw [f_law_cycle_eq]
  show ((sSeq _ _ δ0).bind _) = _
  rw [sSeq_nx s2, sSeq_nx s3, sSeq_nx s4]
  rfl
/-! ### what the program answers -/
theorem g_width (hw : 1 ≤ w) : G_check_width [.fz (.int w)] [] = some (.val .non, []) := by
  have : ¬ w < 1 := by omega
  unfold G_check_width f_check_width
  simp [fnD, sSeq, sSet, sDrop, sRet, sRetN, sIf, sAsg, sPar, sFor, forD, dC, dVar, dOp, der, ders, frz, frzs, dTup, dLst, aNil, aCons, aStar, PK.mk, dCB, PK.g1, PK.g2, lenD, absD, maxD, minD, PK.intD, listD, tupD, sumD, allD, intsD, bls, addD, subD, mulD, divD, modD, powD, cmpD, ixD, atI, ixN, dUn, negD, dB, truD, bNot, bAnd, bOr, bYes, dAndV, dOrV, dNotV, dChain, dFld, recvOk, dIsi, tyD, kitB, dCallN, callG, refs, renum, lives, PK.putAll, hNm, hSub, hNil, hCons, hTup, setIx, asgT, setAll, dMt, appD, extD, dLc, lcGo, wipeD, iSq, iRg1, iRg2, iZipD, iEnumD, iRevD, srcOf, rangeD, zipD, small, itemsD, List.range, List.range.loop, eqD_int, dSl, dRev, slD, cutD, okR, sNext, sNever, sBrk, sCnt, dMake, makeG, PK.initD, iSeq, iDrop, iSet, iFld, dMeth, dIfE, isND, PK.isNon, oSome, oNone, HT.sIx, this]
theorem g_vector (hn : n = 2 ∨ n = 3) (hv : Bx n w v) : G_check_vector [.fz (.int w), .fz (tupI v)] [] = some (.val .non, []) := by
  rcases hn with rfl | rfl
  · obtain ⟨x, y, rfl⟩ := len2 hv.1
    have hx := hv.2 x (by simp)
    have hy := hv.2 y (by simp)
    unfold G_check_vector f_check_vector
    simp [fnD, sSeq, sSet, sDrop, sRet, sRetN, sIf, sAsg, sPar, sFor, forD, dC, dVar, dOp, der, ders, frz, frzs, dTup, dLst, aNil, aCons, aStar, PK.mk, dCB, PK.g1, PK.g2, lenD, absD, maxD, minD, PK.intD, listD, tupD, sumD, allD, intsD, bls, addD, subD, mulD, divD, modD, powD, cmpD, ixD, atI, ixN, dUn, negD, dB, truD, bNot, bAnd, bOr, bYes, dAndV, dOrV, dNotV, dChain, dFld, recvOk, dIsi, tyD, kitB, dCallN, callG, refs, renum, lives, PK.putAll, hNm, hSub, hNil, hCons, hTup, setIx, asgT, setAll, dMt, appD, extD, dLc, lcGo, wipeD, iSq, iRg1, iRg2, iZipD, iEnumD, iRevD, srcOf, rangeD, zipD, small, itemsD, List.range, List.range.loop, eqD_int, dSl, dRev, slD, cutD, okR, sNext, sNever, sBrk, sCnt, dMake, makeG, PK.initD, iSeq, iDrop, iSet, iFld, dMeth, dIfE, isND, PK.isNon, oSome, oNone, HT.sIx, iEnumTD, enumD, tupI, show ¬ x < 0 by omega, show ¬ y < 0 by omega, show ¬ x ≥ w by omega, show ¬ y ≥ w by omega, show ¬ w ≤ x by omega, show ¬ w ≤ y by omega]
  · obtain ⟨x, y, z, rfl⟩ := len3 hv.1
    have hx := hv.2 x (by simp)
    have hy := hv.2 y (by simp)
    have hz := hv.2 z (by simp)
    unfold G_check_vector f_check_vector
    simp [fnD, sSeq, sSet, sDrop, sRet, sRetN, sIf, sAsg, sPar, sFor, forD, dC, dVar, dOp, der, ders, frz, frzs, dTup, dLst, aNil, aCons, aStar, PK.mk, dCB, PK.g1, PK.g2, lenD, absD, maxD, minD, PK.intD, listD, tupD, sumD, allD, intsD, bls, addD, subD, mulD, divD, modD, powD, cmpD, ixD, atI, ixN, dUn, negD, dB, truD, bNot, bAnd, bOr, bYes, dAndV, dOrV, dNotV, dChain, dFld, recvOk, dIsi, tyD, kitB, dCallN, callG, refs, renum, lives, PK.putAll, hNm, hSub, hNil, hCons, hTup, setIx, asgT, setAll, dMt, appD, extD, dLc, lcGo, wipeD, iSq, iRg1, iRg2, iZipD, iEnumD, iRevD, srcOf, rangeD, zipD, small, itemsD, List.range, List.range.loop, eqD_int, dSl, dRev, slD, cutD, okR, sNext, sNever, sBrk, sCnt, dMake, makeG, PK.initD, iSeq, iDrop, iSet, iFld, dMeth, dIfE, isND, PK.isNon, oSome, oNone, HT.sIx, iEnumTD, enumD, tupI, show ¬ x < 0 by omega, show ¬ y < 0 by omega, show ¬ z < 0 by omega, show ¬ x ≥ w by omega, show ¬ y ≥ w by omega, show ¬ z ≥ w by omega, show ¬ w ≤ x by omega, show ¬ w ≤ y by omega, show ¬ w ≤ z by omega]
end
end K51

set_option maxHeartbeats 0
namespace K51
open PySem L2 PK
theorem sDrop_ {f : EF} {δ δ1 : Dl} {r : Vl} (h : f δ = some (r, δ1)) : sDrop f δ = some (.nx, δ1) := by simp [sDrop, h]
section
variable {n L : Nat} {w : Int} {ss : List S} {v : List Int}
/-- what is known of a vector's cycle -/
structure Cy (n : Nat) (w : Int) (ss : List S) (v : List Int) (L : Nat) : Prop where
  wid : Wid n w
  oks : Oks n ss
  box : Bx n w v
  one : 1 ≤ L
  most : L ≤ 256
  back : itr (runsw w ss) L v = v
  least : ∀ k, 1 ≤ k → k < L → itr (runsw w ss) k v ≠ v
theorem orb_at {t : Int} (h : Cy n w ss v L) (ht : 0 ≤ t) : atI (orbL w ss v L) (t % L) = some (tupI (itr (runsw w ss) (t % L).toNat v)) := by
  have h1 := h.one
  have m1 := Int.emod_nonneg t (show (L : Int) ≠ 0 by omega)
  have m2 := Int.emod_lt_of_pos t (show 0 < (L : Int) by omega)
  have : t % (L : Int) = (((t % L).toNat : Nat) : Int) := by omega
  rw [this]
  exact atI_nat (orb_get (by omega))
theorem c_orb (hn : n = 2 ∨ n = 3) (h : Cy n w ss v L) {δ δ1 : Dl} {fa : AF} (e : fa δ = some ([.fz (chD n ss), .fz (.int w), .fz (tupI v)], δ1)) : dCallN false 3 G_wrapped_orbit fa δ = some (.fz (.lst (orbL w ss v L)), δ1) := cl0f (G := G_wrapped_orbit) (m := false) (n := 3) e rfl rfl (g_orbit hn h.wid h.oks h.box h.one h.most h.back h.least)
noncomputable def chW : SF := (sDrop (dCallN false 1 G_check_width (aCons (dVar 1) aNil)))
noncomputable def chV : SF := (sDrop (dCallN false 2 G_check_vector (aCons (dVar 1) (aCons (dVar 2) aNil))))
theorem g_len (hn : n = 2 ∨ n = 3) (h : Cy n w ss v L) : G_cycle_length [.fz (chD n ss), .fz (.int w), .fz (tupI v)] [] = some (.val (.int L), []) := by
  let δ : Dl := ⟨[some (.fz (chD n ss)), some (.fz (.int w)), some (.fz (tupI v))], []⟩
  have s1 : chW δ = some (.nx, δ) := sDrop_ (cl0 (G := G_check_width) (m := false) (n := 1) (fa := aCons (dVar 1) aNil) (δ := δ) rfl rfl rfl (g_width h.wid.1))
  have s2 : chV δ = some (.nx, δ) := sDrop_ (cl0 (G := G_check_vector) (m := false) (n := 2) (fa := aCons (dVar 1) (aCons (dVar 2) aNil)) (δ := δ) rfl rfl rfl (g_vector hn h.box))
  have k := c_orb hn h (fa := aCons (dVar 0) (aCons (dVar 1) (aCons (dVar 2) aNil))) (δ := δ) (δ1 := δ) rfl
  have e : dCB lenD (aCons (dCallN false 3 G_wrapped_orbit (aCons (dVar 0) (aCons (dVar 1) (aCons (dVar 2) aNil)))) aNil) δ = some (.fz (.int L), δ) := by
    rw [dCB, aC k (g := aNil) rfl]
    show some (Vl.fz (.int (((orbL w ss v L).length : Nat) : Int)), δ) = _
    rw [orb_len]
  unfold G_cycle_length fnD
  show ((sSeq chW (sSeq chV (sRet (dCB lenD (aCons (dCallN false 3 G_wrapped_orbit (aCons (dVar 0) (aCons (dVar 1) (aCons (dVar 2) aNil)))) aNil)))) δ).bind _) = _
  rw [sSeq_nx s1, sSeq_nx s2, sRet, e]
  rfl
theorem ix_orb {t : Int} {i : Nat} {ft : EF} {δ : Dl} (h : Cy n w ss v L) (ht : 0 ≤ t) (ei : dVar i δ = some (.fz (.lst (orbL w ss v L)), δ)) (et : ft δ = some (.fz (.int (t % L)), δ)) : dOp ixD (dVar i) ft δ = some (.fz (tupI (itr (runsw w ss) (t % L).toNat v)), δ) := by
  refine (dOp_ (g := ixD) ei et rfl rfl).trans ?_
  simp only [ixD, orb_at h ht]
  rfl
theorem g_after {t : Int} (hn : n = 2 ∨ n = 3) (h : Cy n w ss v L) (ht : 0 ≤ t) : G_wrapped_after [.fz (chD n ss), .fz (.int w), .fz (tupI v), .fz (.int t)] [] = some (.val (tupI (itr (runsw w ss) (t % L).toNat v)), []) := by
  let δ : Dl := ⟨[some (.fz (chD n ss)), some (.fz (.int w)), some (.fz (tupI v)), some (.fz (.int t)), none], []⟩
  let δ1 : Dl := ⟨[some (.fz (chD n ss)), some (.fz (.int w)), some (.fz (tupI v)), some (.fz (.int t)), some (.fz (.lst (orbL w ss v L)))], []⟩
  have s1 : chW δ = some (.nx, δ) := sDrop_ (cl0 (G := G_check_width) (m := false) (n := 1) (fa := aCons (dVar 1) aNil) (δ := δ) rfl rfl rfl (g_width h.wid.1))
  have s2 : chV δ = some (.nx, δ) := sDrop_ (cl0 (G := G_check_vector) (m := false) (n := 2) (fa := aCons (dVar 1) (aCons (dVar 2) aNil)) (δ := δ) rfl rfl rfl (g_vector hn h.box))
  have t3 : dB (dOp ltD (dVar 3) (dC (.int 0))) δ = some (decide (t < 0), δ) := rfl
  have s3 : sIf (dB (dOp ltD (dVar 3) (dC (.int 0)))) sNever sNext δ = some (.nx, δ) := by
    rw [sIf_ t3, if_neg (by simp; omega)]
    rfl
  have s4 : sSet 4 (dCallN false 3 G_wrapped_orbit (aCons (dVar 0) (aCons (dVar 1) (aCons (dVar 2) aNil)))) δ = some (.nx, δ1) := (sSet_ (c_orb hn h (fa := aCons (dVar 0) (aCons (dVar 1) (aCons (dVar 2) aNil))) (δ := δ) (δ1 := δ) rfl)).trans rfl
  have el : dCB lenD (aCons (dVar 4) aNil) δ1 = some (.fz (.int L), δ1) := by
    have : (((orbL w ss v L).length : Nat) : Int) = L := by rw [orb_len]
    rw [← this]
    rfl
  have em : dOp modD (dVar 3) (dCB lenD (aCons (dVar 4) aNil)) δ1 = some (.fz (.int (t % L)), δ1) := by
    refine (dOp_ (g := modD) (fa := dVar 3) (x := .fz (.int t)) rfl el rfl rfl).trans ?_
    have := h.one
    simp only [modD]
    rw [if_pos (by omega)]
  have e := ix_orb (i := 4) h ht rfl em
  unfold G_wrapped_after fnD
  show ((sSeq chW (sSeq chV (sSeq (sIf (dB (dOp ltD (dVar 3) (dC (.int 0)))) sNever sNext) (sSeq (sSet 4 (dCallN false 3 G_wrapped_orbit (aCons (dVar 0) (aCons (dVar 1) (aCons (dVar 2) aNil))))) (sRet (dOp ixD (dVar 4) (dOp modD (dVar 3) (dCB lenD (aCons (dVar 4) aNil)))))))) δ).bind _) = _
  rw [sSeq_nx s1, sSeq_nx s2, sSeq_nx s3, sSeq_nx s4, sRet, e]
  rfl
end
theorem isi_ {T t : String} {f : EF} {δ δ1 : Dl} {d : D} {b : Bool} (e : f δ = some (.fz d, δ1)) (ht : tyD d = some t) (hk : kitB t T = some b) : dIsi T f δ = some (.fz (.bl b), δ1) := by
  simp [dIsi, e, der, ht, hk]
theorem kt : kitB "tuple" "tuple" = some true := by decide +kernel
theorem ki : kitB "int" "int" = some true := by decide +kernel
theorem kb : kitB "int" "bool" = some false := by decide +kernel
theorem callK_ {G : GF} {m : Bool} {n np nk : Nat} {ix : List Nat} {fa fk : AF} {δ δ1 δ2 : Dl} {us vs rs : List Vl} {d : D} (e1 : fa δ = some (us, δ1)) (e2 : fk δ1 = some (vs, δ2)) (h1 : us.length = np) (h2 : vs.length = nk) (h3 : pick ix (us ++ vs) = rs) (hl : rs.length = n) (hr : refs rs = []) (eG : G (renum 0 rs) [] = some (.val d, [])) : dCallK m n np nk ix G fa fk δ = some (.fz d, δ2) := by
  simp only [dCallK, e1, e2, Option.bind_some, h1, h2, h3, hl, and_self, if_true]
  exact callG_0 hr eG
end K51

set_option maxHeartbeats 0
namespace K51
open PySem L2 PK PySem.Spec
noncomputable def dr (k : EF) : EF := dCallN false 2 G_law_draw (aCons (dVar 0) (aCons k aNil))
noncomputable def p1 : SF := (sSet 6 (dCB tupD (aCons (dLc false (iRg1 (dVar 1)) (.nm 12) [12] bYes (dr (dVar 4))) aNil)))
noncomputable def p2 : SF := (sSet 7 (dCallN false 3 G_law_cycle (aCons (dVar 2) (aCons (dVar 4) (aCons (dVar 6) aNil)))))
noncomputable def p3 : SF := (sSet 8 (dCB lenD (aCons (dVar 7) aNil)))
noncomputable def p4 : SF := (sIf (dB (dOp (eqD true) (dCallK false 3 2 1 [0, 1, 2] G_cycle_length (aCons (dVar 3) (aCons (dVar 4) aNil)) (aCons (dVar 6) aNil)) (dVar 8))) (sRet (dC (.bl false))) sNext)
noncomputable def p5 : SF := (sSet 9 (dLst true (aCons (dC (.int 1)) (aCons (dVar 8) (aCons (dOp subD (dVar 8) (dC (.int 1))) (aCons (dr (dOp (mulD false) (dC (.int 2)) (dVar 8))) (aCons (dOp subD (dOp powD (dC (.int 10)) (dC (.int 31))) (dr (dC (.int 300)))) (aCons (dC (.int 0)) aNil))))))))
noncomputable def p6 : SF := (sDrop (dMt appD (dVar 9) (aCons (dr (dOp powD (dC (.int 10)) (dC (.int 31)))) aNil)))
noncomputable def u1 : SF := (sSet 11 (dCallK false 4 3 1 [0, 1, 2, 3] G_wrapped_after (aCons (dVar 3) (aCons (dVar 4) (aCons (dVar 6) aNil))) (aCons (dVar 10) aNil)))
noncomputable def u2 : SF := (sIf (bOr (bNot (dB (dIsi "tuple" (dVar 11)))) (dB (dOp (eqD true) (dVar 11) (dOp ixD (dVar 7) (dOp modD (dCB intD (aCons (dVar 10) aNil)) (dVar 8)))))) (sRet (dC (.bl false))) sNext)
noncomputable def u3 : SF := (sIf (dB (dOp (eqD true) (dLc false (iSq (dVar 11)) (.nm 13) [13] (bOr (bNot (dB (dIsi "int" (dVar 13)))) (dB (dIsi "bool" (dVar 13)))) (dC (.int 1))) (dLst false aNil))) (sRet (dC (.bl false))) sNext)
noncomputable def p7 : SF := (sFor (iSq (dBy false (dVar 9) (dOp subD (dC (.int 1)) (dOp (mulD false) (dC (.int 2)) (dr (dC (.int 2))))))) (.nm 10) (sSeq u1 (sSeq u2 u3)))
noncomputable def p8 : SF := (sSet 11 (dCallN false 3 G_cycle_length (aCons (dVar 3) (aCons (dVar 4) (aCons (dVar 6) aNil)))))
noncomputable def p9 : SF := (sIf (bOr (dB (dOp (eqD true) (dVar 11) (dVar 8))) (bOr (bNot (dB (dIsi "int" (dVar 11)))) (dB (dIsi "bool" (dVar 11))))) (sRet (dC (.bl false))) sNext)
noncomputable def r1 : SF := (sSet 2 (dCallN false 4 G_law_moves (aCons (dVar 0) (aCons (dVar 1) (aCons (dC (.int 6)) (aCons (dOp ixD (dLst false (aCons (dC (.int 12)) (aCons (dC (.int 6)) aNil))) (dOp subD (dVar 1) (dC (.int 2)))) aNil))))))
noncomputable def r2 : SF := (sIf (dB (dOp (eqD false) (dr (dC (.int 4))) (dC (.int 0)))) (sSet 2 (dCallN false 2 G_law_turning (aCons (dVar 0) (aCons (dVar 1) aNil)))) sNext)
noncomputable def r3 : SF := (sAsg (hTup 2 (hCons (hNm 3) (hCons (hNm 4) hNil))) (dTup (aCons (dMake "Chain" 3 G_Chain_init (aCons (dVar 1) (aCons (dVar 2) aNil))) (aCons (dOp (addD false) (dC (.int 1)) (dr (dOp ixD (dLst false (aCons (dC (.int 16)) (aCons (dC (.int 6)) aNil))) (dOp subD (dVar 1) (dC (.int 2)))))) aNil))))
noncomputable def rB9 : SF := sSeq p1 (sSeq p2 (sSeq p3 (sSeq p4 (sSeq p5 (sSeq p6 (sSeq p7 (sSeq p8 p9)))))))
noncomputable def r5 : SF := (sRet (dOp (eqD false) (dMeth false "Chain" "" 1 G_Chain_steps (dVar 3) aNil) (dVar 2)))
theorem f_law_right_eq : f_law_right = sSeq r1 (sSeq r2 (sSeq r3 (sSeq (sFor (iRg1 (dC (.int 3))) (.nm 5) rB9) r5))) := rfl
def rs (n : Nat) (ss : List S) (w : Int) (p : List D) (tl : List (Option (List D))) (x5 x6 x7 x8 x9 x10 x11 : Option Vl) : Dl := ⟨[some (.rf 0), some (.fz (.int n)), some (.fz (.lst (encs ss))), some (.fz (chD n ss)), some (.fz (.int w)), x5, x6, x7, x8, x9, x10, x11, none, none], some p :: tl⟩
section
variable {n m L : Nat} {w : Int} {ss : List S} {v : List Int} {p : List D} {tl : List (Option (List D))} {x5 x6 x7 x8 x9 x10 x11 : Option Vl}
theorem d_dr {k : EF} {K : Int} {δ : Dl} (h0 : dVar 0 δ = some (.rf 0, δ)) (hst : δ.st[0]? = some (some p)) (ek : k δ = some (.fz (.int K), δ)) (hK : 0 < K) (hK2 : K < 2 ^ 200) (hp : Pool m p) (hm : m ≤ 9000) : ∃ d p', dr k δ = some (.fz (.int d), ⟨δ.sl, δ.st.set 0 (some p')⟩) ∧ 0 ≤ d ∧ d < K ∧ Pool (m + 1) p' := by
  obtain ⟨d, p1, e1, a1, a2, hp1⟩ := g_draw (many := K) hp hK hK2 (by omega)
  exact ⟨d, p1, cl1 (G := G_law_draw) (m := false) (n := 2) (fa := aCons (dVar 0) (aCons k aNil)) (δ := δ) (k := 0) (aC h0 (aC (g := aNil) ek rfl)) rfl rfl hst e1, a1, a2, hp1⟩
theorem d_p1 (hn : n = 2 ∨ n = 3) (hw : Wid n w) (hp : Pool m p) (hm : m ≤ 8000) : ∃ v p', Bx n w v ∧ Pool (m + 3) p' ∧ p1 (rs n ss w p tl x5 x6 x7 x8 x9 x10 x11) = some (.nx, rs n ss w p' tl x5 (some (.fz (tupI v))) x7 x8 x9 x10 x11) := by
  have h1 := hw.1
  have h2 : w ≤ 16 := by obtain ⟨_, ⟨_, q⟩ | ⟨_, q⟩⟩ := hw <;> omega
  obtain ⟨a, pa, ea, a0, a1, hpa⟩ := g_draw (many := w) hp (by omega) (by omega) (by omega)
  obtain ⟨b, pb, eb, b0, b1, hpb⟩ := g_draw (many := w) hpa (by omega) (by omega) (by omega)
  obtain ⟨c, pc, ec, c0, c1, hpc⟩ := g_draw (many := w) hpb (by omega) (by omega) (by omega)
  rcases hn with rfl | rfl
  · refine ⟨[a, b], pb, ⟨rfl, fun x hx => ?_⟩, hpb.up (by omega), ?_⟩
    · simp only [List.mem_cons, List.not_mem_nil, or_false] at hx
      rcases hx with rfl | rfl
      · exact ⟨a0, a1⟩
      · exact ⟨b0, b1⟩
    · unfold p1 dr
      simp [fnD, sSeq, sSet, sDrop, sRet, sRetN, sIf, sAsg, sPar, sFor, forD, dC, dVar, dOp, der, ders, frz, frzs, dTup, dLst, aNil, aCons, aStar, PK.mk, dCB, PK.g1, PK.g2, lenD, absD, maxD, minD, PK.intD, listD, tupD, sumD, allD, intsD, bls, addD, subD, mulD, divD, modD, powD, cmpD, ixD, atI, ixN, dUn, negD, dB, truD, bNot, bAnd, bOr, bYes, dAndV, dOrV, dNotV, dChain, dFld, recvOk, dIsi, tyD, kitB, dCallN, callG, refs, renum, lives, PK.putAll, hNm, hSub, hNil, hCons, hTup, setIx, asgT, setAll, dMt, appD, extD, dLc, lcGo, wipeD, iSq, iRg1, iRg2, iZipD, iEnumD, iRevD, srcOf, rangeD, zipD, small, itemsD, List.range, List.range.loop, eqD_int, dSl, dRev, slD, cutD, okR, sNext, sNever, sBrk, sCnt, dMake, makeG, PK.initD, iSeq, iDrop, iSet, iFld, dMeth, dIfE, isND, PK.isNon, oSome, oNone, HT.sIx, rs, ea, eb, tupI]
  · refine ⟨[a, b, c], pc, ⟨rfl, fun x hx => ?_⟩, hpc, ?_⟩
    · simp only [List.mem_cons, List.not_mem_nil, or_false] at hx
      rcases hx with rfl | rfl | rfl
      · exact ⟨a0, a1⟩
      · exact ⟨b0, b1⟩
      · exact ⟨c0, c1⟩
    · unfold p1 dr
      simp [fnD, sSeq, sSet, sDrop, sRet, sRetN, sIf, sAsg, sPar, sFor, forD, dC, dVar, dOp, der, ders, frz, frzs, dTup, dLst, aNil, aCons, aStar, PK.mk, dCB, PK.g1, PK.g2, lenD, absD, maxD, minD, PK.intD, listD, tupD, sumD, allD, intsD, bls, addD, subD, mulD, divD, modD, powD, cmpD, ixD, atI, ixN, dUn, negD, dB, truD, bNot, bAnd, bOr, bYes, dAndV, dOrV, dNotV, dChain, dFld, recvOk, dIsi, tyD, kitB, dCallN, callG, refs, renum, lives, PK.putAll, hNm, hSub, hNil, hCons, hTup, setIx, asgT, setAll, dMt, appD, extD, dLc, lcGo, wipeD, iSq, iRg1, iRg2, iZipD, iEnumD, iRevD, srcOf, rangeD, zipD, small, itemsD, List.range, List.range.loop, eqD_int, dSl, dRev, slD, cutD, okR, sNext, sNever, sBrk, sCnt, dMake, makeG, PK.initD, iSeq, iDrop, iSet, iFld, dMeth, dIfE, isND, PK.isNon, oSome, oNone, HT.sIx, rs, ea, eb, ec, tupI]
theorem appS {δ δ2 : Dl} {i k : Nat} {acc acc2 : List D} {d : D} {fb : EF} (h : dVar i δ = some (.rf k, δ)) (hk : δ.st[k]? = some (some acc)) (hb : fb δ = some (.fz d, δ2)) (hk2 : δ2.st[k]? = some (some acc2)) (hl : acc2.length < 1000) : sDrop (dMt appD (dVar i) (aCons fb aNil)) δ = some (.nx, ⟨δ2.sl, δ2.st.set k (some (acc2 ++ [d]))⟩) := by
  have hs : acc2.length < small := by simp [small]; omega
  simp [sDrop, dMt, h, hk, aCons, aNil, hb, frzs, frz, hk2, appD, hs]
abbrev zs (n : Nat) (ss : List S) (w : Int) (v : List Int) (L : Nat) (p : List D) (tl : List (Option (List D))) (x5 x9 x10 x11 : Option Vl) : Dl := rs n ss w p tl x5 (some (.fz (tupI v))) (some (.fz (.lst (orbL w ss v L)))) (some (.fz (.int L))) x9 x10 x11
theorem d_q {t : Int} (hn : n = 2 ∨ n = 3) (h : Cy n w ss v L) (ht : 0 ≤ t) : ∃ y11, sSeq u1 (sSeq u2 u3) (zs n ss w v L p tl x5 x9 (some (.fz (.int t))) x11) = some (.nx, zs n ss w v L p tl x5 x9 (some (.fz (.int t))) y11) := by
  let u := itr (runsw w ss) (t % L).toNat v
  let δ0 := zs n ss w v L p tl x5 x9 (some (.fz (.int t))) x11
  let δ := zs n ss w v L p tl x5 x9 (some (.fz (.int t))) (some (.fz (tupI u)))
  have s1 : u1 δ0 = some (.nx, δ) := (sSet_ (callK_ (m := false) (fa := aCons (dVar 3) (aCons (dVar 4) (aCons (dVar 6) aNil))) (fk := aCons (dVar 10) aNil) (δ := δ0) rfl rfl rfl rfl rfl rfl rfl (g_after hn h ht))).trans rfl
  have k1 := isi_ (f := dVar 11) (δ := δ) (d := tupI u) rfl rfl kt
  have em : dOp modD (dCB intD (aCons (dVar 10) aNil)) (dVar 8) δ = some (.fz (.int (t % L)), δ) := by
    refine (dOp_ (g := modD) (fa := dCB intD (aCons (dVar 10) aNil)) (fb := dVar 8) (δ := δ) (x := .fz (.int t)) (y := .fz (.int L)) rfl rfl rfl rfl).trans ?_
    have := h.one
    simp only [modD]
    rw [if_pos (by omega)]
  have e := ix_orb (i := 7) h ht rfl em
  have k2 := dB_ ((dOp_ (g := eqD true) (fa := dVar 11) (δ := δ) (x := .fz (tupI u)) rfl e rfl rfl).trans (eq_same (nice_tupI u) (by decide) δ true))
  have s2 : u2 δ = some (.nx, δ) := by
    unfold u2
    rw [sIf_ (bOr_ff (bNot_ (dB_ k1)) k2)]
    rfl
  have it : iSq (dVar 11) δ = some (u.map D.int, [], δ) := rfl
  have hu : u.length ≤ 10 := by
    have := (itr_box (ss := ss) h.wid.1 h.box (t % L).toNat).1
    show (itr (runsw w ss) (t % L).toNat v).length ≤ 10
    omega
  have e4 := lcGo_fil (ck := []) (own := [13]) (test := bOr (bNot (dB (dIsi "int" (dVar 13)))) (dB (dIsi "bool" (dVar 13)))) (elt := dC (.int 1)) (i := 13) (sl := wipeD δ.sl [13]) (st := δ.st) (en := D.int) (out := fun _ => D.int 1) (keep := fun _ => false) (by simp) u [] (by simp [small]; omega) fun x _ => ⟨(wipeD δ.sl [13]).set 13 (some (.fz (.int x))), bOr_ff (bNot_ (dB_ (isi_ (f := dVar 13) (d := .int x) rfl rfl ki))) (dB_ (isi_ (f := dVar 13) (d := .int x) rfl rfl kb)), fun q => by cases q⟩
  have e5 : dLc false (iSq (dVar 11)) (.nm 13) [13] (bOr (bNot (dB (dIsi "int" (dVar 13)))) (dB (dIsi "bool" (dVar 13)))) (dC (.int 1)) δ = some (.fz (.lst []), δ) := by
    rw [dLc, it, Option.bind_some]
    show (Option.map _ (lcGo [] (.nm 13) [13] _ _ (wipeD δ.sl [13]) (u.map D.int) [] ⟨wipeD δ.sl [13], δ.st⟩)) = _
    rw [e4, show u.filter (fun _ => false) = [] by simp]
    rfl
  have k3 := dB_ ((dOp_ (g := eqD true) (fb := dLst false aNil) e5 rfl rfl rfl).trans (eq_same (nice_lst (k := 0) (ds := []) (by simp)) (by decide) δ true))
  have s3 : u3 δ = some (.nx, δ) := by
    unfold u3
    rw [sIf_ k3]
    rfl
  refine ⟨some (.fz (tupI u)), ?_⟩
  show sSeq u1 _ δ0 = _
  rw [sSeq_nx s1, sSeq_nx s2, s3]
theorem d_qs (hn : n = 2 ∨ n = 3) (h : Cy n w ss v L) : ∀ (ts : List Int) (y10 y11 : Option Vl), (∀ t ∈ ts, 0 ≤ t) → ∃ z10 z11, forD [] (.nm 10) (sSeq u1 (sSeq u2 u3)) (ts.map D.int) (zs n ss w v L p tl x5 x9 y10 y11) = some (.nx, zs n ss w v L p tl x5 x9 z10 z11)
  | [], y10, y11, _ => ⟨y10, y11, forD_nil0⟩
  | t :: ts, y10, y11, hts => by
    obtain ⟨u11, e⟩ := d_q (p := p) (tl := tl) (x5 := x5) (x9 := x9) (x11 := y11) hn h (hts t List.mem_cons_self)
    obtain ⟨z10, z11, ih⟩ := d_qs hn h ts (some (.fz (.int t))) u11 fun x hx => hts x (List.mem_cons_of_mem _ hx)
    exact ⟨z10, z11, forD_nm e ih⟩
theorem pw31 {δ : Dl} : dOp powD (dC (.int 10)) (dC (.int 31)) δ = some (.fz (.int (10 ^ 31)), δ) := by
  refine (dOp_ (fa := dC (.int 10)) (fb := dC (.int 31)) rfl rfl rfl rfl).trans ?_
  have : okPow 10 = true := by decide
  simp [powD, this]
/-- one turn -/
theorem d_turn (hn : n = 2 ∨ n = 3) (hw : Wid n w) (h : Oks n ss) (hp : Pool m p) (hm : m ≤ 8000) : ∃ p' tl' y6 y7 y8 y9 y10 y11, Pool (m + 7) p' ∧ rB9 (rs n ss w p tl x5 x6 x7 x8 x9 x10 x11) = some (.nx, rs n ss w p' tl' x5 y6 y7 y8 y9 y10 y11) := by
  obtain ⟨v, pa, hv, hpa, s1⟩ := d_p1 (ss := ss) (tl := tl) (x5 := x5) (x6 := x6) (x7 := x7) (x8 := x8) (x9 := x9) (x10 := x10) (x11 := x11) hn hw hp hm
  obtain ⟨L, h1, h2, h3, h4⟩ := cycle hn hw h hv
  have C : Cy n w ss v L := ⟨hw, h, hv, h1, h2, h3, h4⟩
  let δ1 := rs n ss w pa tl x5 (some (.fz (tupI v))) x7 x8 x9 x10 x11
  let δ2 := rs n ss w pa tl x5 (some (.fz (tupI v))) (some (.fz (.lst (orbL w ss v L)))) x8 x9 x10 x11
  let δ3 := zs n ss w v L pa tl x5 x9 x10 x11
  have s2 : p2 δ1 = some (.nx, δ2) := (sSet_ (cl0f (G := G_law_cycle) (m := false) (n := 3) (fa := aCons (dVar 2) (aCons (dVar 4) (aCons (dVar 6) aNil))) (δ := δ1) rfl rfl rfl (g_cycle hn hw h hv h1 h2 h3 h4))).trans rfl
  have s3 : p3 δ2 = some (.nx, δ3) := by
    have el : dCB lenD (aCons (dVar 7) aNil) δ2 = some (.fz (.int L), δ2) := by
      have : (((orbL w ss v L).length : Nat) : Int) = L := by rw [orb_len]
      rw [← this]
      rfl
    exact (sSet_ el).trans rfl
  have k4 := callK_ (G := G_cycle_length) (m := false) (n := 3) (np := 2) (nk := 1) (ix := [0, 1, 2]) (fa := aCons (dVar 3) (aCons (dVar 4) aNil)) (fk := aCons (dVar 6) aNil) (δ := δ3) rfl rfl rfl rfl rfl rfl rfl (g_len hn C)
  have t4 := dB_ ((dOp_ (g := eqD true) (fb := dVar 8) k4 rfl rfl rfl).trans (eq_same (nice_int (k := 0)) (by decide) δ3 true))
  have s4 : p4 δ3 = some (.nx, δ3) := by
    unfold p4
    rw [sIf_ t4]
    rfl
  have e2L : dOp (mulD false) (dC (.int 2)) (dVar 8) δ3 = some (.fz (.int (2 * L)), δ3) := by
    refine (dOp_ (g := mulD false) (fa := dC (.int 2)) (fb := dVar 8) (δ := δ3) (x := .fz (.int 2)) (y := .fz (.int L)) rfl rfl rfl rfl).trans ?_
    have : okMul 2 (L : Int) = true := okMul_nn (by decide) (by omega)
    simp [mulD, this]
  obtain ⟨a, pb, ea, a0, a1, hpb⟩ := d_dr (k := dOp (mulD false) (dC (.int 2)) (dVar 8)) (δ := δ3) rfl rfl e2L (by omega) (by omega) hpa (by omega)
  let δ4 := zs n ss w v L pb tl x5 x9 x10 x11
  obtain ⟨b, pc, eb, b0, b1, hpc⟩ := d_dr (k := dC (.int 300)) (δ := δ4) rfl rfl rfl (by decide) (by decide) hpb (by omega)
  let δ5 := zs n ss w v L pc tl x5 x9 x10 x11
  have eb' : dOp subD (dOp powD (dC (.int 10)) (dC (.int 31))) (dr (dC (.int 300))) δ4 = some (.fz (.int (10 ^ 31 - b)), δ5) := (dOp_ (g := subD) pw31 eb rfl rfl).trans rfl
  let A : List Int := [1, L, (L : Int) - 1, a, 10 ^ 31 - b, 0]
  let δ6 := zs n ss w v L pc (tl ++ [some (A.map D.int)]) x5 (some (.rf (tl.length + 1))) x10 x11
  have s5 : p5 δ3 = some (.nx, δ6) := by
    have e : dLst true (aCons (dC (.int 1)) (aCons (dVar 8) (aCons (dOp subD (dVar 8) (dC (.int 1))) (aCons (dr (dOp (mulD false) (dC (.int 2)) (dVar 8))) (aCons (dOp subD (dOp powD (dC (.int 10)) (dC (.int 31))) (dr (dC (.int 300)))) (aCons (dC (.int 0)) aNil)))))) δ3 = some (.rf (tl.length + 1), ⟨δ5.sl, some pc :: (tl ++ [some (A.map D.int)])⟩) := by
      rw [dLst, aC (f := dC (.int 1)) rfl (aC (f := dVar 8) (r := .fz (.int L)) rfl (aC (f := dOp subD (dVar 8) (dC (.int 1))) (r := .fz (.int ((L : Int) - 1))) rfl (aC ea (aC eb' (aC (f := dC (.int 0)) (g := aNil) rfl rfl)))))]
      rfl
    exact (sSet_ e).trans rfl
  obtain ⟨c, pd, ec, c0, c1, hpd⟩ := d_dr (k := dOp powD (dC (.int 10)) (dC (.int 31))) (δ := δ6) rfl rfl pw31 (by decide) (by decide) hpc (by omega)
  let B : List Int := [1, L, (L : Int) - 1, a, 10 ^ 31 - b, 0, c]
  let δ7 := zs n ss w v L pd (tl ++ [some (B.map D.int)]) x5 (some (.rf (tl.length + 1))) x10 x11
  have gt : ∀ (q : List D) (z : List D), (some q :: (tl ++ [some z]))[tl.length + 1]? = some (some z) := fun q z => by simp
  have s6 : p6 δ6 = some (.nx, δ7) := by
    have ec' : dr (dOp powD (dC (.int 10)) (dC (.int 31))) δ6 = some (.fz (.int c), ⟨δ6.sl, some pd :: (tl ++ [some (A.map D.int)])⟩) := ec
    have h9 : dVar 9 δ6 = some (.rf (tl.length + 1), δ6) := rfl
    have gs : ∀ z z' : List D, (some pd :: (tl ++ [some z])).set (tl.length + 1) (some z') = some pd :: (tl ++ [some z']) := fun z z' => by simp
    have e := appS (δ := δ6) (i := 9) (k := tl.length + 1) (acc := A.map D.int) h9 (gt pc _) ec' (gt pd _) (by simp [A])
    unfold p6
    rw [e]
    show some (Fl.nx, (⟨δ6.sl, (some pd :: (tl ++ [some (A.map D.int)])).set (tl.length + 1) (some (A.map D.int ++ [.int c]))⟩ : Dl)) = _
    rw [gs]
    rfl
  obtain ⟨d, pe, ed, d0, d1, hpe⟩ := d_dr (k := dC (.int 2)) (δ := δ7) rfl rfl rfl (by decide) (by decide) hpd (by omega)
  let δ8 := zs n ss w v L pe (tl ++ [some (B.map D.int)]) x5 (some (.rf (tl.length + 1))) x10 x11
  have em : dOp (mulD false) (dC (.int 2)) (dr (dC (.int 2))) δ7 = some (.fz (.int (2 * d)), δ8) := by
    refine (dOp_ (g := mulD false) (fa := dC (.int 2)) rfl ed rfl rfl).trans ?_
    have : okMul 2 d = true := okMul_nn (by decide) (by omega)
    simp [mulD, this]
    rfl
  have es : dOp subD (dC (.int 1)) (dOp (mulD false) (dC (.int 2)) (dr (dC (.int 2)))) δ7 = some (.fz (.int (1 - 2 * d)), δ8) := (dOp_ (g := subD) (fa := dC (.int 1)) rfl em rfl rfl).trans rfl
  have hd8 : der δ8 (.rf (tl.length + 1)) = some (.lst (B.map D.int)) := by
    show (match (some pe :: (tl ++ [some (B.map D.int)]))[tl.length + 1]? with | some (some ds) => some (D.lst ds) | _ => none) = _
    rw [gt]
  have it : ∃ T : List Int, (∀ t ∈ T, 0 ≤ t) ∧ iSq (dBy false (dVar 9) (dOp subD (dC (.int 1)) (dOp (mulD false) (dC (.int 2)) (dr (dC (.int 2)))))) δ7 = some (T.map D.int, [], δ8) := by
    have hB : ∀ t ∈ B, 0 ≤ t := fun t ht => by
      simp only [B, List.mem_cons, List.not_mem_nil, or_false] at ht
      rcases ht with rfl | rfl | rfl | rfl | rfl | rfl | rfl <;> omega
    have h9 : dVar 9 δ7 = some (.rf (tl.length + 1), δ7) := rfl
    rcases two d0 d1 with rfl | rfl
    · refine ⟨B, hB, ?_⟩
      rw [iSq, dBy, h9, Option.bind_some, es, Option.bind_some]
      simp only [hd8]
      rfl
    · refine ⟨B.reverse, fun t ht => hB t (List.mem_reverse.mp ht), ?_⟩
      rw [iSq, dBy, h9, Option.bind_some, es, Option.bind_some]
      simp only [hd8]
      rw [List.map_reverse]
      rfl
  obtain ⟨T, hT, it⟩ := it
  obtain ⟨z10, z11, e7⟩ := d_qs (p := pe) (tl := tl ++ [some (B.map D.int)]) (x5 := x5) (x9 := some (.rf (tl.length + 1))) hn C T x10 x11 hT
  let δ9 := zs n ss w v L pe (tl ++ [some (B.map D.int)]) x5 (some (.rf (tl.length + 1))) z10 z11
  let δ10 := zs n ss w v L pe (tl ++ [some (B.map D.int)]) x5 (some (.rf (tl.length + 1))) z10 (some (.fz (.int L)))
  have s7 : p7 δ7 = some (.nx, δ9) := by
    unfold p7
    rw [sFor, it]
    exact e7
  have s8 : p8 δ9 = some (.nx, δ10) := (sSet_ (cl0 (G := G_cycle_length) (m := false) (n := 3) (fa := aCons (dVar 3) (aCons (dVar 4) (aCons (dVar 6) aNil))) (δ := δ9) rfl rfl rfl (g_len hn C))).trans rfl
  have t9 := dB_ ((dOp_ (g := eqD true) (fa := dVar 11) (fb := dVar 8) (δ := δ10) (x := .fz (.int L)) (y := .fz (.int L)) rfl rfl rfl rfl).trans (eq_same (nice_int (k := 0)) (by decide) δ10 true))
  have s9 : p9 δ10 = some (.nx, δ10) := by
    unfold p9
    rw [sIf_ (bOr_ff t9 (bOr_ff (bNot_ (dB_ (isi_ (f := dVar 11) (d := .int L) rfl rfl ki))) (dB_ (isi_ (f := dVar 11) (d := .int L) rfl rfl kb))))]
    rfl
  refine ⟨pe, tl ++ [some (B.map D.int)], some (.fz (tupI v)), some (.fz (.lst (orbL w ss v L))), some (.fz (.int L)), some (.rf (tl.length + 1)), z10, some (.fz (.int L)), hpe.up (by omega), ?_⟩
  unfold rB9
  rw [sSeq_nx s1, sSeq_nx s2, sSeq_nx s3, sSeq_nx s4, sSeq_nx s5, sSeq_nx s6, sSeq_nx s7, sSeq_nx s8, s9]
end
end K51

set_option maxHeartbeats 0
namespace K51
open PySem L2 PK PySem.Spec
section
variable {n m : Nat} {p : List D} {ss : List S}
def r0 (n : Nat) (p : List D) (x2 : Option Vl) : Dl := ⟨[some (.rf 0), some (.fz (.int n)), x2, none, none, none, none, none, none, none, none, none, none, none], [some p]⟩
theorem d_r12 (hn : n = 2 ∨ n = 3) (hp : Pool m p) (hm : m ≤ 2000) : ∃ ss p', Oks n ss ∧ Pool (m + 200) p' ∧ sSeq r1 r2 (r0 n p none) = some (.nx, r0 n p' (some (.fz (.lst (encs ss))))) := by
  have hroom : ∃ R : Int, 1 ≤ R ∧ R ≤ 12 ∧ dOp ixD (dLst false (aCons (dC (.int 12)) (aCons (dC (.int 6)) aNil))) (dOp subD (dVar 1) (dC (.int 2))) (r0 n p none) = some (.fz (.int R), r0 n p none) := by
    rcases hn with rfl | rfl
    · exact ⟨12, by decide, by decide, rfl⟩
    · exact ⟨6, by decide, by decide, rfl⟩
  obtain ⟨R, R1, R12, eR⟩ := hroom
  obtain ⟨ss, pa, e1, hd, hl, hpr, hpa⟩ := g_moves (T := 6) (R0 := R) hn (by decide) hp (by omega) R1 R12
  have ea := aC (f := dVar 0) (δ := r0 n p none) rfl (aC (f := dVar 1) rfl (aC (f := dC (.int 6)) rfl (aC (g := aNil) eR rfl)))
  have k1 := cl1f (G := G_law_moves) (m := false) (n := 4) (k := 0) ea rfl rfl rfl e1
  have s1 : r1 (r0 n p none) = some (.nx, r0 n pa (some (.fz (.lst (encs ss))))) := (sSet_ k1).trans rfl
  obtain ⟨d, pb, e2, a0, a1, hpb⟩ := d_dr (k := dC (.int 4)) (δ := r0 n pa (some (.fz (.lst (encs ss))))) rfl rfl rfl (by decide) (by decide) hpa (by omega)
  have t2 := dB_ ((dOp_ (g := eqD false) (fb := dC (.int 0)) e2 rfl rfl rfl).trans (eqD_int (neg := false)))
  by_cases h0 : d = 0
  · obtain ⟨ts, pc, r, e3, hr, hd3, hl3, _, hpc⟩ := g_turning hn hpb (by omega)
    have k3 : dCallN false 2 G_law_turning (aCons (dVar 0) (aCons (dVar 1) aNil)) (r0 n pb (some (.fz (.lst (encs ss))))) = some (.fz (.lst (encs ts)), r0 n pc (some (.fz (.lst (encs ss))))) := by
      rcases hr with rfl | rfl
      · exact cl1f (G := G_law_turning) (m := false) (n := 2) (fa := aCons (dVar 0) (aCons (dVar 1) aNil)) (δ := r0 n pb (some (.fz (.lst (encs ss))))) (k := 0) rfl rfl rfl rfl e3
      · exact cl1 (G := G_law_turning) (m := false) (n := 2) (fa := aCons (dVar 0) (aCons (dVar 1) aNil)) (δ := r0 n pb (some (.fz (.lst (encs ss))))) (k := 0) rfl rfl rfl rfl e3
    refine ⟨ts, pc, fun s hs => (hd3 s hs).1, hpc.up (by omega), ?_⟩
    rw [sSeq_nx s1]
    unfold r2
    rw [sIf_ t2]
    subst h0
    exact (sSet_ k3).trans rfl
  · refine ⟨ss, pb, fun s hs => (hd s hs).1, hpb.up (by omega), ?_⟩
    rw [sSeq_nx s1]
    unfold r2
    rw [sIf_ t2]
    have h0' : (d == 0) = false := by simp [h0]
    simp [h0']
    rfl
theorem g_right (hn : n = 2 ∨ n = 3) (hp : Pool m p) (hm : m ≤ 2000) : ∃ p', G_law_right [.rf 0, .fz (.int n)] [p] = some (.val (.bl true), [p']) ∧ Pool (m + 230) p' := by
  obtain ⟨ss, pa, h, hpa, e1⟩ := d_r12 hn hp (by omega)
  let δ1 := r0 n pa (some (.fz (.lst (encs ss))))
  have hK : ∃ K : Int, 0 < K ∧ K < 100 ∧ (∀ w, 1 ≤ w → w ≤ K → Wid n w) ∧ dOp ixD (dLst false (aCons (dC (.int 16)) (aCons (dC (.int 6)) aNil))) (dOp subD (dVar 1) (dC (.int 2))) δ1 = some (.fz (.int K), δ1) := by
    rcases hn with rfl | rfl
    · exact ⟨16, by decide, by decide, fun w a b => ⟨a, .inl ⟨rfl, b⟩⟩, rfl⟩
    · exact ⟨6, by decide, by decide, fun w a b => ⟨a, .inr ⟨rfl, b⟩⟩, rfl⟩
  obtain ⟨K, K0, K1, hW, eK⟩ := hK
  have mk := mk_chain hn h (fa := aCons (dVar 1) (aCons (dVar 2) aNil)) (δ := δ1) rfl
  obtain ⟨d, pb, e2, a0, a1, hpb⟩ := d_dr (k := dOp ixD (dLst false (aCons (dC (.int 16)) (aCons (dC (.int 6)) aNil))) (dOp subD (dVar 1) (dC (.int 2)))) (δ := δ1) rfl rfl eK K0 (by omega) hpa (by omega)
  have e3 := (dOp_ (g := addD false) (fa := dC (.int 1)) (δ := δ1) rfl e2 rfl rfl).trans (show addD false ⟨δ1.sl, δ1.st.set 0 (some pb)⟩ (.int 1) (.int d) = some (.fz (.int (1 + d)), ⟨δ1.sl, δ1.st.set 0 (some pb)⟩) from rfl)
  have s3 : r3 δ1 = some (.nx, rs n ss (1 + d) pb [] none none none none none none none) := by
    unfold r3
    rw [sAsg, dTup, aC mk (aC (g := aNil) e3 rfl)]
    rfl
  have w1 : Wid n (1 + d) := hW _ (by omega) (by omega)
  have it : iRg1 (dC (.int 3)) (rs n ss (1 + d) pb [] none none none none none none none) = some (rangeD 0 3, [], rs n ss (1 + d) pb [] none none none none none none none) := rfl
  obtain ⟨δ', e4, pc, tl, x5, x6, x7, x8, x9, x10, x11, rfl, hpc⟩ := forD_inv (tg := .nm 5) (body := rB9) (ck := []) (fun j δ => ∃ p tl x5 x6 x7 x8 x9 x10 x11, δ = rs n ss (1 + d) p tl x5 x6 x7 x8 x9 x10 x11 ∧ Pool (m + 201 + 7 * j) p) (fun i δ _ => by simp) (rangeD 0 3) 0 (rs n ss (1 + d) pb [] none none none none none none none) ⟨pb, [], _, _, _, _, _, _, _, rfl, hpb.up (by omega)⟩ (by
    rintro j i δ hj ⟨p, tl, x5, x6, x7, x8, x9, x10, x11, rfl, hp⟩
    have hj3 : j < 3 := by
      obtain ⟨hlt, _⟩ := List.getElem?_eq_some_iff.mp hj
      simpa [rangeD] using hlt
    obtain ⟨p', tl', y6, y7, y8, y9, y10, y11, hp', e⟩ := d_turn (n := n) (w := 1 + d) (ss := ss) (tl := tl) (x5 := some (.fz i)) (x6 := x6) (x7 := x7) (x8 := x8) (x9 := x9) (x10 := x10) (x11 := x11) hn w1 h hp (by omega)
    exact ⟨_, rfl, _, e, p', tl', _, _, _, _, _, _, _, rfl, hp'.up (by omega)⟩)
  rw [Nat.zero_add, rangeD_len] at hpc
  have s4 : sFor (iRg1 (dC (.int 3))) (.nm 5) rB9 (rs n ss (1 + d) pb [] none none none none none none none) = some (.nx, rs n ss (1 + d) pc tl x5 x6 x7 x8 x9 x10 x11) := by
    rw [sFor, it]
    exact e4
  have e5 := (dOp_ (g := eqD false) (fb := dVar 2) (y := .fz (.lst (encs ss))) (st_f (n := n) (ss := ss) (fo := dVar 3) (δ := rs n ss (1 + d) pc tl x5 x6 x7 x8 x9 x10 x11) rfl) rfl rfl rfl).trans (eq_same nice_lencs (by decide) _ false)
  refine ⟨pc, ?_, hpc.up (by omega)⟩
  unfold G_law_right fnD
  rw [f_law_right_eq]
  have a1 : sSeq r1 (sSeq r2 (sSeq r3 (sSeq (sFor (iRg1 (dC (.int 3))) (.nm 5) rB9) r5))) (r0 n p none) = sSeq r3 (sSeq (sFor (iRg1 (dC (.int 3))) (.nm 5) rB9) r5) δ1 := by
    have as : ∀ {f g h : SF}, sSeq (sSeq f g) h = sSeq f (sSeq g h) := by
      intro f g h
      funext δ
      unfold sSeq
      cases hf : f δ with
      | none => rfl
      | some q =>
        obtain ⟨fl, δ2⟩ := q
        cases fl <;> rfl
    rw [← as, sSeq_nx e1]
  show ((sSeq r1 _ (r0 n p none)).bind _) = _
  rw [a1, sSeq_nx s3, sSeq_nx s4]
  unfold r5
  rw [sRet, e5]
  simp [rs, lives, List.range, List.range.loop, List.range_succ]
end
noncomputable def lI : IF := (iRg1 (dCB maxD (aCons (dC (.int 1)) (aCons (dCB minD (aCons (dC (.int 4)) (aCons (dCB lenD (aCons (dVar 0) aNil)) aNil))) aNil))))
noncomputable def lC : SF := (sIf (bNot (dB (dCallN false 2 G_law_right (aCons (dVar 2) (aCons (dVar 3) aNil))))) (sRet (dC (.bl false))) sNext)
noncomputable def lwB : SF := (sSeq (sSet 2 (dCallN true 2 G_law_pool (aCons (dVar 0) (aCons (dVar 1) aNil)))) (sFor (iTupD (dTup (aCons (dC (.int 2)) (aCons (dC (.int 3)) aNil)))) (.nm 3) lC))
theorem f_law_eq : f_law = sSeq (sFor lI (.nm 1) lwB) (sRet (dC (.bl true))) := rfl
theorem d_lC {n m k : Nat} {A B : Option Vl} {st : List (Option (List D))} {p : List D} (hn : n = 2 ∨ n = 3) (hk : st[k]? = some (some p)) (hp : Pool m p) (hm : m ≤ 2000) : ∃ p', Pool (m + 230) p' ∧ lC ⟨[A, B, some (.rf k), some (.fz (.int n))], st⟩ = some (.nx, ⟨[A, B, some (.rf k), some (.fz (.int n))], st.set k (some p')⟩) := by
  obtain ⟨p1, e1, hp1⟩ := g_right hn hp (by omega)
  have f1 := cl1 (G := G_law_right) (m := false) (n := 2) (fa := aCons (dVar 2) (aCons (dVar 3) aNil)) (δ := ⟨[A, B, some (.rf k), some (.fz (.int n))], st⟩) (δ' := ⟨[A, B, some (.rf k), some (.fz (.int n))], st⟩) (rs := [.rf k, .fz (.int n)]) (k := k) rfl rfl rfl hk e1
  refine ⟨p1, hp1.up (by omega), ?_⟩
  unfold lC
  rw [sIf_ (bNot_ (dB_ f1))]
  rfl
theorem d_lwB {ns : List Int} {i : Nat} (hi : i ≤ 10) {x2 x3 : Option Vl} {st : List (Option (List D))} : ∃ st' y2 y3, lwB ⟨[some (.fz (.scr ns)), some (.fz (.int i)), x2, x3], st⟩ = some (.nx, ⟨[some (.fz (.scr ns)), some (.fz (.int i)), y2, y3], st'⟩) := by
  obtain ⟨p, e1, hp⟩ := g_pool (ns := ns) hi
  have e2 := cl0f (G := G_law_pool) (m := true) (n := 2) (fa := aCons (dVar 0) (aCons (dVar 1) aNil)) (δ := ⟨[some (.fz (.scr ns)), some (.fz (.int i)), x2, x3], st⟩) rfl rfl rfl e1
  have s1 : sSet 2 (dCallN true 2 G_law_pool (aCons (dVar 0) (aCons (dVar 1) aNil))) ⟨[some (.fz (.scr ns)), some (.fz (.int i)), x2, x3], st⟩ = some (.nx, ⟨[some (.fz (.scr ns)), some (.fz (.int i)), some (.rf st.length), x3], st ++ [some p]⟩) := by
    rw [sSet_ e2]
    rfl
  obtain ⟨p2, hp2, e3⟩ := d_lC (n := 2) (A := some (.fz (.scr ns))) (B := some (.fz (.int i))) (st := st ++ [some p]) (k := st.length) (.inl rfl) (by simp) hp (by omega)
  obtain ⟨p3, hp3, e4⟩ := d_lC (n := 3) (A := some (.fz (.scr ns))) (B := some (.fz (.int i))) (st := (st ++ [some p]).set st.length (some p2)) (k := st.length) (.inr rfl) (by simp) hp2 (by omega)
  refine ⟨((st ++ [some p]).set st.length (some p2)).set st.length (some p3), some (.rf st.length), some (.fz (.int (3 : Nat))), ?_⟩
  · unfold lwB
    rw [sSeq_nx s1, sFor]
    exact forD_nm e3 (forD_nm e4 forD_nil0)
theorem law_true (ns : List Int) (h : ns.length ≤ 63 ∧ ∀ z ∈ ns, Builtin.Int.intBits z ≤ 1048576) : G_law [.fz (.scr ns)] [] = some (.val (.bl true), []) := by
  let δ1 : Dl := ⟨[some (.fz (.scr ns)), none, none, none], []⟩
  have e1 : ∃ k : Nat, k ≤ 10 ∧ lI δ1 = some (rangeD 0 k, [], δ1) := by
    have h1 : lI δ1 = (if okR (if (if (ns.length : Int) < 4 then (ns.length : Int) else 4) > 1 then (if (ns.length : Int) < 4 then (ns.length : Int) else 4) else 1) then some (rangeD 0 (if (if (ns.length : Int) < 4 then (ns.length : Int) else 4) > 1 then (if (ns.length : Int) < 4 then (ns.length : Int) else 4) else 1).toNat, [], δ1) else none) := rfl
    have hX : 0 ≤ (if (if (ns.length : Int) < 4 then (ns.length : Int) else 4) > 1 then (if (ns.length : Int) < 4 then (ns.length : Int) else 4) else 1) ∧ (if (if (ns.length : Int) < 4 then (ns.length : Int) else 4) > 1 then (if (ns.length : Int) < 4 then (ns.length : Int) else 4) else 1) ≤ 10 := by
      by_cases a : (ns.length : Int) < 4
      · rw [if_pos a]
        split <;> omega
      · rw [if_neg a]
        decide
    generalize (if (if (ns.length : Int) < 4 then (ns.length : Int) else 4) > 1 then (if (ns.length : Int) < 4 then (ns.length : Int) else 4) else 1) = X at h1 hX
    refine ⟨X.toNat, by omega, ?_⟩
    rw [h1, if_pos]
    unfold okR
    omega
  obtain ⟨k, hk, e1⟩ := e1
  obtain ⟨δ', e2, x1, x2, x3, st, rfl⟩ := forD_inv (tg := .nm 1) (body := lwB) (ck := []) (fun i δ => ∃ x1 x2 x3 st, δ = ⟨[some (.fz (.scr ns)), x1, x2, x3], st⟩) (fun i δ _ => by simp) (rangeD 0 k) 0 δ1 ⟨_, _, _, _, rfl⟩ (by
    rintro j d δ hj ⟨x1, x2, x3, st, rfl⟩
    have hjk : j < k := by
      obtain ⟨hlt, _⟩ := List.getElem?_eq_some_iff.mp hj
      simpa [rangeD] using hlt
    rw [rangeD_get hjk] at hj
    cases hj
    rw [Int.zero_add]
    obtain ⟨st', y2, y3, e⟩ := d_lwB (ns := ns) (i := j) (by omega) (x2 := x2) (x3 := x3) (st := st)
    exact ⟨_, rfl, _, e, _, _, _, _, rfl⟩)
  have s1 : sFor lI (.nm 1) lwB δ1 = some (.nx, ⟨[some (.fz (.scr ns)), x1, x2, x3], st⟩) := by
    rw [sFor, e1]
    exact e2
  unfold G_law fnD
  rw [f_law_eq]
  show ((sSeq _ _ δ1).bind _) = _
  rw [sSeq_nx s1]
  rfl
end K51

namespace K51
open PySem L2 PySem.Spec PyProof.Rows PK
/-! ### the head -/
theorem law_spec (K : PySem.W.Frag) (mg : Str → Option Value) {Pg : List Int → Prop} (hG : ∀ ns : List Int, Pg ns → G_law [.fz (.scr ns)] [] = some (.val (.bl true), [])) (vs : List V) (H : Hp) (Q : VK) (E : XK) (h : ∃ (a : Addr) (ns : List Int), vs = [.ref a] ∧ SqL K H a (ns.map V.int) ∧ Pg ns ∧ ∀ H', Q (.bl true) H') : spD K mg 1 G_law vs H Q E := lawSpec hG h
set_option maxHeartbeats 0 in
theorem all_mk {l : PySem.W.OpenLaw} {w : World} {K : PySem.W.Frag} {h : Heap} {mg : Str → Option Value} {fa : Addr} (X : K.In h) (G : h.Ns mainGlobals mg) (hfa : mg "law" = some (.ref fa))
    {Pg : List Int → Prop} (hG : ∀ ns : List Int, Pg ns → G_law [.fz (.scr ns)] [] = some (.val (.bl true), []))
    {f0 f1 f2 f3 f4 f5 f6 f7 f8 f9 f10 f11 f12 f13 f14 f15 f16 f17 f18 f19 f20 f21 f22 f23 f24 f25 f26 f27 f28 f29 f30 f31 C0 p4 : Addr}
    {od0 an0 od1 an1 od2 an2 od3 an3 od4 an4 od5 an5 od6 an6 od7 an7 od8 an8 od9 an9 od10 an10 od11 an11 od12 an12 od13 an13 od14 an14 od15 an15 od16 an16 od17 an17 od18 an18 od19 an19 od20 an20 od21 an21 od22 an22 od23 an23 od24 an24 od25 an25 od26 an26 od27 an27 od28 an28 od29 an29 od30 an30 od31 an31 : Option Addr}
    {sl0 sl1 sl2 sl3 sl4 sl5 sl6 sl7 sl8 sl9 sl10 sl11 sl12 sl13 sl14 sl15 sl16 sl17 sl18 sl19 sl20 sl21 sl22 sl23 sl24 sl25 sl26 sl27 sl28 sl29 sl30 sl31 : Array (Option Value)}
    {oc0 kV0 dc0 pm0 cd0 ct0 oc1 kV1 dc1 pm1 cd1 ct1 oc2 kV2 dc2 pm2 cd2 ct2 oc3 kV3 dc3 pm3 cd3 ct3 oc4 kV4 dc4 pm4 cd4 ct4 oc5 kV5 dc5 pm5 cd5 ct5 oc6 kV6 dc6 pm6 cd6 ct6 oc7 kV7 dc7 pm7 cd7 ct7 oc8 kV8 dc8 pm8 cd8 ct8 oc9 kV9 dc9 pm9 cd9 ct9 oc10 kV10 dc10 pm10 cd10 ct10 oc11 kV11 dc11 pm11 cd11 ct11 oc12 kV12 dc12 pm12 cd12 ct12 oc13 kV13 dc13 pm13 cd13 ct13 oc14 kV14 dc14 pm14 cd14 ct14 oc15 kV15 dc15 pm15 cd15 ct15 oc16 kV16 dc16 pm16 cd16 ct16 oc17 kV17 dc17 pm17 cd17 ct17 oc18 kV18 dc18 pm18 cd18 ct18 oc19 kV19 dc19 pm19 cd19 ct19 oc20 kV20 dc20 pm20 cd20 ct20 oc21 kV21 dc21 pm21 cd21 ct21 oc22 kV22 dc22 pm22 cd22 ct22 oc23 kV23 dc23 pm23 cd23 ct23 oc24 kV24 dc24 pm24 cd24 ct24 oc25 kV25 dc25 pm25 cd25 ct25 oc26 kV26 dc26 pm26 cd26 ct26 oc27 kV27 dc27 pm27 cd27 ct27 oc28 kV28 dc28 pm28 cd28 ct28 oc29 kV29 dc29 pm29 cd29 ct29 oc30 kV30 dc30 pm30 cd30 ct30 oc31 kV31 dc31 pm31 cd31 ct31 : Value}
    {r4 : List Value}
    (at0 : PySem.W.nsIn K mainGlobals "dot" = some (some (.ref f0)))
    (at1 : PySem.W.nsIn K mainGlobals "_are_integers" = some (some (.ref f1)))
    (at2 : PySem.W.nsIn K mainGlobals "_check_width" = some (some (.ref f2)))
    (at3 : PySem.W.nsIn K mainGlobals "_check_vector" = some (some (.ref f3)))
    (at5 : PySem.W.nsIn K mainGlobals "_law_pool" = some (some (.ref f5)))
    (at6 : PySem.W.nsIn K mainGlobals "_law_draw" = some (some (.ref f6)))
    (at7 : PySem.W.nsIn K mainGlobals "_law_back" = some (some (.ref f7)))
    (at8 : PySem.W.nsIn K mainGlobals "_law_done" = some (some (.ref f8)))
    (at9 : PySem.W.nsIn K mainGlobals "_are_channels" = some (some (.ref f9)))
    (at10 : PySem.W.nsIn K mainGlobals "apply_step" = some (some (.ref f10)))
    (at11 : PySem.W.nsIn K mainGlobals "_law_divisor" = some (some (.ref f11)))
    (at12 : PySem.W.nsIn K mainGlobals "_law_weights" = some (some (.ref f12)))
    (at13 : PySem.W.nsIn K mainGlobals "_law_more" = some (some (.ref f13)))
    (at14 : PySem.W.nsIn K mainGlobals "_law_plain" = some (some (.ref f14)))
    (at15 : PySem.W.nsIn K mainGlobals "_law_once" = some (some (.ref f15)))
    (at16 : PySem.W.nsIn K mainGlobals "_is_lift" = some (some (.ref f16)))
    (at17 : PySem.W.nsIn K mainGlobals "_wrapped_round" = some (some (.ref f17)))
    (at18 : PySem.W.nsIn K mainGlobals "_law_lift" = some (some (.ref f18)))
    (at19 : PySem.W.nsIn K mainGlobals "_law_pair" = some (some (.ref f19)))
    (at20 : PySem.W.nsIn K mainGlobals "_law_wheel" = some (some (.ref f20)))
    (at21 : PySem.W.nsIn K mainGlobals "_law_cycle" = some (some (.ref f21)))
    (at22 : PySem.W.nsIn K mainGlobals "is_step" = some (some (.ref f22)))
    (at23 : PySem.W.nsIn K mainGlobals "_wrapped_orbit" = some (some (.ref f23)))
    (at24 : PySem.W.nsIn K mainGlobals "_law_moves" = some (some (.ref f24)))
    (at25 : PySem.W.nsIn K mainGlobals "_law_turning" = some (some (.ref f25)))
    (at26 : PySem.W.nsIn K mainGlobals "wrapped_after" = some (some (.ref f26)))
    (at27 : PySem.W.nsIn K mainGlobals "cycle_length" = some (some (.ref f27)))
    (at28 : PySem.W.nsIn K mainGlobals "_check_chain" = some (some (.ref f28)))
    (at30 : PySem.W.nsIn K mainGlobals "_law_right" = some (some (.ref f30)))
    (at31 : PySem.W.nsIn K mainGlobals "law" = some (some (.ref f31)))
    (aC0 : PySem.W.nsIn K mainGlobals "Chain" = some (some (.ref C0)))
    (pa4 : PySem.W.findIn K (.ref C0) "steps" = some (some (.ref p4)))
    (pb4 : PySem.W.specialIn K (.ref p4) "__get__" = some (some (.builtin "property.__get__")))
    (pc4 : PySem.W.takesIn K (.ref p4) = some true)
    (pd4 : PySem.W.recIn K p4 "property" = some (.ref f4 :: r4))
    (at29 : PySem.W.findIn K (.ref C0) "__init__" = some (some (.ref f29)))
    (fn29 : PySem.W.isFn K (.ref f29) = true)
    (l0 : K.lookup f0 = some ⟨oc0, od0, .func (PySem.W.fnOf "dot" "dot" (defArgs s_dot) (defBody s_dot) (defScope s_dot) .none kV0 dc0 pm0 an0 cd0 ct0), sl0⟩)
    (cc0 : PySem.W.codeIn K cd0 "dot" = true)
    (kk0 : PySem.W.keepIn K (.ref f0) = true)
    (l1 : K.lookup f1 = some ⟨oc1, od1, .func (PySem.W.fnOf "_are_integers" "_are_integers" (defArgs s_are_integers) (defBody s_are_integers) (defScope s_are_integers) .none kV1 dc1 pm1 an1 cd1 ct1), sl1⟩)
    (cc1 : PySem.W.codeIn K cd1 "_are_integers" = true)
    (kk1 : PySem.W.keepIn K (.ref f1) = true)
    (l2 : K.lookup f2 = some ⟨oc2, od2, .func (PySem.W.fnOf "_check_width" "_check_width" (defArgs s_check_width) (defBody s_check_width) (defScope s_check_width) .none kV2 dc2 pm2 an2 cd2 ct2), sl2⟩)
    (cc2 : PySem.W.codeIn K cd2 "_check_width" = true)
    (kk2 : PySem.W.keepIn K (.ref f2) = true)
    (l3 : K.lookup f3 = some ⟨oc3, od3, .func (PySem.W.fnOf "_check_vector" "_check_vector" (defArgs s_check_vector) (defBody s_check_vector) (defScope s_check_vector) .none kV3 dc3 pm3 an3 cd3 ct3), sl3⟩)
    (cc3 : PySem.W.codeIn K cd3 "_check_vector" = true)
    (kk3 : PySem.W.keepIn K (.ref f3) = true)
    (l4 : K.lookup f4 = some ⟨oc4, od4, .func (PySem.W.fnOf "steps" "Chain.steps" (defArgs s_Chain_steps) (defBody s_Chain_steps) (defScope s_Chain_steps) .none kV4 dc4 pm4 an4 cd4 ct4), sl4⟩)
    (cc4 : PySem.W.codeIn K cd4 "Chain.steps" = true)
    (kk4 : PySem.W.keepIn K (.ref f4) = true)
    (l5 : K.lookup f5 = some ⟨oc5, od5, .func (PySem.W.fnOf "_law_pool" "_law_pool" (defArgs s_law_pool) (defBody s_law_pool) (defScope s_law_pool) .none kV5 dc5 pm5 an5 cd5 ct5), sl5⟩)
    (cc5 : PySem.W.codeIn K cd5 "_law_pool" = true)
    (kk5 : PySem.W.keepIn K (.ref f5) = true)
    (l6 : K.lookup f6 = some ⟨oc6, od6, .func (PySem.W.fnOf "_law_draw" "_law_draw" (defArgs s_law_draw) (defBody s_law_draw) (defScope s_law_draw) .none kV6 dc6 pm6 an6 cd6 ct6), sl6⟩)
    (cc6 : PySem.W.codeIn K cd6 "_law_draw" = true)
    (kk6 : PySem.W.keepIn K (.ref f6) = true)
    (l7 : K.lookup f7 = some ⟨oc7, od7, .func (PySem.W.fnOf "_law_back" "_law_back" (defArgs s_law_back) (defBody s_law_back) (defScope s_law_back) .none kV7 dc7 pm7 an7 cd7 ct7), sl7⟩)
    (cc7 : PySem.W.codeIn K cd7 "_law_back" = true)
    (kk7 : PySem.W.keepIn K (.ref f7) = true)
    (l8 : K.lookup f8 = some ⟨oc8, od8, .func (PySem.W.fnOf "_law_done" "_law_done" (defArgs s_law_done) (defBody s_law_done) (defScope s_law_done) .none kV8 dc8 pm8 an8 cd8 ct8), sl8⟩)
    (cc8 : PySem.W.codeIn K cd8 "_law_done" = true)
    (kk8 : PySem.W.keepIn K (.ref f8) = true)
    (l9 : K.lookup f9 = some ⟨oc9, od9, .func (PySem.W.fnOf "_are_channels" "_are_channels" (defArgs s_are_channels) (defBody s_are_channels) (defScope s_are_channels) .none kV9 dc9 pm9 an9 cd9 ct9), sl9⟩)
    (cc9 : PySem.W.codeIn K cd9 "_are_channels" = true)
    (kk9 : PySem.W.keepIn K (.ref f9) = true)
    (l10 : K.lookup f10 = some ⟨oc10, od10, .func (PySem.W.fnOf "apply_step" "apply_step" (defArgs s_apply_step) (defBody s_apply_step) (defScope s_apply_step) .none kV10 dc10 pm10 an10 cd10 ct10), sl10⟩)
    (cc10 : PySem.W.codeIn K cd10 "apply_step" = true)
    (kk10 : PySem.W.keepIn K (.ref f10) = true)
    (l11 : K.lookup f11 = some ⟨oc11, od11, .func (PySem.W.fnOf "_law_divisor" "_law_divisor" (defArgs s_law_divisor) (defBody s_law_divisor) (defScope s_law_divisor) .none kV11 dc11 pm11 an11 cd11 ct11), sl11⟩)
    (cc11 : PySem.W.codeIn K cd11 "_law_divisor" = true)
    (kk11 : PySem.W.keepIn K (.ref f11) = true)
    (l12 : K.lookup f12 = some ⟨oc12, od12, .func (PySem.W.fnOf "_law_weights" "_law_weights" (defArgs s_law_weights) (defBody s_law_weights) (defScope s_law_weights) .none kV12 dc12 pm12 an12 cd12 ct12), sl12⟩)
    (cc12 : PySem.W.codeIn K cd12 "_law_weights" = true)
    (kk12 : PySem.W.keepIn K (.ref f12) = true)
    (l13 : K.lookup f13 = some ⟨oc13, od13, .func (PySem.W.fnOf "_law_more" "_law_more" (defArgs s_law_more) (defBody s_law_more) (defScope s_law_more) .none kV13 dc13 pm13 an13 cd13 ct13), sl13⟩)
    (cc13 : PySem.W.codeIn K cd13 "_law_more" = true)
    (kk13 : PySem.W.keepIn K (.ref f13) = true)
    (l14 : K.lookup f14 = some ⟨oc14, od14, .func (PySem.W.fnOf "_law_plain" "_law_plain" (defArgs s_law_plain) (defBody s_law_plain) (defScope s_law_plain) .none kV14 dc14 pm14 an14 cd14 ct14), sl14⟩)
    (cc14 : PySem.W.codeIn K cd14 "_law_plain" = true)
    (kk14 : PySem.W.keepIn K (.ref f14) = true)
    (l15 : K.lookup f15 = some ⟨oc15, od15, .func (PySem.W.fnOf "_law_once" "_law_once" (defArgs s_law_once) (defBody s_law_once) (defScope s_law_once) .none kV15 dc15 pm15 an15 cd15 ct15), sl15⟩)
    (cc15 : PySem.W.codeIn K cd15 "_law_once" = true)
    (kk15 : PySem.W.keepIn K (.ref f15) = true)
    (l16 : K.lookup f16 = some ⟨oc16, od16, .func (PySem.W.fnOf "_is_lift" "_is_lift" (defArgs s_is_lift) (defBody s_is_lift) (defScope s_is_lift) .none kV16 dc16 pm16 an16 cd16 ct16), sl16⟩)
    (cc16 : PySem.W.codeIn K cd16 "_is_lift" = true)
    (kk16 : PySem.W.keepIn K (.ref f16) = true)
    (l17 : K.lookup f17 = some ⟨oc17, od17, .func (PySem.W.fnOf "_wrapped_round" "_wrapped_round" (defArgs s_wrapped_round) (defBody s_wrapped_round) (defScope s_wrapped_round) .none kV17 dc17 pm17 an17 cd17 ct17), sl17⟩)
    (cc17 : PySem.W.codeIn K cd17 "_wrapped_round" = true)
    (kk17 : PySem.W.keepIn K (.ref f17) = true)
    (l18 : K.lookup f18 = some ⟨oc18, od18, .func (PySem.W.fnOf "_law_lift" "_law_lift" (defArgs s_law_lift) (defBody s_law_lift) (defScope s_law_lift) .none kV18 dc18 pm18 an18 cd18 ct18), sl18⟩)
    (cc18 : PySem.W.codeIn K cd18 "_law_lift" = true)
    (kk18 : PySem.W.keepIn K (.ref f18) = true)
    (l19 : K.lookup f19 = some ⟨oc19, od19, .func (PySem.W.fnOf "_law_pair" "_law_pair" (defArgs s_law_pair) (defBody s_law_pair) (defScope s_law_pair) .none kV19 dc19 pm19 an19 cd19 ct19), sl19⟩)
    (cc19 : PySem.W.codeIn K cd19 "_law_pair" = true)
    (kk19 : PySem.W.keepIn K (.ref f19) = true)
    (l20 : K.lookup f20 = some ⟨oc20, od20, .func (PySem.W.fnOf "_law_wheel" "_law_wheel" (defArgs s_law_wheel) (defBody s_law_wheel) (defScope s_law_wheel) .none kV20 dc20 pm20 an20 cd20 ct20), sl20⟩)
    (cc20 : PySem.W.codeIn K cd20 "_law_wheel" = true)
    (kk20 : PySem.W.keepIn K (.ref f20) = true)
    (l21 : K.lookup f21 = some ⟨oc21, od21, .func (PySem.W.fnOf "_law_cycle" "_law_cycle" (defArgs s_law_cycle) (defBody s_law_cycle) (defScope s_law_cycle) .none kV21 dc21 pm21 an21 cd21 ct21), sl21⟩)
    (cc21 : PySem.W.codeIn K cd21 "_law_cycle" = true)
    (kk21 : PySem.W.keepIn K (.ref f21) = true)
    (l22 : K.lookup f22 = some ⟨oc22, od22, .func (PySem.W.fnOf "is_step" "is_step" (defArgs s_is_step) (defBody s_is_step) (defScope s_is_step) .none kV22 dc22 pm22 an22 cd22 ct22), sl22⟩)
    (cc22 : PySem.W.codeIn K cd22 "is_step" = true)
    (kk22 : PySem.W.keepIn K (.ref f22) = true)
    (l23 : K.lookup f23 = some ⟨oc23, od23, .func (PySem.W.fnOf "_wrapped_orbit" "_wrapped_orbit" (defArgs s_wrapped_orbit) (defBody s_wrapped_orbit) (defScope s_wrapped_orbit) .none kV23 dc23 pm23 an23 cd23 ct23), sl23⟩)
    (cc23 : PySem.W.codeIn K cd23 "_wrapped_orbit" = true)
    (kk23 : PySem.W.keepIn K (.ref f23) = true)
    (l24 : K.lookup f24 = some ⟨oc24, od24, .func (PySem.W.fnOf "_law_moves" "_law_moves" (defArgs s_law_moves) (defBody s_law_moves) (defScope s_law_moves) .none kV24 dc24 pm24 an24 cd24 ct24), sl24⟩)
    (cc24 : PySem.W.codeIn K cd24 "_law_moves" = true)
    (kk24 : PySem.W.keepIn K (.ref f24) = true)
    (l25 : K.lookup f25 = some ⟨oc25, od25, .func (PySem.W.fnOf "_law_turning" "_law_turning" (defArgs s_law_turning) (defBody s_law_turning) (defScope s_law_turning) .none kV25 dc25 pm25 an25 cd25 ct25), sl25⟩)
    (cc25 : PySem.W.codeIn K cd25 "_law_turning" = true)
    (kk25 : PySem.W.keepIn K (.ref f25) = true)
    (l26 : K.lookup f26 = some ⟨oc26, od26, .func (PySem.W.fnOf "wrapped_after" "wrapped_after" (defArgs s_wrapped_after) (defBody s_wrapped_after) (defScope s_wrapped_after) .none kV26 dc26 pm26 an26 cd26 ct26), sl26⟩)
    (cc26 : PySem.W.codeIn K cd26 "wrapped_after" = true)
    (kk26 : PySem.W.keepIn K (.ref f26) = true)
    (l27 : K.lookup f27 = some ⟨oc27, od27, .func (PySem.W.fnOf "cycle_length" "cycle_length" (defArgs s_cycle_length) (defBody s_cycle_length) (defScope s_cycle_length) .none kV27 dc27 pm27 an27 cd27 ct27), sl27⟩)
    (cc27 : PySem.W.codeIn K cd27 "cycle_length" = true)
    (kk27 : PySem.W.keepIn K (.ref f27) = true)
    (l28 : K.lookup f28 = some ⟨oc28, od28, .func (PySem.W.fnOf "_check_chain" "_check_chain" (defArgs s_check_chain) (defBody s_check_chain) (defScope s_check_chain) .none kV28 dc28 pm28 an28 cd28 ct28), sl28⟩)
    (cc28 : PySem.W.codeIn K cd28 "_check_chain" = true)
    (kk28 : PySem.W.keepIn K (.ref f28) = true)
    (l29 : K.lookup f29 = some ⟨oc29, od29, .func (PySem.W.fnOf "__init__" "Chain.__init__" (defArgs s_Chain_init) (defBody s_Chain_init) (defScope s_Chain_init) .none kV29 dc29 pm29 an29 cd29 ct29), sl29⟩)
    (cc29 : PySem.W.codeIn K cd29 "Chain.__init__" = true)
    (kk29 : PySem.W.keepIn K (.ref f29) = true)
    (l30 : K.lookup f30 = some ⟨oc30, od30, .func (PySem.W.fnOf "_law_right" "_law_right" (defArgs s_law_right) (defBody s_law_right) (defScope s_law_right) .none kV30 dc30 pm30 an30 cd30 ct30), sl30⟩)
    (cc30 : PySem.W.codeIn K cd30 "_law_right" = true)
    (kk30 : PySem.W.keepIn K (.ref f30) = true)
    (l31 : K.lookup f31 = some ⟨oc31, od31, .func (PySem.W.fnOf "law" "law" (defArgs s_law) (defBody s_law) (defScope s_law) .none kV31 dc31 pm31 an31 cd31 ct31), sl31⟩)
    (cc31 : PySem.W.codeIn K cd31 "law" = true)
    (kk31 : PySem.W.keepIn K (.ref f31) = true)
    (pg0 : PySem.W.plainGet K C0 Str.empty = true)
    (hd0 : PySem.W.hasDictIn K C0 = true)
    (po0 : PySem.W.plainOver K C0 = true)
    (sa0 : PySem.W.findIn K (.ref C0) "__setattr__" = some (some (.builtin "object.__setattr__")))
    (mk0 : PySem.W.makesIn K C0 = true)
    (kc0 : PySem.W.keepIn K (.ref C0) = true)
    (ia0 : PySem.W.findIn K (.ref C0) "__class__" = some (some (.builtin "object.__class__")))
    (ib0 : PySem.W.specialIn K (.builtin "object.__class__") "__get__" = some (some (.builtin "getset_descriptor.__get__")))
    (ic0 : PySem.W.takesIn K (.builtin "object.__class__") = some true)
    (im0 : PySem.W.mroIn K C0 (.type "object") = some true)
    (nf0_channels : PySem.W.findIn K (.ref C0) "_channels" = some none)
    (nf0_steps : PySem.W.findIn K (.ref C0) "_steps" = some none)
    (z_abs : PySem.W.nsIn K mainGlobals "abs" = some none)
    (z_all : PySem.W.nsIn K mainGlobals "all" = some none)
    (z_bool : PySem.W.nsIn K mainGlobals "bool" = some none)
    (z_enumerate : PySem.W.nsIn K mainGlobals "enumerate" = some none)
    (z_int : PySem.W.nsIn K mainGlobals "int" = some none)
    (z_isinstance : PySem.W.nsIn K mainGlobals "isinstance" = some none)
    (z_len : PySem.W.nsIn K mainGlobals "len" = some none)
    (z_list : PySem.W.nsIn K mainGlobals "list" = some none)
    (z_max : PySem.W.nsIn K mainGlobals "max" = some none)
    (z_min : PySem.W.nsIn K mainGlobals "min" = some none)
    (z_range : PySem.W.nsIn K mainGlobals "range" = some none)
    (z_sum : PySem.W.nsIn K mainGlobals "sum" = some none)
    (z_tuple : PySem.W.nsIn K mainGlobals "tuple" = some none)
    (z_zip : PySem.W.nsIn K mainGlobals "zip" = some none) :
    ∃ fd : FuncData, (∀ (s : Shared) (v : Value), BindsTo s fd ⟨[v], []⟩ [("script", v)]) ∧ ∀ base : Heap, K.In base → base.Ns mainGlobals mg → FnOk l.prog w K mg base CX0 9 fa fd ["script"] (fun vs H Q _ => ∃ (a : Addr) (ns : List Int), vs = [.ref a] ∧ SqL K H a (ns.map V.int) ∧ Pg ns ∧ ∀ H', Q (.bl true) H') := by
  have e := hfa.symm.trans (PySem.W.mg_of X G at31)
  cases e
  have F0 := fun_mk (st := s_dot) l0 cc0 kk0
  have b0 := F0.binds (ps := ["first", "second"]) fun _ _ _ _ _ _ us hl => match us, hl with | [_, _], _ => rfl
  have F1 := fun_mk (st := s_are_integers) l1 cc1 kk1
  have b1 := F1.binds (ps := ["items"]) fun _ _ _ _ _ _ us hl => match us, hl with | [_], _ => rfl
  have F2 := fun_mk (st := s_check_width) l2 cc2 kk2
  have b2 := F2.binds (ps := ["width"]) fun _ _ _ _ _ _ us hl => match us, hl with | [_], _ => rfl
  have F3 := fun_mk (st := s_check_vector) l3 cc3 kk3
  have b3 := F3.binds (ps := ["width", "vector"]) fun _ _ _ _ _ _ us hl => match us, hl with | [_, _], _ => rfl
  have F4 := fun_mk (st := s_Chain_steps) l4 cc4 kk4
  have b4 := F4.binds (ps := ["self"]) fun _ _ _ _ _ _ us hl => match us, hl with | [_], _ => rfl
  have F5 := fun_mk (st := s_law_pool) l5 cc5 kk5
  have b5 := F5.binds (ps := ["script", "spot"]) fun _ _ _ _ _ _ us hl => match us, hl with | [_, _], _ => rfl
  have F6 := fun_mk (st := s_law_draw) l6 cc6 kk6
  have b6 := F6.binds (ps := ["pool", "many"]) fun _ _ _ _ _ _ us hl => match us, hl with | [_, _], _ => rfl
  have F7 := fun_mk (st := s_law_back) l7 cc7 kk7
  have b7 := F7.binds (ps := ["one"]) fun _ _ _ _ _ _ us hl => match us, hl with | [_], _ => rfl
  have F8 := fun_mk (st := s_law_done) l8 cc8 kk8
  have b8 := F8.binds (ps := ["one", "place"]) fun _ _ _ _ _ _ us hl => match us, hl with | [_, _], _ => rfl
  have F9 := fun_mk (st := s_are_channels) l9 cc9 kk9
  have b9 := F9.binds (ps := ["channels", "items"]) fun _ _ _ _ _ _ us hl => match us, hl with | [_, _], _ => rfl
  have F10 := fun_mk (st := s_apply_step) l10 cc10 kk10
  have b10 := F10.binds (ps := ["step", "vector"]) fun _ _ _ _ _ _ us hl => match us, hl with | [_, _], _ => rfl
  have F11 := fun_mk (st := s_law_divisor) l11 cc11 kk11
  have b11 := F11.binds (ps := ["pool", "room"]) fun _ _ _ _ _ _ us hl => match us, hl with | [_, _], _ => rfl
  have F12 := fun_mk (st := s_law_weights) l12 cc12 kk12
  have b12 := F12.binds (ps := ["pool", "many", "own"]) fun _ _ _ _ _ _ us hl => match us, hl with | [_, _, _], _ => rfl
  have F13 := fun_mk (st := s_law_more) l13 cc13 kk13
  have b13 := F13.binds (ps := ["pool"]) fun _ _ _ _ _ _ us hl => match us, hl with | [_], _ => rfl
  have F14 := fun_mk (st := s_law_plain) l14 cc14 kk14
  have b14 := F14.binds (ps := ["pool", "many"]) fun _ _ _ _ _ _ us hl => match us, hl with | [_, _], _ => rfl
  have F15 := fun_mk (st := s_law_once) l15 cc15 kk15
  have b15 := F15.binds (ps := ["moves", "wide", "place"]) fun _ _ _ _ _ _ us hl => match us, hl with | [_, _, _], _ => rfl
  have F16 := fun_mk (st := s_is_lift) l16 cc16 kk16
  have b16 := F16.binds (ps := ["channels", "step"]) fun _ _ _ _ _ _ us hl => match us, hl with | [_, _], _ => rfl
  have F17 := fun_mk (st := s_wrapped_round) l17 cc17 kk17
  have b17 := F17.binds (ps := ["steps", "width", "row"]) fun _ _ _ _ _ _ us hl => match us, hl with | [_, _, _], _ => rfl
  have F18 := fun_mk (st := s_law_lift) l18 cc18 kk18
  have b18 := F18.binds (ps := ["pool", "many", "room"]) fun _ _ _ _ _ _ us hl => match us, hl with | [_, _, _], _ => rfl
  have F19 := fun_mk (st := s_law_pair) l19 cc19 kk19
  have b19 := F19.binds (ps := ["pool", "many", "room"]) fun _ _ _ _ _ _ us hl => match us, hl with | [_, _, _], _ => rfl
  have F20 := fun_mk (st := s_law_wheel) l20 cc20 kk20
  have b20 := F20.binds (ps := ["pool", "many"]) fun _ _ _ _ _ _ us hl => match us, hl with | [_, _], _ => rfl
  have F21 := fun_mk (st := s_law_cycle) l21 cc21 kk21
  have b21 := F21.binds (ps := ["moves", "wide", "place"]) fun _ _ _ _ _ _ us hl => match us, hl with | [_, _, _], _ => rfl
  have F22 := fun_mk (st := s_is_step) l22 cc22 kk22
  have b22 := F22.binds (ps := ["channels", "step"]) fun _ _ _ _ _ _ us hl => match us, hl with | [_, _], _ => rfl
  have F23 := fun_mk (st := s_wrapped_orbit) l23 cc23 kk23
  have b23 := F23.binds (ps := ["chain", "width", "vector"]) fun _ _ _ _ _ _ us hl => match us, hl with | [_, _, _], _ => rfl
  have F24 := fun_mk (st := s_law_moves) l24 cc24 kk24
  have b24 := F24.binds (ps := ["pool", "many", "most", "product"]) fun _ _ _ _ _ _ us hl => match us, hl with | [_, _, _, _], _ => rfl
  have F25 := fun_mk (st := s_law_turning) l25 cc25 kk25
  have b25 := F25.binds (ps := ["pool", "many"]) fun _ _ _ _ _ _ us hl => match us, hl with | [_, _], _ => rfl
  have F26 := fun_mk (st := s_wrapped_after) l26 cc26 kk26
  have b26 := F26.binds (ps := ["chain", "width", "vector", "times"]) fun _ _ _ _ _ _ us hl => match us, hl with | [_, _, _, _], _ => rfl
  have F27 := fun_mk (st := s_cycle_length) l27 cc27 kk27
  have b27 := F27.binds (ps := ["chain", "width", "vector"]) fun _ _ _ _ _ _ us hl => match us, hl with | [_, _, _], _ => rfl
  have F28 := fun_mk (st := s_check_chain) l28 cc28 kk28
  have b28 := F28.binds (ps := ["channels", "steps"]) fun _ _ _ _ _ _ us hl => match us, hl with | [_, _], _ => rfl
  have F29 := fun_mk (st := s_Chain_init) l29 cc29 kk29
  have b29 := F29.binds (ps := ["self", "channels", "steps"]) fun _ _ _ _ _ _ us hl => match us, hl with | [_, _, _], _ => rfl
  have F30 := fun_mk (st := s_law_right) l30 cc30 kk30
  have b30 := F30.binds (ps := ["pool", "many"]) fun _ _ _ _ _ _ us hl => match us, hl with | [_, _], _ => rfl
  have F31 := fun_mk (st := s_law) l31 cc31 kk31
  have b31 := F31.binds (ps := ["script"]) fun _ _ _ _ _ _ us hl => match us, hl with | [_], _ => rfl
  have T : Tx K mg (fun n : Nat => ([f0, f1, f2, f3, f4, f5, f6, f7, f8, f9, f10, f11, f12, f13, f14, f15, f16, f17, f18, f19, f20, f21, f22, f23, f24, f25, f26, f27, f28, f29, f30, fa] : List Addr).getD n 0) (fun n : Nat => ([(PySem.W.fnOf "dot" "dot" (defArgs s_dot) (defBody s_dot) (defScope s_dot) .none kV0 dc0 pm0 an0 cd0 ct0), (PySem.W.fnOf "_are_integers" "_are_integers" (defArgs s_are_integers) (defBody s_are_integers) (defScope s_are_integers) .none kV1 dc1 pm1 an1 cd1 ct1), (PySem.W.fnOf "_check_width" "_check_width" (defArgs s_check_width) (defBody s_check_width) (defScope s_check_width) .none kV2 dc2 pm2 an2 cd2 ct2), (PySem.W.fnOf "_check_vector" "_check_vector" (defArgs s_check_vector) (defBody s_check_vector) (defScope s_check_vector) .none kV3 dc3 pm3 an3 cd3 ct3), (PySem.W.fnOf "steps" "Chain.steps" (defArgs s_Chain_steps) (defBody s_Chain_steps) (defScope s_Chain_steps) .none kV4 dc4 pm4 an4 cd4 ct4), (PySem.W.fnOf "_law_pool" "_law_pool" (defArgs s_law_pool) (defBody s_law_pool) (defScope s_law_pool) .none kV5 dc5 pm5 an5 cd5 ct5), (PySem.W.fnOf "_law_draw" "_law_draw" (defArgs s_law_draw) (defBody s_law_draw) (defScope s_law_draw) .none kV6 dc6 pm6 an6 cd6 ct6), (PySem.W.fnOf "_law_back" "_law_back" (defArgs s_law_back) (defBody s_law_back) (defScope s_law_back) .none kV7 dc7 pm7 an7 cd7 ct7), (PySem.W.fnOf "_law_done" "_law_done" (defArgs s_law_done) (defBody s_law_done) (defScope s_law_done) .none kV8 dc8 pm8 an8 cd8 ct8), (PySem.W.fnOf "_are_channels" "_are_channels" (defArgs s_are_channels) (defBody s_are_channels) (defScope s_are_channels) .none kV9 dc9 pm9 an9 cd9 ct9), (PySem.W.fnOf "apply_step" "apply_step" (defArgs s_apply_step) (defBody s_apply_step) (defScope s_apply_step) .none kV10 dc10 pm10 an10 cd10 ct10), (PySem.W.fnOf "_law_divisor" "_law_divisor" (defArgs s_law_divisor) (defBody s_law_divisor) (defScope s_law_divisor) .none kV11 dc11 pm11 an11 cd11 ct11), (PySem.W.fnOf "_law_weights" "_law_weights" (defArgs s_law_weights) (defBody s_law_weights) (defScope s_law_weights) .none kV12 dc12 pm12 an12 cd12 ct12), (PySem.W.fnOf "_law_more" "_law_more" (defArgs s_law_more) (defBody s_law_more) (defScope s_law_more) .none kV13 dc13 pm13 an13 cd13 ct13), (PySem.W.fnOf "_law_plain" "_law_plain" (defArgs s_law_plain) (defBody s_law_plain) (defScope s_law_plain) .none kV14 dc14 pm14 an14 cd14 ct14), (PySem.W.fnOf "_law_once" "_law_once" (defArgs s_law_once) (defBody s_law_once) (defScope s_law_once) .none kV15 dc15 pm15 an15 cd15 ct15), (PySem.W.fnOf "_is_lift" "_is_lift" (defArgs s_is_lift) (defBody s_is_lift) (defScope s_is_lift) .none kV16 dc16 pm16 an16 cd16 ct16), (PySem.W.fnOf "_wrapped_round" "_wrapped_round" (defArgs s_wrapped_round) (defBody s_wrapped_round) (defScope s_wrapped_round) .none kV17 dc17 pm17 an17 cd17 ct17), (PySem.W.fnOf "_law_lift" "_law_lift" (defArgs s_law_lift) (defBody s_law_lift) (defScope s_law_lift) .none kV18 dc18 pm18 an18 cd18 ct18), (PySem.W.fnOf "_law_pair" "_law_pair" (defArgs s_law_pair) (defBody s_law_pair) (defScope s_law_pair) .none kV19 dc19 pm19 an19 cd19 ct19), (PySem.W.fnOf "_law_wheel" "_law_wheel" (defArgs s_law_wheel) (defBody s_law_wheel) (defScope s_law_wheel) .none kV20 dc20 pm20 an20 cd20 ct20), (PySem.W.fnOf "_law_cycle" "_law_cycle" (defArgs s_law_cycle) (defBody s_law_cycle) (defScope s_law_cycle) .none kV21 dc21 pm21 an21 cd21 ct21), (PySem.W.fnOf "is_step" "is_step" (defArgs s_is_step) (defBody s_is_step) (defScope s_is_step) .none kV22 dc22 pm22 an22 cd22 ct22), (PySem.W.fnOf "_wrapped_orbit" "_wrapped_orbit" (defArgs s_wrapped_orbit) (defBody s_wrapped_orbit) (defScope s_wrapped_orbit) .none kV23 dc23 pm23 an23 cd23 ct23), (PySem.W.fnOf "_law_moves" "_law_moves" (defArgs s_law_moves) (defBody s_law_moves) (defScope s_law_moves) .none kV24 dc24 pm24 an24 cd24 ct24), (PySem.W.fnOf "_law_turning" "_law_turning" (defArgs s_law_turning) (defBody s_law_turning) (defScope s_law_turning) .none kV25 dc25 pm25 an25 cd25 ct25), (PySem.W.fnOf "wrapped_after" "wrapped_after" (defArgs s_wrapped_after) (defBody s_wrapped_after) (defScope s_wrapped_after) .none kV26 dc26 pm26 an26 cd26 ct26), (PySem.W.fnOf "cycle_length" "cycle_length" (defArgs s_cycle_length) (defBody s_cycle_length) (defScope s_cycle_length) .none kV27 dc27 pm27 an27 cd27 ct27), (PySem.W.fnOf "_check_chain" "_check_chain" (defArgs s_check_chain) (defBody s_check_chain) (defScope s_check_chain) .none kV28 dc28 pm28 an28 cd28 ct28), (PySem.W.fnOf "__init__" "Chain.__init__" (defArgs s_Chain_init) (defBody s_Chain_init) (defScope s_Chain_init) .none kV29 dc29 pm29 an29 cd29 ct29), (PySem.W.fnOf "_law_right" "_law_right" (defArgs s_law_right) (defBody s_law_right) (defScope s_law_right) .none kV30 dc30 pm30 an30 cd30 ct30), (PySem.W.fnOf "law" "law" (defArgs s_law) (defBody s_law) (defScope s_law) .none kV31 dc31 pm31 an31 cd31 ct31)] : List FuncData).getD n (PySem.W.fnOf "dot" "dot" (defArgs s_dot) (defBody s_dot) (defScope s_dot) .none kV0 dc0 pm0 an0 cd0 ct0)) (fun n : Nat => ([C0] : List Addr).getD n 0) (fun n : Nat => ([0, 0, 0, 0, p4, 0, 0, 0, 0, 0, 0, 0, 0, 0, 0, 0, 0, 0, 0, 0, 0, 0, 0, 0, 0, 0, 0, 0, 0, 0, 0, 0] : List Addr).getD n 0) := ⟨F0,
    b0,
    PySem.W.mg_of X G at0,
    F1,
    b1,
    PySem.W.mg_of X G at1,
    F2,
    b2,
    PySem.W.mg_of X G at2,
    F3,
    b3,
    PySem.W.mg_of X G at3,
    F4,
    b4,
    F5,
    b5,
    PySem.W.mg_of X G at5,
    F6,
    b6,
    PySem.W.mg_of X G at6,
    F7,
    b7,
    PySem.W.mg_of X G at7,
    F8,
    b8,
    PySem.W.mg_of X G at8,
    F9,
    b9,
    PySem.W.mg_of X G at9,
    F10,
    b10,
    PySem.W.mg_of X G at10,
    F11,
    b11,
    PySem.W.mg_of X G at11,
    F12,
    b12,
    PySem.W.mg_of X G at12,
    F13,
    b13,
    PySem.W.mg_of X G at13,
    F14,
    b14,
    PySem.W.mg_of X G at14,
    F15,
    b15,
    PySem.W.mg_of X G at15,
    F16,
    b16,
    PySem.W.mg_of X G at16,
    F17,
    b17,
    PySem.W.mg_of X G at17,
    F18,
    b18,
    PySem.W.mg_of X G at18,
    F19,
    b19,
    PySem.W.mg_of X G at19,
    F20,
    b20,
    PySem.W.mg_of X G at20,
    F21,
    b21,
    PySem.W.mg_of X G at21,
    F22,
    b22,
    PySem.W.mg_of X G at22,
    F23,
    b23,
    PySem.W.mg_of X G at23,
    F24,
    b24,
    PySem.W.mg_of X G at24,
    F25,
    b25,
    PySem.W.mg_of X G at25,
    F26,
    b26,
    PySem.W.mg_of X G at26,
    F27,
    b27,
    PySem.W.mg_of X G at27,
    F28,
    b28,
    PySem.W.mg_of X G at28,
    F29,
    b29,
    F30,
    b30,
    PySem.W.mg_of X G at30,
    F31,
    b31,
    PySem.W.mg_of X G at31,
    PySem.W.mg_none_of X G z_abs,
    PySem.W.mg_none_of X G z_all,
    PySem.W.mg_none_of X G z_bool,
    PySem.W.mg_none_of X G z_enumerate,
    PySem.W.mg_none_of X G z_int,
    PySem.W.mg_none_of X G z_isinstance,
    PySem.W.mg_none_of X G z_len,
    PySem.W.mg_none_of X G z_list,
    PySem.W.mg_none_of X G z_max,
    PySem.W.mg_none_of X G z_min,
    PySem.W.mg_none_of X G z_range,
    PySem.W.mg_none_of X G z_sum,
    PySem.W.mg_none_of X G z_tuple,
    PySem.W.mg_none_of X G z_zip,
    ⟨fun s us ws _ l1 l2 => .of_eq (match us, ws, l1, l2 with | [_, _], [_], _, _ => rfl), fun r1 r2 => pick_vals (r1.append r2) _⟩,
    ⟨fun s us ws _ l1 l2 => .of_eq (match us, ws, l1, l2 with | [_, _, _], [_], _, _ => rfl), fun r1 r2 => pick_vals (r1.append r2) _⟩,
    PySem.W.mg_of X G aC0,
    ⟨pg0, hd0, po0, sa0⟩,
    ⟨ia0, ib0, ic0, im0⟩,
    ⟨pa4, pb4, pc4, r4, pd4⟩,
    ⟨mk0, at29, fn29, kc0⟩,
    nf0_channels,
    nf0_steps⟩
  exact ⟨(PySem.W.fnOf "law" "law" (defArgs s_law) (defBody s_law) (defScope s_law) .none kV31 dc31 pm31 an31 cd31 ct31), fun s v => .of_eq rfl, fun base _ _ => (ok_law T).imp (fun vs H Q E h => law_spec K mg hG vs H Q E h)⟩
end K51
open PySem PySem.W PyProof.Rows in
set_option maxRecDepth 100000 in
set_option maxHeartbeats 0 in
theorem PySem.Challenge.cw_liftsteps_k51_rounds_in_few_values_holds : PySem.Challenge.rw_liftsteps_k51_rounds_in_few_values.Holds := by
  w_on; o_law; k_head; (case hw => w_witness2)
  k_fill
  refine PK.walkLaw (l := PySem.Challenge.rw_liftsteps_k51_rounds_in_few_values) (k := 9) rfl rfl ⟨rfl, by decide, by decide⟩ (fun w h Y => PySem.W.kIn_of Y) ?F
  case F =>
    intro w mg fa h KX G hmg
    refine' K51.all_mk KX G hmg K51.law_true ?at0 ?at1 ?at2 ?at3 ?at5 ?at6 ?at7 ?at8 ?at9 ?at10 ?at11 ?at12 ?at13 ?at14 ?at15 ?at16 ?at17 ?at18 ?at19 ?at20 ?at21 ?at22 ?at23 ?at24 ?at25 ?at26 ?at27 ?at28 ?at30 ?at31 ?aC0 ?pa4 ?pb4 ?pc4 ?pd4 ?at29 ?fn29 ?l0 ?cc0 ?kk0 ?l1 ?cc1 ?kk1 ?l2 ?cc2 ?kk2 ?l3 ?cc3 ?kk3 ?l4 ?cc4 ?kk4 ?l5 ?cc5 ?kk5 ?l6 ?cc6 ?kk6 ?l7 ?cc7 ?kk7 ?l8 ?cc8 ?kk8 ?l9 ?cc9 ?kk9 ?l10 ?cc10 ?kk10 ?l11 ?cc11 ?kk11 ?l12 ?cc12 ?kk12 ?l13 ?cc13 ?kk13 ?l14 ?cc14 ?kk14 ?l15 ?cc15 ?kk15 ?l16 ?cc16 ?kk16 ?l17 ?cc17 ?kk17 ?l18 ?cc18 ?kk18 ?l19 ?cc19 ?kk19 ?l20 ?cc20 ?kk20 ?l21 ?cc21 ?kk21 ?l22 ?cc22 ?kk22 ?l23 ?cc23 ?kk23 ?l24 ?cc24 ?kk24 ?l25 ?cc25 ?kk25 ?l26 ?cc26 ?kk26 ?l27 ?cc27 ?kk27 ?l28 ?cc28 ?kk28 ?l29 ?cc29 ?kk29 ?l30 ?cc30 ?kk30 ?l31 ?cc31 ?kk31 ?pg0 ?hd0 ?po0 ?sa0 ?mk0 ?kc0 ?ia0 ?ib0 ?ic0 ?im0 ?nf0_channels ?nf0_steps ?z_abs ?z_all ?z_bool ?z_enumerate ?z_int ?z_isinstance ?z_len ?z_list ?z_max ?z_min ?z_range ?z_sum ?z_tuple ?z_zip
    (case at0 => k_is)
    (case at1 => k_is)
    (case at2 => k_is)
    (case at3 => k_is)
    (case at5 => k_is)
    (case at6 => k_is)
    (case at7 => k_is)
    (case at8 => k_is)
    (case at9 => k_is)
    (case at10 => k_is)
    (case at11 => k_is)
    (case at12 => k_is)
    (case at13 => k_is)
    (case at14 => k_is)
    (case at15 => k_is)
    (case at16 => k_is)
    (case at17 => k_is)
    (case at18 => k_is)
    (case at19 => k_is)
    (case at20 => k_is)
    (case at21 => k_is)
    (case at22 => k_is)
    (case at23 => k_is)
    (case at24 => k_is)
    (case at25 => k_is)
    (case at26 => k_is)
    (case at27 => k_is)
    (case at28 => k_is)
    (case at30 => k_is)
    (case at31 => k_is)
    (case aC0 => k_is)
    (case pa4 => k_is)
    (case pb4 => k_is)
    (case pc4 => k_is)
    (case pd4 => k_is)
    (case at29 => k_is)
    (case fn29 => k_is)
    (case l0 => k_is)
    (case cc0 => k_is)
    (case kk0 => k_is)
    (case l1 => k_is)
    (case cc1 => k_is)
    (case kk1 => k_is)
    (case l2 => k_is)
    (case cc2 => k_is)
    (case kk2 => k_is)
    (case l3 => k_is)
    (case cc3 => k_is)
    (case kk3 => k_is)
    (case l4 => k_is)
    (case cc4 => k_is)
    (case kk4 => k_is)
    (case l5 => k_is)
    (case cc5 => k_is)
    (case kk5 => k_is)
    (case l6 => k_is)
    (case cc6 => k_is)
    (case kk6 => k_is)
    (case l7 => k_is)
    (case cc7 => k_is)
    (case kk7 => k_is)
    (case l8 => k_is)
    (case cc8 => k_is)
    (case kk8 => k_is)
    (case l9 => k_is)
    (case cc9 => k_is)
    (case kk9 => k_is)
    (case l10 => k_is)
    (case cc10 => k_is)
    (case kk10 => k_is)
    (case l11 => k_is)
    (case cc11 => k_is)
    (case kk11 => k_is)
    (case l12 => k_is)
    (case cc12 => k_is)
    (case kk12 => k_is)
    (case l13 => k_is)
    (case cc13 => k_is)
    (case kk13 => k_is)
    (case l14 => k_is)
    (case cc14 => k_is)
    (case kk14 => k_is)
    (case l15 => k_is)
    (case cc15 => k_is)
    (case kk15 => k_is)
    (case l16 => k_is)
    (case cc16 => k_is)
    (case kk16 => k_is)
    (case l17 => k_is)
    (case cc17 => k_is)
    (case kk17 => k_is)
    (case l18 => k_is)
    (case cc18 => k_is)
    (case kk18 => k_is)
    (case l19 => k_is)
    (case cc19 => k_is)
    (case kk19 => k_is)
    (case l20 => k_is)
    (case cc20 => k_is)
    (case kk20 => k_is)
    (case l21 => k_is)
    (case cc21 => k_is)
    (case kk21 => k_is)
    (case l22 => k_is)
    (case cc22 => k_is)
    (case kk22 => k_is)
    (case l23 => k_is)
    (case cc23 => k_is)
    (case kk23 => k_is)
    (case l24 => k_is)
    (case cc24 => k_is)
    (case kk24 => k_is)
    (case l25 => k_is)
    (case cc25 => k_is)
    (case kk25 => k_is)
    (case l26 => k_is)
    (case cc26 => k_is)
    (case kk26 => k_is)
    (case l27 => k_is)
    (case cc27 => k_is)
    (case kk27 => k_is)
    (case l28 => k_is)
    (case cc28 => k_is)
    (case kk28 => k_is)
    (case l29 => k_is)
    (case cc29 => k_is)
    (case kk29 => k_is)
    (case l30 => k_is)
    (case cc30 => k_is)
    (case kk30 => k_is)
    (case l31 => k_is)
    (case cc31 => k_is)
    (case kk31 => k_is)
    (case pg0 => k_is)
    (case hd0 => k_is)
    (case po0 => k_is)
    (case sa0 => k_is)
    (case mk0 => k_is)
    (case kc0 => k_is)
    (case ia0 => k_is)
    (case ib0 => k_is)
    (case ic0 => k_is)
    (case im0 => k_is)
    (case nf0_channels => k_is)
    (case nf0_steps => k_is)
    (case z_abs => k_is)
    (case z_all => k_is)
    (case z_bool => k_is)
    (case z_enumerate => k_is)
    (case z_int => k_is)
    (case z_isinstance => k_is)
    (case z_len => k_is)
    (case z_list => k_is)
    (case z_max => k_is)
    (case z_min => k_is)
    (case z_range => k_is)
    (case z_sum => k_is)
    (case z_tuple => k_is)
    (case z_zip => k_is)
#print axioms PySem.Challenge.cw_liftsteps_k51_rounds_in_few_values_holds

