import PyProof.Rows.All
import Wide.All
import OpenK.AllK
import Wide.FinOn
import HandS.ForMost
import HandS.ForExc
import HandS.Walk
import HandS.Zip
import HandS.Rev
import HandS.Style
import HandS.Property
import HandS.MakeKw
import HandS.OwnEq
import HandS.Star
import HandS.IsInst
import HandS.Wide
import HandS.Flow
import HandS.ExcInit
import HandS.Gcd
import HandS.TupAny
import HandS.TupMul
import HandS.MakeKwOnly
import HandS.EndBits
import PyProof.ReprRoads
import PyProof.ReprLen
import KE.DataCmp
import HandS.NoneIn
import HandS.Dict
import KE.KDictZip
import HandS.RevRange
import HandS.Conv
import HandS.Deep
import HandS.WordsExc
import HandS.ExcField
import HandS.ExcIs
import KE.KExcIs
import KE.KRevSl
import PyProof.ListIndexNeg
import HandS.SetFor
import PyProof.Draws
import PyProof.EnumMake
import KE.DatumOrd
import PyProof.LongRange
import PyProof.ListRange
import PySem.Challenge.RW_liftsteps_k03_errors_of_matrices
set_option Elab.async false
set_option linter.all false
set_option maxRecDepth 100000
namespace PK
open PySem L2
/-- data: what a value stands for, without the heap -/
inductive D where
  | non | bl (b : Bool) | int (i : Int) | str (s : Str)
  | lst (xs : List D) | tup (xs : List D)
  | ins (c : Str) (ns : List Str) (xs : List D)
  | scr (ns : List Int)
  /-- an exception of an own class, told of one thing -/
  | exc (c : Str) (d : D)
/-- what a slot holds: data, or a list of the def's own that may change, by its number -/
inductive Vl where
  | fz (d : D) | rf (k : Nat) | nl (ks : List Nat)
/-- an exception that is held, of the class at C, its dict at dd -/
def exk (a C dd : Addr) : HO := .ext fun h => ∃ (oe : Obj) (vs : Array Value), h.get? a = some oe ∧ oe.cls = .ref C ∧ oe.dict = some dd ∧ oe.data = .fields vs
section
variable (K : PySem.W.Frag) (mg : Str → Option Value)
mutual
def Rp (B : Hp) : D → V → Prop
  | .non, v => v = .non
  | .bl b, v => v = .bl b
  | .int i, v => v = .int i
  | .str s, v => v = .str s
  | .lst ds, v => ∃ a xs, v = .ref a ∧ B a = some (.lst xs) ∧ Rps B ds xs
  | .tup ds, v => ∃ a xs, v = .ref a ∧ B a = some (.tup xs) ∧ Rps B ds xs
  | .ins c ns ds, v => ∃ a C dx xs, v = .ref a ∧ mg c = some (.ref C) ∧ B a = some (.ins C dx (ns.zip xs)) ∧ ns.length = xs.length ∧ Rps B ds xs
  | .scr ns, v => ∃ a, v = .ref a ∧ SqL K B a (ns.map V.int)
  | .exc c d, v => ∃ (a C dd : Addr) (w : V), v = .ref a ∧ mg c = some (.ref C) ∧ B a = some (exk a C dd) ∧ B dd = some (.xd [(("value" : Str), w)]) ∧ Rp B d w
def Rps (B : Hp) : List D → List V → Prop
  | [], vs => vs = []
  | d :: ds, vs => ∃ v r, vs = v :: r ∧ Rp B d v ∧ Rps B ds r
end
end
/-- the slots and the lists that may change (none: dead) -/
structure Dl where
  sl : List (Option Vl)
  st : List (Option (List D))
theorem sqL_mono {K : PySem.W.Frag} {B B' : Hp} {a : Addr} {xs : List V} (e : Same B B') (h : SqL K B a xs) : SqL K B' a xs := e.seq h
def Pre (ad ad' : List Addr) : Prop := ∃ m, ad' = ad ++ m
theorem Pre.refl (ad : List Addr) : Pre ad ad := ⟨[], by simp⟩
theorem Pre.trans {a b c : List Addr} (h : Pre a b) (g : Pre b c) : Pre a c := by
  obtain ⟨m, rfl⟩ := h
  obtain ⟨n, rfl⟩ := g
  exact ⟨m ++ n, by simp⟩
theorem Pre.get {a b : List Addr} (h : Pre a b) {k : Nat} {p : Addr} (e : a[k]? = some p) : b[k]? = some p := by
  obtain ⟨m, rfl⟩ := h
  obtain ⟨hk, _⟩ := List.getElem?_eq_some_iff.mp e
  rw [List.getElem?_append_left hk]
  exact e
theorem Pre.app (a m : List Addr) : Pre a (a ++ m) := ⟨m, rfl⟩
section
variable {K : PySem.W.Frag} {mg : Str → Option Value} {B B' : Hp}
mutual
theorem Rp.mono (e : Same B B') : ∀ (d : D) (v : V), Rp K mg B d v → Rp K mg B' d v
  | .non, v, h => h
  | .bl _, v, h => h
  | .int _, v, h => h
  | .str _, v, h => h
  | .lst ds, v, h => by
    obtain ⟨a, xs, h1, h2, h3⟩ := h
    exact ⟨a, xs, h1, e _ _ h2, Rps.mono e ds xs h3⟩
  | .tup ds, v, h => by
    obtain ⟨a, xs, h1, h2, h3⟩ := h
    exact ⟨a, xs, h1, e _ _ h2, Rps.mono e ds xs h3⟩
  | .ins c ns ds, v, h => by
    obtain ⟨a, C, dx, xs, h1, h2, h3, h4, h5⟩ := h
    exact ⟨a, C, dx, xs, h1, h2, e _ _ h3, h4, Rps.mono e ds xs h5⟩
  | .scr ns, v, h => by
    obtain ⟨a, h1, h2⟩ := h
    exact ⟨a, h1, sqL_mono e h2⟩
  | .exc c d, v, h => by
    obtain ⟨a, C, dd, w, h1, h2, h3, h4, h5⟩ := h
    exact ⟨a, C, dd, w, h1, h2, e _ _ h3, e _ _ h4, Rp.mono e d w h5⟩
theorem Rps.mono (e : Same B B') : ∀ (ds : List D) (vs : List V), Rps K mg B ds vs → Rps K mg B' ds vs
  | [], vs, h => h
  | d :: ds, vs, h => by
    obtain ⟨v, r, h1, h2, h3⟩ := h
    exact ⟨v, r, h1, Rp.mono e d v h2, Rps.mono e ds r h3⟩
end
theorem Rps.length : ∀ {ds : List D} {vs : List V}, Rps K mg B ds vs → vs.length = ds.length
  | [], vs, h => by
    have h' : vs = [] := h
    rw [h']; rfl
  | d :: ds, vs, h => by
    obtain ⟨v, r, h1, _, h3⟩ := h
    rw [h1, List.length_cons, List.length_cons, Rps.length h3]
theorem Rps.get : ∀ {ds : List D} {vs : List V} {i : Nat} {d : D}, Rps K mg B ds vs → ds[i]? = some d → ∃ v, vs[i]? = some v ∧ Rp K mg B d v
  | [], vs, i, d, h, e => by simp at e
  | x :: ds, vs, 0, d, h, e => by
    obtain ⟨v, r, h1, h2, h3⟩ := h
    simp at e
    subst e
    exact ⟨v, by rw [h1]; rfl, h2⟩
  | x :: ds, vs, i + 1, d, h, e => by
    obtain ⟨v, r, h1, h2, h3⟩ := h
    obtain ⟨w, h4, h5⟩ := Rps.get h3 (by simpa using e)
    exact ⟨w, by rw [h1]; simpa using h4, h5⟩
theorem Rps.back : ∀ {ds : List D} {vs : List V} {i : Nat} {v : V}, Rps K mg B ds vs → vs[i]? = some v → ∃ d, ds[i]? = some d ∧ Rp K mg B d v := fun {ds vs i v} h e => by
  have hl := Rps.length h
  obtain ⟨hi, _⟩ := List.getElem?_eq_some_iff.mp e
  have hi' : i < ds.length := by omega
  obtain ⟨w, h1, h2⟩ := Rps.get h (List.getElem?_eq_getElem hi')
  rw [e] at h1
  cases h1
  exact ⟨_, List.getElem?_eq_getElem hi', h2⟩
theorem Rps.app : ∀ {ds es : List D} {vs ws : List V}, Rps K mg B ds vs → Rps K mg B es ws → Rps K mg B (ds ++ es) (vs ++ ws)
  | [], es, vs, ws, h, g => by
    have h' : vs = [] := h
    rw [h']; exact g
  | d :: ds, es, vs, ws, h, g => by
    obtain ⟨v, r, h1, h2, h3⟩ := h
    exact ⟨v, r ++ ws, by rw [h1]; rfl, h2, Rps.app h3 g⟩
theorem Rps.one {d : D} {v : V} (h : Rp K mg B d v) : Rps K mg B [d] [v] := ⟨v, [], rfl, h, rfl⟩
theorem Rps.of_get : ∀ {ds : List D} {vs : List V}, vs.length = ds.length → (∀ (i : Nat) (d : D) (v : V), ds[i]? = some d → vs[i]? = some v → Rp K mg B d v) → Rps K mg B ds vs
  | [], vs, hl, h => by
    show vs = []
    exact List.length_eq_zero_iff.mp (by simpa using hl)
  | d :: ds, [], hl, h => by simp at hl
  | d :: ds, v :: vs, hl, h => ⟨v, vs, rfl, h 0 d v rfl rfl, Rps.of_get (by simpa using hl) fun i e w h1 h2 => h (i + 1) e w (by simpa using h1) (by simpa using h2)⟩
theorem Rps.set {ds : List D} {vs : List V} {i : Nat} {d : D} {v : V} (h : Rps K mg B ds vs) (hd : Rp K mg B d v) : Rps K mg B (ds.set i d) (vs.set i v) := by
  have hl := Rps.length h
  refine Rps.of_get (by simp [hl]) fun j e w h1 h2 => ?_
  by_cases hj : i = j
  · subst hj
    obtain ⟨q, _⟩ := List.getElem?_eq_some_iff.mp h1
    have q' : i < ds.length := by simpa using q
    rw [List.getElem?_set_self q'] at h1
    rw [List.getElem?_set_self (by omega)] at h2
    cases h1; cases h2
    exact hd
  · rw [List.getElem?_set_ne hj] at h1 h2
    obtain ⟨w', g1, g2⟩ := Rps.get h h1
    rw [h2] at g1
    cases g1
    exact g2
theorem Rps.take {ds : List D} {vs : List V} (n : Nat) (h : Rps K mg B ds vs) : Rps K mg B (ds.take n) (vs.take n) := by
  have hl := Rps.length h
  refine Rps.of_get (by simp [hl]) fun j e w h1 h2 => ?_
  rw [List.getElem?_take] at h1 h2
  split at h1
  · rename_i hj
    rw [if_pos hj] at h2
    obtain ⟨w', g1, g2⟩ := Rps.get h h1
    rw [h2] at g1
    cases g1
    exact g2
  · cases h1
theorem Rps.drop {ds : List D} {vs : List V} (n : Nat) (h : Rps K mg B ds vs) : Rps K mg B (ds.drop n) (vs.drop n) := by
  have hl := Rps.length h
  refine Rps.of_get (by simp [hl]) fun j e w h1 h2 => ?_
  rw [List.getElem?_drop] at h1 h2
  obtain ⟨w', g1, g2⟩ := Rps.get h h1
  rw [h2] at g1
  cases g1
  exact g2
end
def RpV (K : PySem.W.Frag) (mg : Str → Option Value) (B : Hp) (ad : List Addr) : Vl → V → Prop
  | .fz d, v => Rp K mg B d v
  | .rf k, v => ∃ a, v = .ref a ∧ ad[k]? = some a
  | .nl ks, v => ∃ (a : Addr) (as : List Addr), v = .ref a ∧ B a = some (.lst (as.map V.ref)) ∧ as.map some = ks.map fun k => ad[k]?
theorem RpV.mono {K : PySem.W.Frag} {mg : Str → Option Value} {B B' : Hp} {ad ad' : List Addr} (e : Same B B') (p : Pre ad ad') {d : Vl} {v : V} (h : RpV K mg B ad d v) : RpV K mg B' ad' d v := by
  cases d with
  | fz d => exact Rp.mono e d v h
  | rf k =>
    obtain ⟨a, h1, h2⟩ := h
    exact ⟨a, h1, p.get h2⟩
  | nl ks =>
    obtain ⟨a, as, h1, h2, h3⟩ := h
    refine ⟨a, as, h1, e _ _ h2, h3.trans (List.map_congr_left fun k hk => ?_)⟩
    have : ad[k]? ∈ as.map some := by
      rw [h3]
      exact List.mem_map_of_mem hk
    obtain ⟨b, _, hb⟩ := List.mem_map.mp this
    rw [← hb]
    exact (p.get hb.symm).symm
structure SRep (K : PySem.W.Frag) (mg : Str → Option Value) (B F : Hp) (ad : List Addr) (σ : L2.St) (δ : Dl) (H : Hp) : Prop where
  exB : Same B H
  exF : Same F H
  dis : ∀ a o, F a = some o → B a = none
  nd : ad.Nodup
  len : ad.length = δ.st.length
  slen : σ.length = δ.sl.length
  cell : ∀ (k : Nat) (ds : List D), δ.st[k]? = some (some ds) → ∃ (p : Addr) (xs : List V), ad[k]? = some p ∧ H p = some (.lst xs) ∧ Rps K mg B ds xs ∧ B p = none ∧ F p = none
  dead : ∀ (k : Nat) (p : Addr), ad[k]? = some p → δ.st[k]? = some none → B p ≠ none
  slot : ∀ (i : Nat) (d : Vl), δ.sl[i]? = some (some d) → ∃ v, σ[i]? = some (some v) ∧ RpV K mg B ad d v
section
variable {K : PySem.W.Frag} {mg : Str → Option Value} {B B' F : Hp} {ad ad' : List Addr} {σ : L2.St} {δ : Dl} {H : Hp} {p : Addr} {o : HO}
theorem SRep.known (S : SRep K mg B F ad σ δ H) {p : Addr} (hp : p ∈ ad) : H p ≠ none := by
  obtain ⟨k, hk⟩ := List.getElem?_of_mem hp
  obtain ⟨hl, _⟩ := List.getElem?_eq_some_iff.mp hk
  have hl' : k < δ.st.length := by rw [← S.len]; exact hl
  cases e : δ.st[k]? with
  | none => exact absurd (List.getElem?_eq_none_iff.mp e) (by omega)
  | some u =>
    cases u with
    | none =>
      have h1 := S.dead k p hk e
      intro z
      cases q : B p with
      | none => exact h1 q
      | some o =>
        have := S.exB p o q
        rw [z] at this
        cases this
    | some ds =>
      obtain ⟨q, xs, h1, h2, _⟩ := S.cell k ds e
      rw [hk] at h1
      cases h1
      rw [h2]
      simp
theorem same_new (h : H p = none) : Same H (upd H p o) := fun a u e => by
  rw [upd_ne (ne_of_none e h)]
  exact e
/-- a new object, known from now on -/
theorem SRep.alloc (S : SRep K mg B F ad σ δ H) (h : H p = none) : SRep K mg (upd B p o) F ad σ δ (upd H p o) where
  exB := fun a u e => by
    by_cases ha : a = p
    · subst ha
      rw [upd_same] at e ⊢
      exact e
    · rw [upd_ne ha] at e ⊢
      exact S.exB a u e
  exF := fun a u e => by rw [upd_ne (ne_of_none (S.exF a u e) h)]; exact S.exF a u e
  dis := fun a u e => by rw [upd_ne (ne_of_none (S.exF a u e) h)]; exact S.dis a u e
  nd := S.nd
  len := S.len
  slen := S.slen
  cell := fun k ds e => by
    obtain ⟨q, xs, h1, h2, h3, h4, h5⟩ := S.cell k ds e
    have hq : q ≠ p := ne_of_none h2 h
    exact ⟨q, xs, h1, by rw [upd_ne hq]; exact h2, Rps.mono (same_new (S.exB.free h)) ds xs h3, by rw [upd_ne hq]; exact h4, h5⟩
  dead := fun k q h1 h2 => by
    have h3 := S.dead k q h1 h2
    by_cases hq : q = p
    · rw [hq, upd_same]; simp
    · rw [upd_ne hq]; exact h3
  slot := fun i d e => by
    obtain ⟨v, h1, h2⟩ := S.slot i d e
    exact ⟨v, h1, RpV.mono (same_new (S.exB.free h)) (Pre.refl _) h2⟩
/-- a new list that may change -/
theorem SRep.cellNew {xs : List V} {ds : List D} (S : SRep K mg B F ad σ δ H) (h : H p = none) (r : Rps K mg B ds xs) : SRep K mg B F (ad ++ [p]) σ { δ with st := δ.st ++ [some ds] } (upd H p (.lst xs)) where
  exB := fun a u e => by rw [upd_ne (ne_of_none (S.exB a u e) h)]; exact S.exB a u e
  exF := fun a u e => by rw [upd_ne (ne_of_none (S.exF a u e) h)]; exact S.exF a u e
  dis := S.dis
  nd := by
    rw [List.nodup_append]
    refine ⟨S.nd, by simp, fun a ha b hb => ?_⟩
    have hb' : b = p := by simpa using hb
    subst hb'
    exact fun z => S.known ha (by rw [z]; exact h)
  len := by simp [S.len]
  slen := S.slen
  cell := fun k es e => by
    have e' : (δ.st ++ [some ds])[k]? = some (some es) := e
    by_cases hk : k < δ.st.length
    · rw [List.getElem?_append_left hk] at e'
      obtain ⟨q, ys, h1, h2, h3, h4, h5⟩ := S.cell k es e'
      have hq : q ≠ p := ne_of_none h2 h
      exact ⟨q, ys, (Pre.app ad [p]).get h1, by rw [upd_ne hq]; exact h2, h3, h4, h5⟩
    · have hk2 : k = δ.st.length := by
        obtain ⟨q, _⟩ := List.getElem?_eq_some_iff.mp e'
        simp at q
        omega
      subst hk2
      rw [List.getElem?_append_right (Nat.le_refl _)] at e'
      simp at e'
      subst e'
      refine ⟨p, xs, ?_, upd_same, r, S.exB.free h, S.exF.free h⟩
      rw [← S.len, List.getElem?_append_right (Nat.le_refl _)]
      simp
  dead := fun k q h1 h2 => by
    have h2' : (δ.st ++ [some ds])[k]? = some none := h2
    have hk : k < δ.st.length := by
      rcases Nat.lt_or_ge k δ.st.length with z | z
      · exact z
      · rw [List.getElem?_append_right z] at h2'
        cases q : k - δ.st.length with
        | zero => rw [q] at h2'; simp at h2'
        | succ n => rw [q] at h2'; simp at h2'
    rw [List.getElem?_append_left hk] at h2'
    rw [List.getElem?_append_left (by rw [S.len]; exact hk)] at h1
    exact S.dead k q h1 h2'
  slot := fun i d e => by
    obtain ⟨v, h1, h2⟩ := S.slot i d e
    exact ⟨v, h1, RpV.mono (Same.refl _) (Pre.app _ _) h2⟩
/-- a slot is set -/
theorem SRep.setS {i : Nat} {d : Vl} {v : V} (S : SRep K mg B F ad σ δ H) (r : RpV K mg B ad d v) : SRep K mg B F ad (σ.set i (some v)) { δ with sl := δ.sl.set i (some d) } H where
  exB := S.exB
  exF := S.exF
  dis := S.dis
  nd := S.nd
  len := S.len
  slen := by simp [S.slen]
  cell := S.cell
  dead := S.dead
  slot := fun j e he => by
    have he' : (δ.sl.set i (some d))[j]? = some (some e) := he
    by_cases hj : i = j
    · subst hj
      obtain ⟨q, _⟩ := List.getElem?_eq_some_iff.mp he'
      have q' : i < δ.sl.length := by simpa using q
      rw [List.getElem?_set_self q'] at he'
      cases he'
      exact ⟨v, by rw [List.getElem?_set_self (by rw [S.slen]; exact q')], r⟩
    · rw [List.getElem?_set_ne hj] at he' ⊢
      exact S.slot j e he'
/-- a slot is forgotten (whatever stands there) -/
theorem SRep.dropS {i : Nat} {x : Option V} (S : SRep K mg B F ad σ δ H) : SRep K mg B F ad (σ.set i x) { δ with sl := δ.sl.set i none } H where
  exB := S.exB
  exF := S.exF
  dis := S.dis
  nd := S.nd
  len := S.len
  slen := by simp [S.slen]
  cell := S.cell
  dead := S.dead
  slot := fun j e he => by
    have he' : (δ.sl.set i none)[j]? = some (some e) := he
    by_cases hj : i = j
    · subst hj
      obtain ⟨q, _⟩ := List.getElem?_eq_some_iff.mp he'
      have q' : i < δ.sl.length := by simpa using q
      rw [List.getElem?_set_self q'] at he'
      cases he'
    · rw [List.getElem?_set_ne hj] at he' ⊢
      exact S.slot j e he'
/-- a list of our own changes -/
theorem SRep.cellSet {k : Nat} {ds es : List D} {xs ys : List V} (S : SRep K mg B F ad σ δ H) (hk : δ.st[k]? = some (some ds)) (hp : ad[k]? = some p) (hx : H p = some (.lst xs)) (r : Rps K mg B es ys) :
    SRep K mg B F ad σ { δ with st := δ.st.set k (some es) } (upd H p (.lst ys)) := by
  obtain ⟨q, zs, g1, g2, g3, g4, g5⟩ := S.cell k ds hk
  rw [hp] at g1
  cases g1
  have hkl : k < δ.st.length := (List.getElem?_eq_some_iff.mp hk).1
  refine ⟨fun a u e => ?_, fun a u e => ?_, S.dis, S.nd, by simp [S.len], S.slen, fun j fs e => ?_, fun j a h1 h2 => ?_, S.slot⟩
  · rw [upd_ne (ne_of_none e g4)]; exact S.exB a u e
  · rw [upd_ne (ne_of_none e g5)]; exact S.exF a u e
  · have e' : (δ.st.set k (some es))[j]? = some (some fs) := e
    by_cases hj : k = j
    · subst hj
      rw [List.getElem?_set_self hkl] at e'
      cases e'
      exact ⟨p, ys, hp, upd_same, r, g4, g5⟩
    · rw [List.getElem?_set_ne hj] at e'
      obtain ⟨b, ws, h1, h2, h3, h4, h5⟩ := S.cell j fs e'
      have hb : b ≠ p := fun z => by
        subst z
        obtain ⟨hk1, e1⟩ := List.getElem?_eq_some_iff.mp hp
        obtain ⟨hj1, e2⟩ := List.getElem?_eq_some_iff.mp h1
        exact hj ((List.getElem_inj S.nd).mp (e1.trans e2.symm))
      exact ⟨b, ws, h1, by rw [upd_ne hb]; exact h2, h3, h4, h5⟩
  · have h2' : (δ.st.set k (some es))[j]? = some none := h2
    by_cases hj : k = j
    · subst hj
      rw [List.getElem?_set_self hkl] at h2'
      cases h2'
    · rw [List.getElem?_set_ne hj] at h2'
      exact S.dead j a h1 h2'
/-- a list of our own is frozen -/
theorem SRep.freeze {k : Nat} {ds : List D} {xs : List V} (S : SRep K mg B F ad σ δ H) (hk : δ.st[k]? = some (some ds)) (hp : ad[k]? = some p) (hx : H p = some (.lst xs)) :
    SRep K mg (upd B p (.lst xs)) F ad σ { δ with st := δ.st.set k none } H ∧ Same B (upd B p (.lst xs)) := by
  obtain ⟨q, zs, g1, g2, g3, g4, g5⟩ := S.cell k ds hk
  rw [hp] at g1
  cases g1
  have hkl : k < δ.st.length := (List.getElem?_eq_some_iff.mp hk).1
  have sB : Same B (upd B p (.lst xs)) := same_new g4
  refine ⟨⟨fun a u e => ?_, S.exF, fun a u e => ?_, S.nd, by simp [S.len], S.slen, fun j fs e => ?_, fun j a h1 h2 => ?_, fun i d e => ?_⟩, sB⟩
  · by_cases ha : a = p
    · subst ha
      rw [upd_same] at e
      cases e
      exact hx
    · rw [upd_ne ha] at e
      exact S.exB a u e
  · rw [upd_ne (ne_of_none e g5)]; exact S.dis a u e
  · have e' : (δ.st.set k none)[j]? = some (some fs) := e
    by_cases hj : k = j
    · subst hj
      rw [List.getElem?_set_self hkl] at e'
      cases e'
    · rw [List.getElem?_set_ne hj] at e'
      obtain ⟨b, ws, h1, h2, h3, h4, h5⟩ := S.cell j fs e'
      have hb : b ≠ p := fun z => by
        subst z
        obtain ⟨hk1, e1⟩ := List.getElem?_eq_some_iff.mp hp
        obtain ⟨hj1, e2⟩ := List.getElem?_eq_some_iff.mp h1
        exact hj ((List.getElem_inj S.nd).mp (e1.trans e2.symm))
      exact ⟨b, ws, h1, h2, Rps.mono sB fs ws h3, by rw [upd_ne hb]; exact h4, h5⟩
  · have h2' : (δ.st.set k none)[j]? = some none := h2
    by_cases hap : a = p
    · rw [hap, upd_same]; simp
    · rw [upd_ne hap]
      by_cases hj : k = j
      · subst hj
        rw [hp] at h1
        cases h1
        exact absurd rfl hap
      · rw [List.getElem?_set_ne hj] at h2'
        exact S.dead j a h1 h2'
  · obtain ⟨v, h1, h2⟩ := S.slot i d e
    exact ⟨v, h1, RpV.mono sB (Pre.refl _) h2⟩
end
end PK
namespace PK
open PySem L2
theorem PE.weak {X : Cx} {e : Expr} {t t' : TE} (h : PE X e t) (w : ∀ σ H Q, t' σ H Q → t σ H Q) : PE X e t' := ⟨fun pins s σ H Q I q => h.run pins s σ H Q I (w σ H Q q)⟩
theorem PT.weak {X : Cx} {e : Expr} {t t' : TT} (h : PT X e t) (w : ∀ σ H Q, t' σ H Q → t σ H Q) : PT X e t' := ⟨fun pins s σ H Q I q => h.run pins s σ H Q I (w σ H Q q)⟩
theorem PA.weak {X : Cx} {e : List Expr} {t t' : TA} (h : PA X e t) (w : ∀ σ H Q, t' σ H Q → t σ H Q) : PA X e t' := ⟨fun pos pins s σ H Q I q => h.run pos pins s σ H Q I (w σ H Q q)⟩
theorem PS.weak {X : Cx} {e : Stmt} {t t' : TS} (h : PS X e t) (w : ∀ D σ H, t' D σ H → t D σ H) : PS X e t' := ⟨fun pins s σ H D I q => h.run pins s σ H D I (w D σ H q)⟩
theorem PSs.weak {X : Cx} {e : List Stmt} {t t' : TS} (h : PSs X e t) (w : ∀ D σ H, t' D σ H → t D σ H) : PSs X e t' := ⟨fun pins s σ H D I q => h.run pins s σ H D I (w D σ H q)⟩
abbrev EF := Dl → Option (Vl × Dl)
abbrev AF := Dl → Option (List Vl × Dl)
abbrev BF := Dl → Option (Bool × Dl)
section
variable (K : PySem.W.Frag) (mg : Str → Option Value)
def RpVs (B : Hp) (ad : List Addr) : List Vl → List V → Prop
  | [], vs => vs = []
  | d :: ds, vs => ∃ v r, vs = v :: r ∧ RpV K mg B ad d v ∧ RpVs B ad ds r
def tD (f : EF) : TE := fun σ H Q => ∃ B F ad δ r δ', SRep K mg B F ad σ δ H ∧ f δ = some (r, δ') ∧
  ∀ B' ad' v H', Same B B' → Pre ad ad' → SRep K mg B' F ad' σ δ' H' → RpV K mg B' ad' r v → Q v H'
def tDA (f : AF) : TA := fun σ H Q => ∃ B F ad δ r δ', SRep K mg B F ad σ δ H ∧ f δ = some (r, δ') ∧
  ∀ B' ad' v H', Same B B' → Pre ad ad' → SRep K mg B' F ad' σ δ' H' → RpVs K mg B' ad' r v → Q v H'
def tDT (f : BF) : TT := fun σ H Q => ∃ B F ad δ r δ', SRep K mg B F ad σ δ H ∧ f δ = some (r, δ') ∧
  ∀ B' ad' H', Same B B' → Pre ad ad' → SRep K mg B' F ad' σ δ' H' → Q r H'
end
abbrev PD (X : Cx) (e : Expr) (f : EF) := PE X e (tD X.K X.mg f)
abbrev PDA (X : Cx) (es : List Expr) (f : AF) := PA X es (tDA X.K X.mg f)
abbrev PDT (X : Cx) (e : Expr) (f : BF) := PT X e (tDT X.K X.mg f)
theorem RpVs.mono {K : PySem.W.Frag} {mg : Str → Option Value} {B B' : Hp} {ad ad' : List Addr} (e : Same B B') (p : Pre ad ad') : ∀ {ds : List Vl} {vs : List V}, RpVs K mg B ad ds vs → RpVs K mg B' ad' ds vs
  | [], vs, h => h
  | d :: ds, vs, h => by
    obtain ⟨v, r, h1, h2, h3⟩ := h
    exact ⟨v, r, h1, h2.mono e p, RpVs.mono e p h3⟩
/-- what a list or a number is, read at this moment -/
def der (δ : Dl) : Vl → Option D
  | .fz d => some d
  | .rf k => match δ.st[k]? with
    | some (some ds) => some (.lst ds)
    | _ => none
  | .nl _ => none
def Vw (K : PySem.W.Frag) (mg : Str → Option Value) (B H : Hp) : D → V → Prop
  | .lst ds, v => ∃ a xs, v = .ref a ∧ H a = some (.lst xs) ∧ Rps K mg B ds xs
  | d, v => Rp K mg B d v
section
variable {K : PySem.W.Frag} {mg : Str → Option Value} {B B' F : Hp} {ad ad' : List Addr} {σ : L2.St} {δ δ' : Dl} {H H' : Hp} {p : Addr} {o : HO}
theorem Rp.vw {d : D} {v : V} (e : Same B H) (h : Rp K mg B d v) : Vw K mg B H d v := by
  cases d with
  | lst ds =>
    obtain ⟨a, xs, h1, h2, h3⟩ := h
    exact ⟨a, xs, h1, e _ _ h2, h3⟩
  | tup ds => exact h
  | non => exact h
  | bl _ => exact h
  | int _ => exact h
  | str _ => exact h
  | ins _ _ _ => exact h
  | scr _ => exact h
  | exc _ _ => exact h
theorem SRep.vw {r : Vl} {d : D} {v : V} (S : SRep K mg B F ad σ δ H) (h : RpV K mg B ad r v) (e : der δ r = some d) : Vw K mg B H d v := by
  cases r with
  | fz d' =>
    have e' : d' = d := Option.some.inj e
    subst e'
    exact Rp.vw S.exB h
  | rf k =>
    obtain ⟨a, h1, h2⟩ := h
    unfold der at e
    dsimp only at e
    split at e
    · rename_i ds hk
      cases e
      obtain ⟨q, xs, g1, g2, g3, _, _⟩ := S.cell k ds hk
      rw [h2] at g1
      cases g1
      exact ⟨a, xs, h1, g2, g3⟩
    · cases e
  | nl ks => cases e
/-! ### names, constants -/
def dC (d : D) : EF := fun δ => some (.fz d, δ)
def dVar (i : Nat) : EF := fun δ => match δ.sl[i]? with
  | some (some r) => some (r, δ)
  | _ => none
end
section
variable {X : Cx} {e a b c : Expr} {f fa fb fc : EF} {pos : Pos}
theorem pd_int {i : Int} {j} : PD X (.Constant (.int i) j pos) (dC (.int i)) := PE.weak pe_int fun σ H Q h => by
  obtain ⟨B, F, ad, δ, r, δ', S, e, k⟩ := h
  cases e
  exact k B ad _ H (Same.refl _) (Pre.refl _) S rfl
theorem pd_bl {i : Bool} {j} : PD X (.Constant (.bool i) j pos) (dC (.bl i)) := PE.weak pe_bl fun σ H Q h => by
  obtain ⟨B, F, ad, δ, r, δ', S, e, k⟩ := h
  cases e
  exact k B ad _ H (Same.refl _) (Pre.refl _) S rfl
theorem pd_str {i : Str} {j} : PD X (.Constant (.str i) j pos) (dC (.str i)) := PE.weak pe_str fun σ H Q h => by
  obtain ⟨B, F, ad, δ, r, δ', S, e, k⟩ := h
  cases e
  exact k B ad _ H (Same.refl _) (Pre.refl _) S rfl
theorem pd_non {j} : PD X (.Constant .none j pos) (dC .non) := PE.weak pe_non fun σ H Q h => by
  obtain ⟨B, F, ad, δ, r, δ', S, e, k⟩ := h
  cases e
  exact k B ad _ H (Same.refl _) (Pre.refl _) S rfl
theorem pd_var (i : Nat) {x : Str} (hN : X.N[i]? = some x := by rfl) (hv : Vis X.env.scope x := by first | exact Or.inl rfl | exact Or.inr (Or.inl rfl) | exact Or.inr (Or.inr rfl)) (hd : (x == ("__debug__" : Str)) = false := by decide)
    (hcd : (x == ("__classdict__" : Str)) = false := by decide) : PD X (.Name x pos) (dVar i) := PE.weak (pe_var hN hv hd hcd) fun σ H Q h => by
  obtain ⟨B, F, ad, δ, r, δ', S, e, k⟩ := h
  unfold dVar at e
  split at e
  · rename_i r' hr
    cases e
    obtain ⟨v, h1, h2⟩ := S.slot i _ hr
    exact ⟨v, h1, k B ad v H (Same.refl _) (Pre.refl _) S h2⟩
  · cases e
/-! ### two-place operations -/
abbrev OF := Dl → D → D → Option (Vl × Dl)
def rD (K : PySem.W.Frag) (mg : Str → Option Value) (g : OF) : R2 := fun x y H Q => ∃ B F ad σ δ dx dy r δ', SRep K mg B F ad σ δ H ∧ Vw K mg B H dx x ∧ Vw K mg B H dy y ∧ g δ dx dy = some (r, δ') ∧
  ∀ B' ad' v H', Same B B' → Pre ad ad' → SRep K mg B' F ad' σ δ' H' → RpV K mg B' ad' r v → Q v H'
def dOp (g : OF) (fa fb : EF) : EF := fun δ => (fa δ).bind fun p => (fb p.2).bind fun q => (der q.2 p.1).bind fun a => (der q.2 q.1).bind fun b => g q.2 a b
theorem dOp_w {K : PySem.W.Frag} {mg : Str → Option Value} {g : OF} {σ : L2.St} {H : Hp} {Q : VK} (h : tD K mg (dOp g fa fb) σ H Q) : tOp (rD K mg g) (tD K mg fa) (tD K mg fb) σ H Q := by
  obtain ⟨B, F, ad, δ, r, δ', S, e, k⟩ := h
  unfold dOp at e
  obtain ⟨⟨x, δ1⟩, e1, e⟩ := Option.bind_eq_some_iff.mp e
  obtain ⟨⟨y, δ2⟩, e2, e⟩ := Option.bind_eq_some_iff.mp e
  obtain ⟨da, e3, e⟩ := Option.bind_eq_some_iff.mp e
  obtain ⟨db, e4, e⟩ := Option.bind_eq_some_iff.mp e
  refine ⟨B, F, ad, δ, x, δ1, S, e1, fun B1 ad1 vx H1 s1 p1 S1 r1 => ?_⟩
  refine ⟨B1, F, ad1, δ1, y, δ2, S1, e2, fun B2 ad2 vy H2 s2 p2 S2 r2 => ?_⟩
  exact ⟨B2, F, ad2, σ, δ2, da, db, r, δ', S2, S2.vw (r1.mono s2 p2) e3, S2.vw r2 e4, e, fun B' ad' v H' s3 p3 S' r' => k B' ad' v H' ((s1.trans s2).trans s3) ((p1.trans p2).trans p3) S' r'⟩
theorem pd_op {op : Operator} {g : OF} (ho : OpR X (binaryOp op) (rD X.K X.mg g)) (ha : PD X a fa) (hb : PD X b fb) : PD X (.BinOp a op b pos) (dOp g fa fb) :=
  PE.weak (pe_op ho ha hb) fun σ H Q h => dOp_w h
theorem pd_cmp {op : CmpOp} {g : OF} (ho : OpR X (compareOp op) (rD X.K X.mg g)) (ha : PD X a fa) (hb : PD X b fb) (hm : behindInMarks op b = false := by rfl) : PD X (.Compare a [op] [b] pos) (dOp g fa fb) :=
  PE.weak (pe_cmpR ho ha hb hm) fun σ H Q h => dOp_w h
end
end PK
namespace PK
open PySem L2
/-- a new list: one that may change, or one that stays -/
def mk (m : Bool) (ds : List D) (δ : Dl) : Vl × Dl := if m then (.rf δ.st.length, { δ with st := δ.st ++ [some ds] }) else (.fz (.lst ds), δ)
section
variable {K : PySem.W.Frag} {mg : Str → Option Value} {B B' F : Hp} {ad ad' : List Addr} {σ : L2.St} {δ δ' : Dl} {H H' : Hp} {p : Addr} {o : HO}
theorem mk_ok {m : Bool} {ds : List D} {xs : List V} {Q : VK} (S : SRep K mg B F ad σ δ H) (hp : H p = none) (r : Rps K mg B ds xs)
    (k : ∀ B' ad' v H', Same B B' → Pre ad ad' → SRep K mg B' F ad' σ (mk m ds δ).2 H' → RpV K mg B' ad' (mk m ds δ).1 v → Q v H') : Q (.ref p) (upd H p (.lst xs)) := by
  cases m with
  | true =>
    refine k B (ad ++ [p]) (.ref p) _ (Same.refl _) (Pre.app _ _) (S.cellNew hp r) ⟨p, rfl, ?_⟩
    rw [← S.len, List.getElem?_append_right (Nat.le_refl _)]
    simp
  | false =>
    have s1 : Same B (upd B p (.lst xs)) := same_new (S.exB.free hp)
    exact k _ ad (.ref p) _ s1 (Pre.refl _) (S.alloc hp) ⟨p, xs, rfl, upd_same, Rps.mono s1 ds xs r⟩
theorem tup_ok {ds : List D} {xs : List V} {Q : VK} (S : SRep K mg B F ad σ δ H) (hp : H p = none) (r : Rps K mg B ds xs)
    (k : ∀ B' ad' v H', Same B B' → Pre ad ad' → SRep K mg B' F ad' σ δ H' → RpV K mg B' ad' (.fz (.tup ds)) v → Q v H') : Q (.ref p) (upd H p (.tup xs)) := by
  have s1 : Same B (upd B p (.tup xs)) := same_new (S.exB.free hp)
  exact k _ ad (.ref p) _ s1 (Pre.refl _) (S.alloc hp) ⟨p, xs, rfl, upd_same, Rps.mono s1 ds xs r⟩
theorem here {d : D} {v : V} {Q : VK} (S : SRep K mg B F ad σ δ H) (r : Rp K mg B d v)
    (k : ∀ B' ad' v H', Same B B' → Pre ad ad' → SRep K mg B' F ad' σ δ H' → RpV K mg B' ad' (.fz d) v → Q v H') : Q v H := k B ad v H (Same.refl _) (Pre.refl _) S r
end
def small : Nat := 100000
theorem small_sz {n : Nat} (h : n ≤ small) : n ≤ sizeLine := Nat.le_trans h (by decide)
def okMul (i j : Int) : Bool := decide (i.natAbs.log2 + j.natAbs.log2 < 1000000)
def okDiv (j : Int) : Bool := decide (0 < j ∧ j.natAbs.log2 < 9000)
def okPow (i : Int) : Bool := decide (i.natAbs.log2 < 1000)
def addD (m : Bool) : OF := fun δ x y => match x, y with
  | .int i, .int j => some (.fz (.int (i + j)), δ)
  | .lst a, .lst b => if a.length + b.length ≤ small then some (mk m (a ++ b) δ) else none
  | .tup a, .tup b => if a.length + b.length ≤ small then some (.fz (.tup (a ++ b)), δ) else none
  | _, _ => none
def subD : OF := fun δ x y => match x, y with
  | .int i, .int j => some (.fz (.int (i - j)), δ)
  | _, _ => none
def mulD (m : Bool) : OF := fun δ x y => match x, y with
  | .int i, .int j => if okMul i j then some (.fz (.int (i * j)), δ) else none
  | .lst a, .int k => if decide (-1000 ≤ k ∧ k ≤ 1000 ∧ a.length ≤ 100) then some (mk m (List.replicate k.toNat a).flatten δ) else none
  | .tup a, .int k => if decide (2 ≤ k ∧ k ≤ 1000 ∧ a ≠ [] ∧ a.length ≤ 100) then some (.fz (.tup (List.replicate k.toNat a).flatten), δ) else none
  | _, _ => none
def divD : OF := fun δ x y => match x, y with
  | .int i, .int j => if okDiv j then some (.fz (.int (i / j)), δ) else none
  | _, _ => none
def modD : OF := fun δ x y => match x, y with
  | .int i, .int j => if 0 < j then some (.fz (.int (i % j)), δ) else none
  | _, _ => none
/-- to the power of 3 alone -/
def powD : OF := fun δ x y => match x, y with
  | .int i, .int j => if okPow i ∧ 0 ≤ j ∧ j ≤ 64 then some (.fz (.int (i ^ j.toNat)), δ) else none
  | _, _ => none
section
variable {X : Cx}
theorem flat_rep {K : PySem.W.Frag} {mg : Str → Option Value} {B : Hp} {ds : List D} {xs : List V} (r : Rps K mg B ds xs) : ∀ n : Nat, Rps K mg B (List.replicate n ds).flatten (List.replicate n xs).flatten
  | 0 => rfl
  | n + 1 => by
    rw [List.replicate_succ, List.replicate_succ, List.flatten_cons, List.flatten_cons]
    exact Rps.app r (flat_rep r n)
theorem ne_nil_of {K : PySem.W.Frag} {mg : Str → Option Value} {B : Hp} {ds : List D} {xs : List V} (r : Rps K mg B ds xs) (h : ds ≠ []) : xs ≠ [] := fun e => h (by
  have := Rps.length r
  rw [e] at this
  exact List.length_eq_zero_iff.mp this.symm)
theorem od_add (m : Bool) : OpR X (binaryOp .Add) (rD X.K X.mg (addD m)) := by
  intro pins s σ H x y v u Q I rx ry h
  obtain ⟨B, F, ad, σ', δ, dx, dy, r, δ', S, vx, vy, e, k⟩ := h
  unfold addD at e
  split at e
  · rename_i i j
    cases e
    have vx' : x = .int i := vx
    have vy' : y = .int j := vy
    exact op_add pins s σ H x y v u Q I rx ry ⟨i, j, vx', vy', here (d := .int (i + j)) S rfl k⟩
  · rename_i a b
    split at e
    · rename_i hl
      obtain ⟨p, xs, rfl, hp, r1⟩ := vx
      obtain ⟨q, ys, rfl, hq, r2⟩ := vy
      have e' := Option.some.inj e
      refine op_cat pins s σ H _ _ v u Q I rx ry ⟨p, q, xs, ys, rfl, rfl, hp, hq, small_sz (by rw [Rps.length r1, Rps.length r2]; exact hl), fun z hz => ?_⟩
      refine mk_ok (m := m) S hz (Rps.app r1 r2) fun B' ad' v' H' s1 p1 S1 r' => ?_
      rw [e'] at S1 r'
      exact k B' ad' v' H' s1 p1 S1 r'
    · cases e
  · rename_i a b
    split at e
    · rename_i hl
      obtain ⟨p, xs, rfl, hp, r1⟩ := vx
      obtain ⟨q, ys, rfl, hq, r2⟩ := vy
      cases e
      refine op_catA pins s σ H _ _ v u Q I rx ry ⟨p, q, xs, ys, rfl, rfl, SqT.of (S.exB _ _ hp), SqT.of (S.exB _ _ hq), small_sz (by rw [Rps.length r1, Rps.length r2]; exact hl), fun z => ?_, fun z1 z2 => ?_, fun _ _ z hz => ?_⟩
      · have ha : a = [] := List.length_eq_zero_iff.mp (by rw [← Rps.length r1, z]; rfl)
        subst ha
        exact here (d := .tup b) S ⟨q, ys, rfl, hq, r2⟩ k
      · have hb : b = [] := List.length_eq_zero_iff.mp (by rw [← Rps.length r2, z2]; rfl)
        subst hb
        rw [List.append_nil] at k
        exact here (d := .tup a) S ⟨p, xs, rfl, hp, r1⟩ k
      · exact tup_ok S hz (Rps.app r1 r2) k
    · cases e
  · cases e
theorem od_sub : OpR X (binaryOp .Sub) (rD X.K X.mg subD) := by
  intro pins s σ H x y v u Q I rx ry h
  obtain ⟨B, F, ad, σ', δ, dx, dy, r, δ', S, vx, vy, e, k⟩ := h
  unfold subD at e
  split at e
  · rename_i i j
    cases e
    exact op_sub pins s σ H x y v u Q I rx ry ⟨i, j, vx, vy, here (d := .int (i - j)) S rfl k⟩
  · cases e
theorem od_mul (m : Bool) : OpR X (binaryOp .Mult) (rD X.K X.mg (mulD m)) := by
  intro pins s σ H x y v u Q I rx ry h
  obtain ⟨B, F, ad, σ', δ, dx, dy, r, δ', S, vx, vy, e, k⟩ := h
  unfold mulD at e
  split at e
  · rename_i i j
    split at e
    · rename_i hm
      cases e
      exact op_mulW pins s σ H x y v u Q I rx ry ⟨i, j, vx, vy, (show CMulW i j from by unfold CMulW; unfold okMul at hm; exact of_decide_eq_true hm), here (d := .int (i * j)) S rfl k⟩
    · cases e
  · rename_i a n
    split at e
    · rename_i hl
      have hl' := of_decide_eq_true hl
      obtain ⟨p, xs, rfl, hp, r1⟩ := vx
      have e' := Option.some.inj e
      have hlen := Rps.length r1
      refine op_rep pins s σ H _ _ v u Q I rx ry ⟨p, n, xs, rfl, vy, hp, by omega, by omega, ?_, fun z hz => ?_⟩
      · have h1 : xs.length * n.toNat ≤ 100 * 1000 := Nat.mul_le_mul (by omega) (by omega)
        exact Nat.le_trans h1 (by decide)
      · refine mk_ok (m := m) S hz (flat_rep r1 _) fun B' ad' v' H' s1 p1 S1 r' => ?_
        rw [e'] at S1 r'
        exact k B' ad' v' H' s1 p1 S1 r'
    · cases e
  · rename_i a n
    split at e
    · rename_i hl
      have hl' := of_decide_eq_true hl
      obtain ⟨p, xs, rfl, hp, r1⟩ := vx
      cases e
      have hlen := Rps.length r1
      refine op_repT pins s σ H _ _ v u Q I rx ry ⟨p, n, xs, rfl, vy, SqT.of (S.exB _ _ hp), ne_nil_of r1 hl'.2.2.1, hl'.1, hl'.2.1, by omega, fun z hz => ?_⟩
      exact tup_ok S hz (flat_rep r1 _) k
    · cases e
  · cases e
theorem od_div : OpR X (binaryOp .FloorDiv) (rD X.K X.mg divD) := by
  intro pins s σ H x y v u Q I rx ry h
  obtain ⟨B, F, ad, σ', δ, dx, dy, r, δ', S, vx, vy, e, k⟩ := h
  unfold divD at e
  split at e
  · rename_i i j
    split at e
    · rename_i hm
      cases e
      have hm' := of_decide_eq_true hm
      exact op_fdivW pins s σ H x y v u Q I rx ry ⟨i, j, vx, vy, hm', here (d := .int (i / j)) S rfl k⟩
    · cases e
  · cases e
theorem od_mod : OpR X (binaryOp .Mod) (rD X.K X.mg modD) := by
  intro pins s σ H x y v u Q I rx ry h
  obtain ⟨B, F, ad, σ', δ, dx, dy, r, δ', S, vx, vy, e, k⟩ := h
  unfold modD at e
  split at e
  · rename_i i j
    split at e
    · rename_i hm
      cases e
      exact op_mod pins s σ H x y v u Q I rx ry ⟨i, j, vx, vy, hm, here (d := .int (i % j)) S rfl k⟩
    · cases e
  · cases e
theorem od_pow : OpR X (binaryOp .Pow) (rD X.K X.mg powD) := by
  intro pins s σ H x y v u Q I rx ry h
  obtain ⟨B, F, ad, σ', δ, dx, dy, r, δ', S, vx, vy, e, k⟩ := h
  unfold powD at e
  split at e
  · rename_i i j
    split at e
    · rename_i hm
      obtain ⟨h1, h2, h3⟩ := hm
      cases e
      have vx' : x = .int i := vx
      have vy' : y = .int j := vy
      subst vx' vy'
      obtain ⟨t1, rfl⟩ := rx
      obtain ⟨t2, rfl⟩ := ry
      refine PyProof.Rows.pow_int h2 ?_ ⟨.int (i ^ j.toNat), H, I.tok _, ⟨_, rfl⟩, here (d := .int (i ^ j.toNat)) S rfl k⟩
      have hb : Builtin.Int.intBits i ≤ 1000 := by
        unfold okPow at h1
        have := of_decide_eq_true h1
        unfold Builtin.Int.intBits
        split <;> omega
      have h4 : ((Builtin.Int.intBits i : Nat) : Int) * j ≤ 1000 * 64 := Int.mul_le_mul (by omega) h3 h2 (by omega)
      omega
    · cases e
  · cases e
/-! ### comparisons -/
def cmpD (c : Int → Int → Bool) : OF := fun δ x y => match x, y with
  | .int i, .int j => some (.fz (.bl (c i j)), δ)
  | _, _ => none
abbrev ltD : OF := cmpD fun i j => decide (i < j)
abbrev gtD : OF := cmpD fun i j => decide (j < i)
theorem od_cmp {op : CmpOp} {c : Int → Int → Bool} (ho : OpR X (compareOp op) (rI0 fun i j => .bl (c i j))) : OpR X (compareOp op) (rD X.K X.mg (cmpD c)) := by
  intro pins s σ H x y v u Q I rx ry h
  obtain ⟨B, F, ad, σ', δ, dx, dy, r, δ', S, vx, vy, e, k⟩ := h
  unfold cmpD at e
  split at e
  · rename_i i j
    cases e
    exact ho pins s σ H x y v u Q I rx ry ⟨i, j, vx, vy, here (d := .bl (c i j)) S rfl k⟩
  · cases e
def isNon : D → Bool
  | .non => true
  | _ => false
def isND : OF := fun δ x y => match y with
  | .non => some (.fz (.bl (isNon x)), δ)
  | _ => none
def notND : OF := fun δ x y => match y with
  | .non => some (.fz (.bl (!isNon x)), δ)
  | _ => none
theorem isNon_of {K : PySem.W.Frag} {mg : Str → Option Value} {B H : Hp} {d : D} {x : V} (h : Vw K mg B H d x) : decide (x = .non) = isNon d := by
  cases d with
  | non =>
    have h' : x = .non := h
    subst h'; rfl
  | bl b =>
    have h' : x = .bl b := h
    subst h'; rfl
  | int b =>
    have h' : x = .int b := h
    subst h'; rfl
  | str b =>
    have h' : x = .str b := h
    subst h'; rfl
  | lst b =>
    obtain ⟨a, xs, rfl, _⟩ := h
    rfl
  | tup b =>
    obtain ⟨a, xs, rfl, _⟩ := h
    rfl
  | ins c n b =>
    obtain ⟨a, C, dx, xs, rfl, _⟩ := h
    rfl
  | scr b =>
    obtain ⟨a, rfl, _⟩ := h
    rfl
  | exc c b =>
    obtain ⟨a, C, dd, w, rfl, _⟩ := h
    rfl
theorem od_isN : OpR X (compareOp .Is) (rD X.K X.mg isND) := by
  intro pins s σ H x y v u Q I rx ry h
  obtain ⟨B, F, ad, σ', δ, dx, dy, r, δ', S, vx, vy, e, k⟩ := h
  unfold isND at e
  split at e
  · cases e
    exact op_isN pins s σ H x y v u Q I rx ry ⟨vy, by rw [isNon_of vx]; exact here (d := .bl (isNon dx)) S rfl k⟩
  · cases e
theorem od_notN : OpR X (compareOp .IsNot) (rD X.K X.mg notND) := by
  intro pins s σ H x y v u Q I rx ry h
  obtain ⟨B, F, ad, σ', δ, dx, dy, r, δ', S, vx, vy, e, k⟩ := h
  unfold notND at e
  split at e
  · cases e
    exact op_notN pins s σ H x y v u Q I rx ry ⟨vy, by rw [isNon_of vx]; exact here (d := .bl (!isNon dx)) S rfl k⟩
  · cases e
/-! ### == and != of data -/
mutual
def toPy : D → Option PyData
  | .non => some .none
  | .bl b => some (.bool b)
  | .int i => some (.int i)
  | .str s => some (.str s)
  | .lst ds => (toPys ds).map .list
  | .tup ds => (toPys ds).map .tuple
  | .ins _ _ _ => none
  | .scr _ => none
  | .exc _ _ => none
def toPys : List D → Option (List PyData)
  | [] => some []
  | d :: ds => match toPy d, toPys ds with
    | some p, some ps => some (p :: ps)
    | _, _ => none
end
mutual
theorem dp_of {K : PySem.W.Frag} {mg : Str → Option Value} {B H : Hp} (e : Same B H) : ∀ (d : D) (v : V) (p : PyData), Rp K mg B d v → toPy d = some p → Dp K H v p
  | .non, v, p, h, q => by
    have h' : v = .non := h
    subst h'
    rw [toPy] at q
    cases q
    exact .non
  | .bl b, v, p, h, q => by
    have h' : v = .bl b := h
    subst h'
    rw [toPy] at q
    cases q
    exact .bl b
  | .int b, v, p, h, q => by
    have h' : v = .int b := h
    subst h'
    rw [toPy] at q
    cases q
    exact .int b
  | .str b, v, p, h, q => by
    have h' : v = .str b := h
    subst h'
    rw [toPy] at q
    cases q
    exact .str b
  | .lst ds, v, p, h, q => by
    obtain ⟨a, xs, rfl, h2, h3⟩ := h
    rw [toPy] at q
    obtain ⟨ps, q1, q2⟩ := Option.map_eq_some_iff.mp q
    subst q2
    exact .lst (SqL.of (e _ _ h2)) (dps_of e ds xs ps h3 q1)
  | .tup ds, v, p, h, q => by
    obtain ⟨a, xs, rfl, h2, h3⟩ := h
    rw [toPy] at q
    obtain ⟨ps, q1, q2⟩ := Option.map_eq_some_iff.mp q
    subst q2
    exact .tup (SqT.of (e _ _ h2)) (dps_of e ds xs ps h3 q1)
  | .ins _ _ _, v, p, h, q => by rw [toPy] at q; cases q
  | .scr _, v, p, h, q => by rw [toPy] at q; cases q
  | .exc _ _, v, p, h, q => by rw [toPy] at q; cases q
theorem dps_of {K : PySem.W.Frag} {mg : Str → Option Value} {B H : Hp} (e : Same B H) : ∀ (ds : List D) (vs : List V) (ps : List PyData), Rps K mg B ds vs → toPys ds = some ps → DpAll K H vs ps
  | [], vs, ps, h, q => by
    have h' : vs = [] := h
    subst h'
    rw [toPys] at q
    cases q
    exact .nil
  | d :: ds, vs, ps, h, q => by
    obtain ⟨v, r, rfl, h2, h3⟩ := h
    rw [toPys] at q
    split at q
    · rename_i p' ps' q1 q2
      cases q
      exact .cons (dp_of e d v p' h2 q1) (dps_of e ds r ps' h3 q2)
    · cases q
end
theorem dpw_of {K : PySem.W.Frag} {mg : Str → Option Value} {B H : Hp} (e : Same B H) {d : D} {v : V} {p : PyData} (h : Vw K mg B H d v) (q : toPy d = some p) : Dp K H v p := by
  cases d with
  | lst ds =>
    obtain ⟨a, xs, rfl, h2, h3⟩ := h
    rw [toPy] at q
    obtain ⟨ps, q1, q2⟩ := Option.map_eq_some_iff.mp q
    subst q2
    exact .lst (SqL.of h2) (dps_of e ds xs ps h3 q1)
  | _ => exact dp_of e _ v p h q
/-- neg: != -/
def eqD (neg : Bool) : OF := fun δ x y => match toPy x, toPy y with
  | some a, some b => if SeqAt.shaped a && SeqAt.shaped b then some (.fz (.bl (if neg then !PyData.eqv a b else PyData.eqv a b)), δ) else none
  | _, _ => none
theorem od_eq (hu : X.A.units + 64 < cLine) : OpR X (compareOp .Eq) (rD X.K X.mg (eqD false)) := by
  intro pins s σ H x y v u Q I rx ry h
  obtain ⟨B, F, ad, σ', δ, dx, dy, r, δ', S, vx, vy, e, k⟩ := h
  unfold eqD at e
  split at e
  · rename_i a b h1 h2
    split at e
    · rename_i hs
      rw [Bool.and_eq_true] at hs
      cases e
      exact op_eqD hu pins s σ H x y v u Q I rx ry ⟨a, b, dpw_of S.exB vx h1, dpw_of S.exB vy h2, hs.1, hs.2, here (d := .bl (PyData.eqv a b)) S rfl k⟩
    · cases e
  · cases e
theorem od_ne (hu : X.A.units + 64 < cLine) : OpR X (compareOp .NotEq) (rD X.K X.mg (eqD true)) := by
  intro pins s σ H x y v u Q I rx ry h
  obtain ⟨B, F, ad, σ', δ, dx, dy, r, δ', S, vx, vy, e, k⟩ := h
  unfold eqD at e
  split at e
  · rename_i a b h1 h2
    split at e
    · rename_i hs
      rw [Bool.and_eq_true] at hs
      cases e
      exact op_neD hu pins s σ H x y v u Q I rx ry ⟨a, b, dpw_of S.exB vx h1, dpw_of S.exB vy h2, hs.1, hs.2, here (d := .bl (!PyData.eqv a b)) S rfl k⟩
    · cases e
  · cases e
/-! ### in, not in: flat items -/
end
end PK
namespace PK
open PySem L2
section
variable {K : PySem.W.Frag} {mg : Str → Option Value} {B B' F : Hp} {ad ad' : List Addr} {σ : L2.St} {δ δ' : Dl} {H H' : Hp} {p : Addr} {o : HO}
def Vws (K : PySem.W.Frag) (mg : Str → Option Value) (B H : Hp) : List D → List V → Prop
  | [], vs => vs = []
  | d :: ds, vs => ∃ v r, vs = v :: r ∧ Vw K mg B H d v ∧ Vws K mg B H ds r
def ders (δ : Dl) : List Vl → Option (List D)
  | [] => some []
  | r :: rs => match der δ r, ders δ rs with
    | some d, some ds => some (d :: ds)
    | _, _ => none
theorem SRep.vws (S : SRep K mg B F ad σ δ H) : ∀ {rs : List Vl} {ds : List D} {vs : List V}, RpVs K mg B ad rs vs → ders δ rs = some ds → Vws K mg B H ds vs
  | [], ds, vs, h, e => by
    have h' : vs = [] := h
    subst h'
    simp only [ders] at e
    cases e
    rfl
  | r :: rs, ds, vs, h, e => by
    obtain ⟨v, w, rfl, h2, h3⟩ := h
    simp only [ders] at e
    split at e
    · rename_i d' ds' q1 q2
      cases e
      exact ⟨v, w, rfl, S.vw h2 q1, S.vws h3 q2⟩
    · cases e
/-- the lists in a list are frozen -/
def frzK (δ : Dl) : List Nat → Option (List D × Dl)
  | [] => some ([], δ)
  | k :: ks => match δ.st[k]? with
    | some (some ds) => (frzK { δ with st := δ.st.set k none } ks).map fun q => (.lst ds :: q.1, q.2)
    | _ => none
/-- a value that escapes is frozen -/
def frz (δ : Dl) : Vl → Option (D × Dl)
  | .fz d => some (d, δ)
  | .rf k => match δ.st[k]? with
    | some (some ds) => some (.lst ds, { δ with st := δ.st.set k none })
    | _ => none
  | .nl ks => (frzK δ ks).map fun q => (.lst q.1, q.2)
def frzs (δ : Dl) : List Vl → Option (List D × Dl)
  | [] => some ([], δ)
  | r :: rs => (frz δ r).bind fun p => (frzs p.2 rs).map fun q => (p.1 :: q.1, q.2)
theorem SRep.frzK : ∀ {ks : List Nat} {as : List Addr} {ds : List D} {B : Hp} {δ δ' : Dl}, SRep K mg B F ad σ δ H → as.map some = (ks.map fun k => ad[k]?) → PK.frzK δ ks = some (ds, δ') → ∃ B', Same B B' ∧ SRep K mg B' F ad σ δ' H ∧ Rps K mg B' ds (as.map V.ref)
  | [], as, ds, B, δ, δ', S, h, e => by
    have h0 : as = [] := by simpa using h
    subst h0
    simp only [PK.frzK] at e
    cases e
    exact ⟨B, Same.refl _, S, rfl⟩
  | k :: ks, as, ds, B, δ, δ', S, h, e => by
    cases as with
    | nil => cases h
    | cons a as =>
      simp only [List.map_cons, List.cons.injEq] at h
      obtain ⟨h1, h2⟩ := h
      simp only [PK.frzK] at e
      split at e
      · rename_i es hk
        obtain ⟨⟨ds', δ1⟩, e1, e2⟩ := Option.map_eq_some_iff.mp e
        cases e2
        obtain ⟨q, xs, g1, g2, g3, _, _⟩ := S.cell k es hk
        rw [← h1] at g1
        cases g1
        obtain ⟨S1, s1⟩ := S.freeze hk h1.symm g2
        obtain ⟨B2, s2, S2, r⟩ := SRep.frzK S1 h2 e1
        exact ⟨B2, s1.trans s2, S2, .ref a, as.map V.ref, rfl, ⟨a, xs, rfl, s2 _ _ upd_same, Rps.mono (s1.trans s2) es xs g3⟩, r⟩
      · cases e
theorem SRep.frz (S : SRep K mg B F ad σ δ H) {r : Vl} {d : D} {v : V} (h : RpV K mg B ad r v) (e : PK.frz δ r = some (d, δ')) : ∃ B', Same B B' ∧ SRep K mg B' F ad σ δ' H ∧ Rp K mg B' d v := by
  cases r with
  | fz d' =>
    simp only [PK.frz] at e
    cases e
    exact ⟨B, Same.refl _, S, h⟩
  | rf k =>
    obtain ⟨a, rfl, h2⟩ := h
    simp only [PK.frz] at e
    split at e
    · rename_i ds hk
      cases e
      obtain ⟨q, xs, g1, g2, g3, _, _⟩ := S.cell k ds hk
      rw [h2] at g1
      cases g1
      obtain ⟨S1, s1⟩ := S.freeze hk h2 g2
      exact ⟨_, s1, S1, a, xs, rfl, upd_same, Rps.mono s1 ds xs g3⟩
    · cases e
  | nl ks =>
    obtain ⟨a, as, rfl, h2, h3⟩ := h
    simp only [PK.frz] at e
    obtain ⟨⟨ds, δ1⟩, e1, e2⟩ := Option.map_eq_some_iff.mp e
    cases e2
    obtain ⟨B1, s1, S1, r⟩ := SRep.frzK S h3 e1
    exact ⟨B1, s1, S1, a, _, rfl, s1 _ _ h2, r⟩
theorem SRep.frzs : ∀ {rs : List Vl} {ds : List D} {vs : List V} {B : Hp} {δ δ' : Dl}, SRep K mg B F ad σ δ H → RpVs K mg B ad rs vs → PK.frzs δ rs = some (ds, δ') → ∃ B', Same B B' ∧ SRep K mg B' F ad σ δ' H ∧ Rps K mg B' ds vs
  | [], ds, vs, B, δ, δ', S, h, e => by
    have h' : vs = [] := h
    subst h'
    simp only [PK.frzs] at e
    cases e
    exact ⟨B, Same.refl _, S, rfl⟩
  | r :: rs, ds, vs, B, δ, δ', S, h, e => by
    obtain ⟨v, w, rfl, h2, h3⟩ := h
    simp only [PK.frzs] at e
    obtain ⟨⟨d1, δ1⟩, e1, e2⟩ := Option.bind_eq_some_iff.mp e
    obtain ⟨⟨ds2, δ2⟩, e3, e4⟩ := Option.map_eq_some_iff.mp e2
    cases e4
    obtain ⟨B1, s1, S1, r1⟩ := S.frz h2 e1
    obtain ⟨B2, s2, S2, r2⟩ := S1.frzs (RpVs.mono s1 (Pre.refl _) h3) e3
    exact ⟨B2, s1.trans s2, S2, v, w, rfl, Rp.mono s2 _ _ r1, r2⟩
end
/-! ### tests -/
def truD : D → Option Bool
  | .bl b => some b
  | .int i => some (i != 0)
  | .non => some false
  | .lst ds => some (!ds.isEmpty)
  | .tup ds => some (!ds.isEmpty)
  | _ => none
def dB (f : EF) : BF := fun δ => (f δ).bind fun p => (der p.2 p.1).bind fun d => (truD d).map fun b => (b, p.2)
theorem isEmpty_rps {K : PySem.W.Frag} {mg : Str → Option Value} {B : Hp} : ∀ {ds : List D} {xs : List V}, Rps K mg B ds xs → xs.isEmpty = ds.isEmpty
  | [], xs, h => by
    have h' : xs = [] := h
    subst h'; rfl
  | d :: ds, xs, h => by
    obtain ⟨v, r, rfl, _⟩ := h
    rfl
theorem tru_of {K : PySem.W.Frag} {mg : Str → Option Value} {B H : Hp} {d : D} {v : V} {b : Bool} (s : Same B H) (h : Vw K mg B H d v) (e : truD d = some b) : TruV K v H b := by
  cases d <;> simp only [truD] at e <;> cases e
  · have h' : v = .non := h
    subst h'; rfl
  · have h' : v = .bl _ := h
    subst h'; rfl
  · have h' : v = .int _ := h
    subst h'; rfl
  · obtain ⟨a, xs, rfl, h2, h3⟩ := h
    exact .inl ⟨xs, SqL.of h2, by rw [isEmpty_rps h3]⟩
  · obtain ⟨a, xs, rfl, h2, h3⟩ := h
    exact .inr (.inl ⟨xs, SqT.of (s _ _ h2), by rw [isEmpty_rps h3]⟩)
section
variable {X : Cx} {e a b c : Expr} {f fa fb fc : EF} {ft fu : BF} {pos : Pos} {es rest : List Expr}
theorem pdt_val (h : PD X e f) (he : ∀ whole, isTrue e X.env whole = (do let v ← whole; standAt e.pos; holding [v] (truthy v)) := by intro _; rfl) : PDT X e (dB f) :=
  PT.weak (pt_truth h he) fun σ H Q h => by
    obtain ⟨B, F, ad, δ, r, δ', S, e, k⟩ := h
    unfold dB at e
    obtain ⟨⟨x, δ1⟩, e1, e⟩ := Option.bind_eq_some_iff.mp e
    obtain ⟨d, e2, e⟩ := Option.bind_eq_some_iff.mp e
    obtain ⟨b, e3, e⟩ := Option.map_eq_some_iff.mp e
    cases e
    exact ⟨B, F, ad, δ, x, _, S, e1, fun B1 ad1 v H1 s1 p1 S1 r1 => ⟨_, tru_of S1.exB (S1.vw r1 e2) e3, k B1 ad1 H1 s1 p1 S1⟩⟩
theorem tTest_w {K : PySem.W.Frag} {mg : Str → Option Value} {σ : L2.St} {H : Hp} {Q : Bool → Hp → Prop} {t : TE} (w : ∀ σ H Q, tD K mg f σ H Q → t σ H Q) (h : tDT K mg (dB f) σ H Q) (hb : ∀ δ r δ', f δ = some (r, δ') → ∃ b, r = .fz (.bl b)) : tTest t σ H Q := by
  obtain ⟨B, F, ad, δ, r, δ', S, e, k⟩ := h
  unfold dB at e
  obtain ⟨⟨x, δ1⟩, e1, e⟩ := Option.bind_eq_some_iff.mp e
  obtain ⟨d, e2, e⟩ := Option.bind_eq_some_iff.mp e
  obtain ⟨b, e3, e⟩ := Option.map_eq_some_iff.mp e
  cases e
  obtain ⟨b', hb'⟩ := hb _ _ _ e1
  have hb'' : x = .fz (.bl b') := hb'
  subst hb''
  simp only [der] at e2
  cases e2
  simp only [truD] at e3
  cases e3
  exact w σ H _ ⟨B, F, ad, δ, _, _, S, e1, fun B1 ad1 v H1 s1 p1 S1 r1 => ⟨_, r1, k B1 ad1 H1 s1 p1 S1⟩⟩
/-- an operation that answers with a bool -/
def BoolOf (g : OF) : Prop := ∀ δ x y r δ', g δ x y = some (r, δ') → ∃ b, r = .fz (.bl b)
theorem boolOp {g : OF} (hg : BoolOf g) : ∀ δ r δ', dOp g fa fb δ = some (r, δ') → ∃ b, r = .fz (.bl b) := by
  intro δ r δ' e
  unfold dOp at e
  obtain ⟨⟨x, δ1⟩, e1, e⟩ := Option.bind_eq_some_iff.mp e
  obtain ⟨⟨y, δ2⟩, e2, e⟩ := Option.bind_eq_some_iff.mp e
  obtain ⟨da, e3, e⟩ := Option.bind_eq_some_iff.mp e
  obtain ⟨db, e4, e⟩ := Option.bind_eq_some_iff.mp e
  exact hg _ _ _ _ _ e
theorem bo_cmp {c : Int → Int → Bool} : BoolOf (cmpD c) := by
  intro δ x y r δ' e
  unfold cmpD at e
  split at e
  · cases e; exact ⟨_, rfl⟩
  · cases e
theorem bo_isN : BoolOf isND := by
  intro δ x y r δ' e
  unfold isND at e
  split at e
  · cases e; exact ⟨_, rfl⟩
  · cases e
theorem bo_notN : BoolOf notND := by
  intro δ x y r δ' e
  unfold notND at e
  split at e
  · cases e; exact ⟨_, rfl⟩
  · cases e
theorem bo_eq {n : Bool} : BoolOf (eqD n) := by
  intro δ x y r δ' e
  unfold eqD at e
  split at e
  · split at e
    · cases e; exact ⟨_, rfl⟩
    · cases e
  · cases e
theorem pdt_cmp {op : CmpOp} {g : OF} (hg : BoolOf g) (ho : OpR X (compareOp op) (rD X.K X.mg g)) (ha : PD X a fa) (hb : PD X b fb) (hm : behindInMarks op b = false := by rfl) : PDT X (.Compare a [op] [b] pos) (dB (dOp g fa fb)) :=
  PT.weak (pt_cmpR ho ha hb hm) fun σ H Q h => tTest_w (fun σ H Q h => dOp_w h) h (boolOp hg)
/-- a chain of two -/
def dChain (g g' : OF) (fa fb fc : EF) : EF := fun δ => (fa δ).bind fun p => (fb p.2).bind fun q => (der q.2 p.1).bind fun a => (der q.2 q.1).bind fun b => (g q.2 a b).bind fun z => match z.1 with
  | .fz (.bl true) => (fc z.2).bind fun w => (der w.2 q.1).bind fun b' => (der w.2 w.1).bind fun c => g' w.2 b' c
  | .fz (.bl false) => some (.fz (.bl false), z.2)
  | _ => none
/-! and, or, not -/
def bAnd (f g : BF) : BF := fun δ => (f δ).bind fun p => if p.1 then g p.2 else some (false, p.2)
def bOr (f g : BF) : BF := fun δ => (f δ).bind fun p => if p.1 then some (true, p.2) else g p.2
def bNot (f : BF) : BF := fun δ => (f δ).map fun p => (!p.1, p.2)
abbrev PDW (X : Cx) (e : Expr) (f : BF) := PW X e (tDT X.K X.mg f)
theorem PW.weak {t t' : TT} (h : PW X e t) (w : ∀ σ H Q, t' σ H Q → t σ H Q) : PW X e t' := ⟨fun wh pins s σ H Q I q => h.run wh pins s σ H Q I (w σ H Q q)⟩
theorem pdw_or1 (h : PDT X a ft) : PDW X (.BoolOp .Or [a] pos) ft := pw_or1 h
theorem pdw_or (h : PDT X a ft) (g : PDW X (.BoolOp .Or (b :: rest) pos) fu) : PDW X (.BoolOp .Or (a :: b :: rest) pos) (bOr ft fu) := PW.weak (pw_or h g) fun σ H Q h => by
  obtain ⟨B, F, ad, δ, r, δ', S, e, k⟩ := h
  unfold bOr at e
  obtain ⟨⟨x, δ1⟩, e1, e⟩ := Option.bind_eq_some_iff.mp e
  refine ⟨B, F, ad, δ, x, δ1, S, e1, fun B1 ad1 H1 s1 p1 S1 => ?_⟩
  cases x with
  | false =>
    rw [if_neg Bool.false_ne_true]
    exact ⟨B1, F, ad1, δ1, r, δ', S1, e, fun B' ad' H' s2 p2 S' => k B' ad' H' (s1.trans s2) (p1.trans p2) S'⟩
  | true =>
    rw [if_pos rfl]
    simp only [if_true] at e
    cases e
    exact k B1 ad1 H1 s1 p1 S1
theorem pdt_w (h : PDW X e ft) : PDT X e ft := h.pt
theorem pdt_not (h : PDT X a ft) : PDT X (.UnaryOp .Not a pos) (bNot ft) := PT.weak (pt_not h) fun σ H Q h => by
  obtain ⟨B, F, ad, δ, r, δ', S, e, k⟩ := h
  unfold bNot at e
  obtain ⟨⟨x, δ1⟩, e1, e⟩ := Option.map_eq_some_iff.mp e
  cases e
  exact ⟨B, F, ad, δ, x, _, S, e1, fun B1 ad1 H1 s1 p1 S1 => k B1 ad1 H1 s1 p1 S1⟩
/-! as values: bools -/
def dAndV (fa fb : EF) : EF := fun δ => (fa δ).bind fun p => match p.1 with
  | .fz (.bl true) => fb p.2
  | .fz (.bl false) => some (.fz (.bl false), p.2)
  | _ => none
def dOrV (fa fb : EF) : EF := fun δ => (fa δ).bind fun p => match p.1 with
  | .fz (.bl false) => fb p.2
  | .fz (.bl true) => some (.fz (.bl true), p.2)
  | _ => none
def dNotV (fa : EF) : EF := fun δ => (fa δ).bind fun p => match p.1 with
  | .fz (.bl b) => some (.fz (.bl (!b)), p.2)
  | _ => none
def dIfE (t : BF) (fa fb : EF) : EF := fun δ => (t δ).bind fun p => if p.1 then fa p.2 else fb p.2
theorem pd_if (ht : PDT X c ft) (ha : PD X a fa) (hb : PD X b fb) : PD X (.IfExp c a b pos) (dIfE ft fa fb) := PE.weak (pe_ifExp ht ha hb) fun σ H Q h => by
  obtain ⟨B, F, ad, δ, r, δ', S, e, k⟩ := h
  unfold dIfE at e
  obtain ⟨⟨x, δ1⟩, e1, e⟩ := Option.bind_eq_some_iff.mp e
  refine ⟨B, F, ad, δ, x, δ1, S, e1, fun B1 ad1 H1 s1 p1 S1 => ?_⟩
  cases x with
  | true =>
    rw [if_pos rfl]
    exact ⟨B1, F, ad1, δ1, r, δ', S1, e, fun B' ad' v H' s2 p2 S' r' => k B' ad' v H' (s1.trans s2) (p1.trans p2) S' r'⟩
  | false =>
    rw [if_neg Bool.false_ne_true]
    exact ⟨B1, F, ad1, δ1, r, δ', S1, e, fun B' ad' v H' s2 p2 S' r' => k B' ad' v H' (s1.trans s2) (p1.trans p2) S' r'⟩
def dUn (g : D → Option D) (fa : EF) : EF := fun δ => (fa δ).bind fun p => match p.1 with
  | .fz d => (g d).map fun r => (.fz r, p.2)
  | _ => none
def negD : D → Option D
  | .int i => some (.int (-i))
  | _ => none
theorem pd_neg (ha : PD X a fa) : PD X (.UnaryOp .USub a pos) (dUn negD fa) := PE.weak (pe_un un_neg ha) fun σ H Q h => by
  obtain ⟨B, F, ad, δ, r, δ', S, e, k⟩ := h
  unfold dUn at e
  obtain ⟨⟨x, δ1⟩, e1, e⟩ := Option.bind_eq_some_iff.mp e
  refine ⟨B, F, ad, δ, x, δ1, S, e1, fun B1 ad1 v H1 s1 p1 S1 r1 => ?_⟩
  cases x with
  | rf k => cases e
  | nl _ => cases e
  | fz d =>
    cases d with
    | int b =>
      cases e
      exact ⟨b, r1, k B1 ad1 _ H1 s1 p1 S1 rfl⟩
    | _ => cases e
/-! ### arguments, displays -/
def aNil : AF := fun δ => some ([], δ)
def aCons (f : EF) (g : AF) : AF := fun δ => (f δ).bind fun p => (g p.2).map fun q => (p.1 :: q.1, q.2)
theorem pda_nil : PDA X [] aNil := PA.weak pa_nil fun σ H Q h => by
  obtain ⟨B, F, ad, δ, r, δ', S, e, k⟩ := h
  cases e
  exact k B ad [] H (Same.refl _) (Pre.refl _) S rfl
theorem pda_cons {g : AF} (h : PD X e f) (hr : PDA X es g) (hs : starEach (e :: es) X.env = (false, eval e X.env) :: starEach es X.env := by rfl) : PDA X (e :: es) (aCons f g) := PA.weak (pa_cons h hr hs) fun σ H Q h => by
  obtain ⟨B, F, ad, δ, r, δ', S, e, k⟩ := h
  unfold aCons at e
  obtain ⟨⟨x, δ1⟩, e1, e⟩ := Option.bind_eq_some_iff.mp e
  obtain ⟨⟨rs, δ2⟩, e2, e⟩ := Option.map_eq_some_iff.mp e
  cases e
  refine ⟨B, F, ad, δ, x, δ1, S, e1, fun B1 ad1 v H1 s1 p1 S1 r1 => ?_⟩
  refine ⟨B1, F, ad1, δ1, rs, _, S1, e2, fun B2 ad2 vs H2 s2 p2 S2 r2 => ?_⟩
  exact k B2 ad2 (v :: vs) H2 (s1.trans s2) (p1.trans p2) S2 ⟨v, vs, rfl, r1.mono s2 p2, r2⟩
def itemsD : D → Option (List D)
  | .lst ds => some ds
  | .tup ds => some ds
  | _ => none
def aStar (f : EF) (g : AF) : AF := fun δ => (f δ).bind fun p => (der p.2 p.1).bind fun d => (itemsD d).bind fun ds => (g p.2).map fun q => (ds.map Vl.fz ++ q.1, q.2)
def dTup (f : AF) : EF := fun δ => (f δ).bind fun p => (frzs p.2 p.1).bind fun q => if q.1.length ≤ small then some (.fz (.tup q.1), q.2) else none
def dLst (m : Bool) (f : AF) : EF := fun δ => (f δ).bind fun p => (frzs p.2 p.1).bind fun q => if q.1.length ≤ small then some (mk m q.1 q.2) else none
theorem pd_tup {fs : AF} {k : Nat} (h : PDA X es fs) : PD X (.Tuple es k pos) (dTup fs) := PE.weak (pe_tup h) fun σ H Q h => by
  obtain ⟨B, F, ad, δ, r, δ', S, e, k⟩ := h
  unfold dTup at e
  obtain ⟨⟨x, δ1⟩, e1, e⟩ := Option.bind_eq_some_iff.mp e
  obtain ⟨⟨ds, δ2⟩, e2, e⟩ := Option.bind_eq_some_iff.mp e
  split at e
  · rename_i hl
    cases e
    refine ⟨B, F, ad, δ, x, δ1, S, e1, fun B1 ad1 vs H1 s1 p1 S1 r1 => ?_⟩
    obtain ⟨B2, s2, S2, r2⟩ := S1.frzs r1 e2
    exact ⟨small_sz (by rw [Rps.length r2]; exact hl), fun p hp => tup_ok S2 hp r2 fun B' ad' v H' s3 p3 S' r' => k B' ad' v H' ((s1.trans s2).trans s3) (p1.trans p3) S' r'⟩
  · cases e
theorem pd_lst {fs : AF} (m : Bool) (h : PDA X es fs) : PD X (.List es pos) (dLst m fs) := PE.weak (pe_lst h) fun σ H Q h => by
  obtain ⟨B, F, ad, δ, r, δ', S, e, k⟩ := h
  unfold dLst at e
  obtain ⟨⟨x, δ1⟩, e1, e⟩ := Option.bind_eq_some_iff.mp e
  obtain ⟨⟨ds, δ2⟩, e2, e⟩ := Option.bind_eq_some_iff.mp e
  split at e
  · rename_i hl
    have e' := Option.some.inj e
    refine ⟨B, F, ad, δ, x, δ1, S, e1, fun B1 ad1 vs H1 s1 p1 S1 r1 => ?_⟩
    obtain ⟨B2, s2, S2, r2⟩ := S1.frzs r1 e2
    refine ⟨small_sz (by rw [Rps.length r2]; exact hl), fun p hp => mk_ok (m := m) S2 hp r2 fun B' ad' v H' s3 p3 S' r' => ?_⟩
    dsimp only at e'
    rw [e'] at S' r'
    exact k B' ad' v H' ((s1.trans s2).trans s3) (p1.trans p3) S' r'
  · cases e
/-! ### subscripts -/
def ixD : OF := fun δ x y => match x, y with
  | .lst ds, .int i => (atI ds i).map fun d => (.fz d, δ)
  | .tup ds, .int i => (atI ds i).map fun d => (.fz d, δ)
  | .scr ns, .int i => (atI ns i).map fun n => (.fz (.int n), δ)
  | _, _ => none
theorem atI_rps {K : PySem.W.Frag} {mg : Str → Option Value} {B : Hp} {ds : List D} {xs : List V} {i : Int} {d : D} (h : Rps K mg B ds xs) (e : atI ds i = some d) : ∃ v, atI xs i = some v ∧ Rp K mg B d v := by
  unfold atI at e ⊢
  rw [Rps.length h]
  obtain ⟨j, e1, e2⟩ := Option.bind_eq_some_iff.mp e
  obtain ⟨v, h1, h2⟩ := Rps.get h e2
  exact ⟨v, by rw [e1]; exact h1, h2⟩
theorem atI_map {ns : List Int} {i n : Int} (e : atI ns i = some n) : atI (ns.map V.int) i = some (.int n) := by
  unfold atI at e ⊢
  rw [List.length_map]
  obtain ⟨j, e1, e2⟩ := Option.bind_eq_some_iff.mp e
  rw [e1]
  show (ns.map V.int)[j]? = _
  rw [List.getElem?_map, e2]
  rfl
theorem pd_ix (ha : PD X a fa) (hb : PD X b fb) (hs : PlainIx b := by exact fun _ _ => rfl) : PD X (.Subscript a b pos) (dOp ixD fa fb) := PE.weak (pe_ix (ix_list.or ix_tup) ha hb hs) fun σ H Q h => by
  have h' := dOp_w h
  obtain ⟨B, F, ad, δ, r, δ', S, e, k1⟩ := h'
  refine ⟨B, F, ad, δ, r, δ', S, e, fun B1 ad1 v1 H1 s1 p1 S1 r1 => ?_⟩
  obtain ⟨B, F, ad, δ, r, δ', S, e, k2⟩ := k1 B1 ad1 v1 H1 s1 p1 S1 r1
  refine ⟨B, F, ad, δ, r, δ', S, e, fun B2 ad2 v2 H2 s2 p2 S2 r2 => ?_⟩
  obtain ⟨B, F, ad, σ', δ, dx, dy, r, δ', S, vx, vy, e, k3⟩ := k2 B2 ad2 v2 H2 s2 p2 S2 r2
  clear k1 k2
  unfold ixD at e
  split at e
  · obtain ⟨d, e1, e2⟩ := Option.map_eq_some_iff.mp e
    cases e2
    obtain ⟨p, xs, h1, h2, h3⟩ := vx
    obtain ⟨v, g1, g2⟩ := atI_rps h3 e1
    exact .inl ⟨p, xs, _, v, h1, vy, SqL.of h2, g1, here S g2 k3⟩
  · obtain ⟨d, e1, e2⟩ := Option.map_eq_some_iff.mp e
    cases e2
    obtain ⟨p, xs, h1, h2, h3⟩ := vx
    obtain ⟨v, g1, g2⟩ := atI_rps h3 e1
    exact .inr ⟨p, xs, _, v, h1, vy, SqT.of (S.exB _ _ h2), g1, here S g2 k3⟩
  · obtain ⟨d, e1, e2⟩ := Option.map_eq_some_iff.mp e
    cases e2
    obtain ⟨p, h1, h2⟩ := vx
    exact .inl ⟨p, _, _, _, h1, vy, sqL_mono S.exB h2, atI_map e1, here (d := .int d) S rfl k3⟩
  · cases e
end
end PK
namespace PK
open PySem L2
/-! ### slices -/
abbrev OF1 := Dl → Option (Option Int × Dl)
def tDO (K : PySem.W.Frag) (mg : Str → Option Value) (f : OF1) : TO := fun σ H Q => ∃ B F ad δ r δ', SRep K mg B F ad σ δ H ∧ f δ = some (r, δ') ∧
  ∀ B' ad' H', Same B B' → Pre ad ad' → SRep K mg B' F ad' σ δ' H' → Q r H'
abbrev PDO (X : Cx) (e : Option Expr) (f : OF1) := PO X e (tDO X.K X.mg f)
def oNone : OF1 := fun δ => some (none, δ)
def oSome (f : EF) : OF1 := fun δ => (f δ).bind fun p => match p.1 with
  | .fz (.int i) => some (some i, p.2)
  | _ => none
theorem PO.weak {X : Cx} {e : Option Expr} {t t' : TO} (h : PO X e t) (w : ∀ σ H Q, t' σ H Q → t σ H Q) : PO X e t' := ⟨fun pins s σ H Q I q => h.run pins s σ H Q I (w σ H Q q)⟩
def cutD (xs : List D) (lo hi : Option Int) : List D := (xs.drop (HT.sIx xs.length 0 lo)).take (HT.sIx xs.length xs.length hi - HT.sIx xs.length 0 lo)
def slD (m : Bool) (δ : Dl) (d : D) (lo hi : Option Int) : Option (Vl × Dl) := match d with
  | .lst ds => some (mk m (cutD ds lo hi) δ)
  | .tup ds => some (.fz (.tup (cutD ds lo hi)), δ)
  | _ => none
def dSl (m : Bool) (fe : EF) (fl fh : OF1) : EF := fun δ => (fe δ).bind fun p => (fl p.2).bind fun l => (fh l.2).bind fun h => (der h.2 p.1).bind fun d => slD m h.2 d l.1 h.1
theorem cut_rps {K : PySem.W.Frag} {mg : Str → Option Value} {B : Hp} {ds : List D} {xs : List V} (r : Rps K mg B ds xs) (lo hi : Option Int) : Rps K mg B (cutD ds lo hi) (cutV xs lo hi) := by
  unfold cutD cutV
  rw [Rps.length r]
  exact Rps.take _ (Rps.drop _ r)
section
variable {X : Cx} {e a b c : Expr} {f fa fb fc : EF} {pos p2 p : Pos} {es rest : List Expr} {lo hi : Option Expr} {fl fh : OF1}
theorem pdo_none : PDO X none oNone := PO.weak po_none fun σ H Q h => by
  obtain ⟨B, F, ad, δ, r, δ', S, e, k⟩ := h
  cases e
  exact k B ad H (Same.refl _) (Pre.refl _) S
theorem pdo_some (h : PD X e f) : PDO X (some e) (oSome f) := PO.weak (po_some h) fun σ H Q h => by
  obtain ⟨B, F, ad, δ, r, δ', S, e, k⟩ := h
  unfold oSome at e
  obtain ⟨⟨x, δ1⟩, e1, e⟩ := Option.bind_eq_some_iff.mp e
  refine ⟨B, F, ad, δ, x, δ1, S, e1, fun B1 ad1 v H1 s1 p1 S1 r1 => ?_⟩
  cases x with
  | rf k => cases e
  | nl _ => cases e
  | fz d =>
    cases d with
    | int i =>
      cases e
      exact ⟨i, r1, k B1 ad1 H1 s1 p1 S1⟩
    | _ => cases e
theorem cutD_all {ds : List D} {lo hi : Option Int} (h : HT.sIx ds.length 0 lo = 0 ∧ HT.sIx ds.length ds.length hi = ds.length) : cutD ds lo hi = ds := by
  unfold cutD
  rw [h.1, h.2]
  simp
theorem pd_sl (m : Bool) (h : PD X e f) (hl : PDO X lo fl) (hh : PDO X hi fh) : PD X (.Subscript e (.Slice lo hi none p2) pos) (dSl m f fl fh) := PE.weak (pe_slice (sl_list.or sl_tupA) h hl hh) fun σ H Q h => by
  obtain ⟨B, F, ad, δ, r, δ', S, e, k⟩ := h
  unfold dSl at e
  obtain ⟨⟨x, δ1⟩, e1, e⟩ := Option.bind_eq_some_iff.mp e
  obtain ⟨⟨l, δ2⟩, e2, e⟩ := Option.bind_eq_some_iff.mp e
  obtain ⟨⟨u, δ3⟩, e3, e⟩ := Option.bind_eq_some_iff.mp e
  obtain ⟨d, e4, e⟩ := Option.bind_eq_some_iff.mp e
  refine ⟨B, F, ad, δ, x, δ1, S, e1, fun B1 ad1 v H1 s1 p1 S1 r1 => ?_⟩
  refine ⟨B1, F, ad1, δ1, l, δ2, S1, e2, fun B2 ad2 H2 s2 p2 S2 => ?_⟩
  refine ⟨B2, F, ad2, δ2, u, δ3, S2, e3, fun B3 ad3 H3 s3 p3 S3 => ?_⟩
  have vw := S3.vw (r1.mono (s2.trans s3) (p2.trans p3)) e4
  cases d with
  | lst ds =>
    have e' := Option.some.inj e
    obtain ⟨q, xs, h1, h2, h3⟩ := vw
    refine .inl ⟨q, xs, h1, SqL.of h2, fun z hz => mk_ok (m := m) S3 hz (cut_rps h3 l u) fun B' ad' v' H' s4 p4 S' r' => ?_⟩
    dsimp only at e'
    rw [e'] at S' r'
    exact k B' ad' v' H' (((s1.trans s2).trans s3).trans s4) (((p1.trans p2).trans p3).trans p4) S' r'
  | tup ds =>
    cases e
    obtain ⟨q, xs, h1, h2, h3⟩ := vw
    have hlen := Rps.length h3
    have k' : ∀ B' ad' v' H', Same B3 B' → Pre ad3 ad' → SRep X.K X.mg B' F ad' σ δ3 H' → RpV X.K X.mg B' ad' (.fz (.tup (cutD ds l u))) v' → Q v' H' := fun B' ad' v' H' s4 p4 S' r' =>
      k B' ad' v' H' (((s1.trans s2).trans s3).trans s4) (((p1.trans p2).trans p3).trans p4) S' r'
    refine .inr ⟨q, xs, h1, SqT.of (S3.exB _ _ h2), fun hw => ?_, fun hw z hz => tup_ok S3 hz (cut_rps h3 l u) k'⟩
    rw [hlen] at hw
    rw [cutD_all hw] at k'
    exact here (d := .tup ds) S3 ⟨q, xs, rfl, h2, h3⟩ k'
  | _ => cases e
def dRev (m : Bool) (fe : EF) : EF := fun δ => (fe δ).bind fun p => match der p.2 p.1 with
  | some (.lst ds) => some (mk m ds.reverse p.2)
  | _ => none
/-! ### builtins -/
abbrev CF := Dl → List D → Option (Vl × Dl)
def rDC (K : PySem.W.Frag) (mg : Str → Option Value) (g : CF) : List V → Hp → VK → Prop := fun vs H Q => ∃ B F ad σ δ ds r δ', SRep K mg B F ad σ δ H ∧ Vws K mg B H ds vs ∧ g δ ds = some (r, δ') ∧
  ∀ B' ad' v H', Same B B' → Pre ad ad' → SRep K mg B' F ad' σ δ' H' → RpV K mg B' ad' r v → Q v H'
def dCB (g : CF) (fa : AF) : EF := fun δ => (fa δ).bind fun p => (ders p.2 p.1).bind fun ds => g p.2 ds
theorem dCB_w {K : PySem.W.Frag} {mg : Str → Option Value} {g : CF} {fs : AF} {σ : L2.St} {H : Hp} {Q : VK} (h : tD K mg (dCB g fs) σ H Q) : tCB (rDC K mg g) (tDA K mg fs) σ H Q := by
  obtain ⟨B, F, ad, δ, r, δ', S, e, k⟩ := h
  unfold dCB at e
  obtain ⟨⟨x, δ1⟩, e1, e⟩ := Option.bind_eq_some_iff.mp e
  obtain ⟨ds, e2, e⟩ := Option.bind_eq_some_iff.mp e
  refine ⟨B, F, ad, δ, x, δ1, S, e1, fun B1 ad1 vs H1 s1 p1 S1 r1 => ?_⟩
  exact ⟨B1, F, ad1, σ, δ1, ds, r, δ', S1, S1.vws r1 e2, e, fun B' ad' v H' s2 p2 S' r' => k B' ad' v H' (s1.trans s2) (p1.trans p2) S' r'⟩
theorem pd_cb {g : CF} {fs : AF} {id : String} {x : Str} (hc : CallR X (.builtin id) (rDC X.K X.mg g)) (hg : Gl X x) (hm : X.mg x = none) (hv : bootBuiltins x = some (.builtin id)) (ha : PDA X (e :: es) fs) (hn : x ≠ "__name__" := by decide) (hdb : (x == ("__debug__" : Str)) = false := by decide)
    (he : starEach (e :: es) X.env = (false, eval e X.env) :: starEach es X.env := by rfl) (hpl : (backTo pos (starEach es X.env)).any (·.1) = false := by rfl) : PD X (.Call (.Name x p) (e :: es) [] pos) (dCB g fs) :=
  PE.weak (pe_callB hc hg hm hv ha hn hdb he hpl) fun σ H Q h => dCB_w h
theorem pd_ct {g : CF} {fs : AF} {T : String} {x : Str} (hc : CallR X (.type T) (rDC X.K X.mg g)) (hg : Gl X x) (hm : X.mg x = none) (hv : bootBuiltins x = some (.type T)) (ha : PDA X (e :: es) fs) (hn : x ≠ "__name__" := by decide) (hdb : (x == ("__debug__" : Str)) = false := by decide)
    (he : starEach (e :: es) X.env = (false, eval e X.env) :: starEach es X.env := by rfl) (hpl : (backTo pos (starEach es X.env)).any (·.1) = false := by rfl) : PD X (.Call (.Name x p) (e :: es) [] pos) (dCB g fs) :=
  PE.weak (pe_callTy hc hg hm hv ha hn hdb he hpl) fun σ H Q h => dCB_w h
/-- g on one, on two data -/
def g1 (g : Dl → D → Option (Vl × Dl)) : CF := fun δ ds => match ds with
  | [d] => g δ d
  | _ => none
def g2 (g : Dl → D → D → Option (Vl × Dl)) : CF := fun δ ds => match ds with
  | [d, e] => g δ d e
  | _ => none
theorem rDC1 {K : PySem.W.Frag} {mg : Str → Option Value} {g : Dl → D → Option (Vl × Dl)} {vs : List V} {H : Hp} {Q : VK} (h : rDC K mg (g1 g) vs H Q) : ∃ v, vs = [v] ∧ ∃ B F ad σ δ d r δ', SRep K mg B F ad σ δ H ∧ Vw K mg B H d v ∧ g δ d = some (r, δ') ∧
    ∀ B' ad' v H', Same B B' → Pre ad ad' → SRep K mg B' F ad' σ δ' H' → RpV K mg B' ad' r v → Q v H' := by
  obtain ⟨B, F, ad, σ, δ, ds, r, δ', S, vw, e, k⟩ := h
  unfold g1 at e
  split at e
  · obtain ⟨v, w, h1, h2, h3⟩ := vw
    have h3' : w = [] := h3
    subst h3'
    exact ⟨v, h1, B, F, ad, σ, δ, _, r, δ', S, h2, e, k⟩
  · cases e
theorem rDC2 {K : PySem.W.Frag} {mg : Str → Option Value} {g : Dl → D → D → Option (Vl × Dl)} {vs : List V} {H : Hp} {Q : VK} (h : rDC K mg (g2 g) vs H Q) : ∃ v w, vs = [v, w] ∧ ∃ B F ad σ δ d d2 r δ', SRep K mg B F ad σ δ H ∧ Vw K mg B H d v ∧ Vw K mg B H d2 w ∧ g δ d d2 = some (r, δ') ∧
    ∀ B' ad' v H', Same B B' → Pre ad ad' → SRep K mg B' F ad' σ δ' H' → RpV K mg B' ad' r v → Q v H' := by
  obtain ⟨B, F, ad, σ, δ, ds, r, δ', S, vw, e, k⟩ := h
  unfold g2 at e
  split at e
  · obtain ⟨v, w, h1, h2, h3⟩ := vw
    obtain ⟨v2, w2, h4, h5, h6⟩ := h3
    have h6' : w2 = [] := h6
    subst h6'
    subst h4
    exact ⟨v, v2, h1, B, F, ad, σ, δ, _, _, r, δ', S, h2, h5, e, k⟩
  · cases e
def lenD : CF := g1 fun δ d => match d with
  | .lst ds => some (.fz (.int ds.length), δ)
  | .tup ds => some (.fz (.int ds.length), δ)
  | .scr ns => some (.fz (.int ns.length), δ)
  | _ => none
theorem oc_len : CallR X (.builtin "len") (rDC X.K X.mg lenD) := by
  intro pins s σ H xs us Q I r h
  obtain ⟨v, rfl, B, F, ad, σ', δ, d, r', δ', S, vw, e, k⟩ := rDC1 h
  refine call_len_seq pins s σ H _ us Q I r ?_
  cases d with
  | lst ds =>
    cases e
    obtain ⟨q, xs, h1, h2, h3⟩ := vw
    refine ⟨q, xs, by rw [h1], .inl (SqL.of h2), ?_⟩
    rw [Rps.length h3]
    exact here (d := .int ds.length) S rfl k
  | tup ds =>
    cases e
    obtain ⟨q, xs, h1, h2, h3⟩ := vw
    refine ⟨q, xs, by rw [h1], .inr (SqT.of (S.exB _ _ h2)), ?_⟩
    rw [Rps.length h3]
    exact here (d := .int ds.length) S rfl k
  | scr ns =>
    cases e
    obtain ⟨q, h1, h2⟩ := vw
    refine ⟨q, _, by rw [h1], .inl (sqL_mono S.exB h2), ?_⟩
    rw [List.length_map]
    exact here (d := .int ns.length) S rfl k
  | _ => cases e
def absD : CF := g1 fun δ d => match d with
  | .int i => some (.fz (.int (if i < 0 then -i else i)), δ)
  | _ => none
theorem oc_abs : CallR X (.builtin "abs") (rDC X.K X.mg absD) := by
  intro pins s σ H xs us Q I r h
  obtain ⟨v, rfl, B, F, ad, σ', δ, d, r', δ', S, vw, e, k⟩ := rDC1 h
  refine call_abs pins s σ H _ us Q I r ?_
  cases d with
  | int i =>
    cases e
    exact ⟨i, by rw [show v = .int i from vw], here (d := .int _) S rfl k⟩
  | _ => cases e
def maxD : CF := g2 fun δ d e => match d, e with
  | .int i, .int j => some (.fz (.int (if j > i then j else i)), δ)
  | _, _ => none
def minD : CF := g2 fun δ d e => match d, e with
  | .int i, .int j => some (.fz (.int (if j < i then j else i)), δ)
  | _, _ => none
theorem oc_max (hc : X.calm = true) : CallR X (.builtin "max") (rDC X.K X.mg maxD) := by
  intro pins s σ H xs us Q I r h
  obtain ⟨v, w, rfl, B, F, ad, σ', δ, d, d2, r', δ', S, vw, vw2, e, k⟩ := rDC2 h
  refine call_max2 hc pins s σ H _ us Q I r ?_
  split at e
  · cases e
    exact ⟨_, _, by rw [show v = _ from vw, show w = _ from vw2], here (d := .int _) S rfl k⟩
  · cases e
theorem oc_min (hc : X.calm = true) : CallR X (.builtin "min") (rDC X.K X.mg minD) := by
  intro pins s σ H xs us Q I r h
  obtain ⟨v, w, rfl, B, F, ad, σ', δ, d, d2, r', δ', S, vw, vw2, e, k⟩ := rDC2 h
  refine call_min2 hc pins s σ H _ us Q I r ?_
  split at e
  · cases e
    exact ⟨_, _, by rw [show v = _ from vw, show w = _ from vw2], here (d := .int _) S rfl k⟩
  · cases e
def intD : CF := g1 fun δ d => match d with
  | .int i => some (.fz (.int i), δ)
  | .bl b => some (.fz (.int (if b then 1 else 0)), δ)
  | _ => none
theorem oc_int : CallR X (.type "int") (rDC X.K X.mg intD) := by
  intro pins s σ H xs us Q I r h
  obtain ⟨v, rfl, B, F, ad, σ', δ, d, r', δ', S, vw, e, k⟩ := rDC1 h
  refine call_int1 pins s σ H _ us Q I r ?_
  cases d with
  | int i =>
    cases e
    exact .inl ⟨i, by rw [show v = .int i from vw], here (d := .int _) S rfl k⟩
  | bl i =>
    cases e
    exact .inr ⟨i, by rw [show v = .bl i from vw], here (d := .int _) S rfl k⟩
  | _ => cases e
def listD (m : Bool) : CF := g1 fun δ d => match d with
  | .lst ds => some (mk m ds δ)
  | .tup ds => some (mk m ds δ)
  | _ => none
theorem oc_list (m : Bool) : CallR X (.type "list") (rDC X.K X.mg (listD m)) := by
  intro pins s σ H xs us Q I r h
  obtain ⟨v, rfl, B, F, ad, σ', δ, d, r', δ', S, vw, e, k⟩ := rDC1 h
  refine call_list_of pins s σ H _ us Q I r ?_
  cases d with
  | lst ds =>
    have e' := Option.some.inj e
    obtain ⟨q, xs, h1, h2, h3⟩ := vw
    refine ⟨q, xs, by rw [h1], .inl (SqL.of h2), fun z hz => mk_ok (m := m) S hz h3 fun B' ad' v' H' s4 p4 S' r' => ?_⟩
    rw [e'] at S' r'
    exact k B' ad' v' H' s4 p4 S' r'
  | tup ds =>
    have e' := Option.some.inj e
    obtain ⟨q, xs, h1, h2, h3⟩ := vw
    refine ⟨q, xs, by rw [h1], .inr (SqT.of (S.exB _ _ h2)), fun z hz => mk_ok (m := m) S hz h3 fun B' ad' v' H' s4 p4 S' r' => ?_⟩
    rw [e'] at S' r'
    exact k B' ad' v' H' s4 p4 S' r'
  | _ => cases e
def tupD : CF := g1 fun δ d => match d with
  | .lst ds => some (.fz (.tup ds), δ)
  | .tup ds => some (.fz (.tup ds), δ)
  | _ => none
def intsD : List D → Option (List Int)
  | [] => some []
  | .int i :: ds => (intsD ds).map fun r => i :: r
  | _ :: _ => none
def bls : List D → Option (List Bool)
  | [] => some []
  | .bl i :: ds => (bls ds).map fun r => i :: r
  | _ :: _ => none
theorem ints_rps {K : PySem.W.Frag} {mg : Str → Option Value} {B : Hp} : ∀ {ds : List D} {xs : List V} {ns : List Int}, Rps K mg B ds xs → intsD ds = some ns → xs = ns.map V.int
  | [], xs, ns, h, e => by
    have h' : xs = [] := h
    subst h'
    cases e
    rfl
  | d :: ds, xs, ns, h, e => by
    obtain ⟨v, r, rfl, h2, h3⟩ := h
    cases d with
    | int i =>
      simp only [intsD] at e
      obtain ⟨ms, e1, e2⟩ := Option.map_eq_some_iff.mp e
      subst e2
      rw [ints_rps h3 e1, show v = .int i from h2]
      rfl
    | _ => simp only [intsD] at e; cases e
theorem bls_rps {K : PySem.W.Frag} {mg : Str → Option Value} {B : Hp} : ∀ {ds : List D} {xs : List V} {ns : List Bool}, Rps K mg B ds xs → bls ds = some ns → xs = ns.map V.bl
  | [], xs, ns, h, e => by
    have h' : xs = [] := h
    subst h'
    cases e
    rfl
  | d :: ds, xs, ns, h, e => by
    obtain ⟨v, r, rfl, h2, h3⟩ := h
    cases d with
    | bl i =>
      simp only [bls] at e
      obtain ⟨ms, e1, e2⟩ := Option.map_eq_some_iff.mp e
      subst e2
      rw [bls_rps h3 e1, show v = .bl i from h2]
      rfl
    | _ => simp only [bls] at e; cases e
def sumD : CF := g1 fun δ d => match d with
  | .lst ds => (intsD ds).map fun ns => (.fz (.int ns.sum), δ)
  | _ => none
theorem oc_sum (hc : X.calm = true) : CallR X (.builtin "sum") (rDC X.K X.mg sumD) := by
  intro pins s σ H xs us Q I r h
  obtain ⟨v, rfl, B, F, ad, σ', δ, d, r', δ', S, vw, e, k⟩ := rDC1 h
  refine cr_sum hc pins s σ H _ us Q I r ?_
  cases d with
  | lst ds =>
    obtain ⟨ns, e1, e2⟩ := Option.map_eq_some_iff.mp e
    cases e2
    obtain ⟨q, xs, h1, h2, h3⟩ := vw
    have := ints_rps h3 e1
    subst this
    exact ⟨q, ns, by rw [h1], SqL.of h2, here (d := .int _) S rfl k⟩
  | _ => cases e
def allD : CF := g1 fun δ d => match d with
  | .lst ds => (bls ds).map fun ns => (.fz (.bl (ns.all id)), δ)
  | _ => none
/-! isinstance(e, T), T a built-in type -/
def tyD : D → Option String
  | .non => some "NoneType"
  | .bl _ => some "bool"
  | .int _ => some "int"
  | .str _ => some "str"
  | .lst _ => some "list"
  | .tup _ => some "tuple"
  | _ => none
def dIsi (T : String) (f : EF) : EF := fun δ => (f δ).bind fun p => (der p.2 p.1).bind fun d => (tyD d).bind fun t => (kitB t T).map fun b => (.fz (.bl b), p.2)
end
end PK
namespace PK
open PySem L2
/-! ### defs: what they promise -/
inductive Res where
  | val (d : D) | fresh (ds : List D)
inductive Fl where
  | nx | bk | ct | rt (r : Vl)
abbrev GF := List Vl → List (List D) → Option (Res × List (List D))
abbrev SF := Dl → Option (Fl × Dl)
def ResOk (K : PySem.W.Frag) (mg : Str → Option Value) (B F : Hp) (ad : List Addr) (cs : List (List D)) (H : Hp) (v : V) : Res → Prop
  | .val d => SRep K mg B F ad [] ⟨[], cs.map some⟩ H ∧ Rp K mg B d v
  | .fresh es => ∃ p, v = .ref p ∧ SRep K mg B F (ad ++ [p]) [] ⟨[], (cs ++ [es]).map some⟩ H
def spD (K : PySem.W.Frag) (mg : Str → Option Value) (n : Nat) (G : GF) : Sp := fun vs H Q _ => vs.length = n ∧ ∃ B F ad rs cs r cs', SRep K mg B F ad [] ⟨[], cs.map some⟩ H ∧ RpVs K mg B ad rs vs ∧ G rs cs = some (r, cs') ∧ cs'.length = cs.length ∧
  ∀ B' v H', Same B B' → ResOk K mg B' F ad cs' H' v r → Q v H'
/-! ### a call -/
def refs : List Vl → List Nat
  | [] => []
  | .rf k :: rs => k :: refs rs
  | .fz _ :: rs => refs rs
  | .nl _ :: rs => 0 :: 0 :: refs rs
def renum (n : Nat) : List Vl → List Vl
  | [] => []
  | .rf _ :: rs => .rf n :: renum (n + 1) rs
  | .fz d :: rs => .fz d :: renum n rs
  | .nl ks :: rs => .nl ks :: renum n rs
/-- the lists that a slot speaks of -/
def Vl.lt (n : Nat) : Vl → Prop
  | .fz _ => True
  | .rf k => k < n
  | .nl ks => ∀ k ∈ ks, k < n
def lives (δ : Dl) : List Nat → Option (List (List D))
  | [] => some []
  | k :: ks => match δ.st[k]?, lives δ ks with
    | some (some ds), some r => some (ds :: r)
    | _, _ => none
def putAll (st : List (Option (List D))) : List Nat → List (List D) → List (Option (List D))
  | k :: ks, c :: cs => putAll (st.set k (some c)) ks cs
  | _, _ => st
def callG (m : Bool) (G : GF) (rs : List Vl) (δ : Dl) : Option (Vl × Dl) := if (refs rs).Nodup then (lives δ (refs rs)).bind fun cs => (G (renum 0 rs) cs).bind fun q => if q.2.length = cs.length then
    (match q.1 with
    | .val d => some (.fz d, { δ with st := putAll δ.st (refs rs) q.2 })
    | .fresh es => some (mk m es { δ with st := putAll δ.st (refs rs) q.2 }))
    else none
  else none
theorem putAll_length : ∀ (ks : List Nat) (cs : List (List D)) (st : List (Option (List D))), (putAll st ks cs).length = st.length
  | [], _, _ => rfl
  | _ :: _, [], _ => rfl
  | k :: ks, c :: cs, st => by
    show (putAll (st.set k (some c)) ks cs).length = _
    rw [putAll_length]
    simp
theorem putAll_out : ∀ (ks : List Nat) (cs : List (List D)) (st : List (Option (List D))) (j : Nat), j ∉ ks → (putAll st ks cs)[j]? = st[j]?
  | [], _, _, _, _ => rfl
  | _ :: _, [], _, _, _ => rfl
  | k :: ks, c :: cs, st, j, h => by
    show (putAll (st.set k (some c)) ks cs)[j]? = _
    rw [putAll_out ks cs _ j (fun z => h (List.mem_cons_of_mem _ z)), List.getElem?_set_ne (fun z => h (by rw [z]; exact List.mem_cons_self))]
theorem putAll_in : ∀ (ks : List Nat) (cs : List (List D)) (st : List (Option (List D))) (i k : Nat), ks.Nodup → ks[i]? = some k → cs.length = ks.length → k < st.length → (putAll st ks cs)[k]? = (cs[i]?).map some
  | [], _, _, i, k, _, h, _, _ => by simp at h
  | k0 :: ks, [], st, i, k, _, h, hl, _ => by simp at hl
  | k0 :: ks, c :: cs, st, 0, k, hn, h, hl, hk => by
    simp at h
    subst h
    show (putAll (st.set k0 (some c)) ks cs)[k0]? = _
    rw [putAll_out ks cs _ k0 (List.nodup_cons.mp hn).1, List.getElem?_set_self hk]
    rfl
  | k0 :: ks, c :: cs, st, i + 1, k, hn, h, hl, hk => by
    show (putAll (st.set k0 (some c)) ks cs)[k]? = _
    have h' : ks[i]? = some k := by simpa using h
    rw [putAll_in ks cs _ i k (List.nodup_cons.mp hn).2 h' (by simpa using hl) (by simpa using hk)]
    simp
theorem lives_get {δ : Dl} : ∀ {ks : List Nat} {cs : List (List D)}, lives δ ks = some cs → cs.length = ks.length ∧ ∀ (i k : Nat), ks[i]? = some k → ∃ c, cs[i]? = some c ∧ δ.st[k]? = some (some c)
  | [], cs, h => by
    simp only [lives] at h
    cases h
    exact ⟨rfl, fun i k e => by simp at e⟩
  | k0 :: ks, cs, h => by
    simp only [lives] at h
    split at h
    · rename_i ds r h1 h2
      cases h
      obtain ⟨l, g⟩ := lives_get h2
      refine ⟨by simp [l], fun i k e => ?_⟩
      cases i with
      | zero =>
        simp at e
        subst e
        exact ⟨ds, rfl, h1⟩
      | succ i =>
        obtain ⟨c, g1, g2⟩ := g i k (by simpa using e)
        exact ⟨c, by simpa using g1, g2⟩
    · cases h
section
variable {K : PySem.W.Frag} {mg : Str → Option Value} {B B' F : Hp} {ad ad' : List Addr} {σ : L2.St} {δ δ' : Dl} {H H' : Hp} {p : Addr}
/-- the addresses of some of the lists -/
def addrs (ad : List Addr) (ks : List Nat) : List Addr := ks.filterMap fun k => ad[k]?
open Classical in
/-- the frame of a callee: ours, and our other lists -/
noncomputable def frameOf (F : Hp) (ad : List Addr) (δ : Dl) (ks : List Nat) (H : Hp) : Hp := fun a => if (∃ (k : Nat) (ds : List D), k ∉ ks ∧ ad[k]? = some a ∧ δ.st[k]? = some (some ds)) then H a else F a
theorem addrs_get {ks : List Nat} (hk : ∀ k ∈ ks, k < ad.length) : (addrs ad ks).length = ks.length ∧ ∀ (i k : Nat), ks[i]? = some k → (addrs ad ks)[i]? = ad[k]? := by
  unfold addrs
  induction ks with
  | nil => exact ⟨rfl, fun i k e => by simp at e⟩
  | cons k0 ks ih =>
    have h0 : k0 < ad.length := hk k0 List.mem_cons_self
    obtain ⟨l, g⟩ := ih fun k hk' => hk k (List.mem_cons_of_mem _ hk')
    have e0 : ad[k0]? = some ad[k0] := List.getElem?_eq_getElem h0
    rw [List.filterMap_cons, e0]
    refine ⟨by simp [l], fun i k e => ?_⟩
    cases i with
    | zero =>
      simp at e
      subst e
      rw [e0]; rfl
    | succ i => exact g i k (by simpa using e)
theorem addrs_nodup (hn : ad.Nodup) : ∀ {ks : List Nat}, ks.Nodup → (addrs ad ks).Nodup := by
  intro ks
  unfold addrs
  induction ks with
  | nil => intro _; exact List.nodup_nil
  | cons k0 ks ih =>
    intro h
    obtain ⟨h1, h2⟩ := List.nodup_cons.mp h
    rw [List.filterMap_cons]
    cases e : ad[k0]? with
    | none => exact ih h2
    | some a =>
      refine List.nodup_cons.mpr ⟨fun z => ?_, ih h2⟩
      obtain ⟨k, hk, ek⟩ := List.mem_filterMap.mp z
      obtain ⟨l1, e1⟩ := List.getElem?_eq_some_iff.mp e
      obtain ⟨l2, e2⟩ := List.getElem?_eq_some_iff.mp ek
      have : k0 = k := (List.getElem_inj hn).mp (e1.trans e2.symm)
      exact h1 (by rw [this]; exact hk)
theorem SRep.live_lt (S : SRep K mg B F ad σ δ H) {ks : List Nat} {cs : List (List D)} (h : lives δ ks = some cs) : ∀ k ∈ ks, k < ad.length := fun k hk => by
  obtain ⟨i, hi⟩ := List.getElem?_of_mem hk
  obtain ⟨c, _, e⟩ := (lives_get h).2 i k hi
  rw [S.len]
  exact (List.getElem?_eq_some_iff.mp e).1
theorem SRep.addr_inj (S : SRep K mg B F ad σ δ H) {i j : Nat} {a : Addr} (h1 : ad[i]? = some a) (h2 : ad[j]? = some a) : i = j := by
  obtain ⟨l1, e1⟩ := List.getElem?_eq_some_iff.mp h1
  obtain ⟨l2, e2⟩ := List.getElem?_eq_some_iff.mp h2
  exact (List.getElem_inj S.nd).mp (e1.trans e2.symm)
/-- what a callee gets -/
theorem SRep.down (S : SRep K mg B F ad σ δ H) {ks : List Nat} {cs : List (List D)} (h : lives δ ks = some cs) (hn : ks.Nodup) : SRep K mg B (frameOf F ad δ ks H) (addrs ad ks) [] ⟨[], cs.map some⟩ H where
  exB := S.exB
  exF := fun a o e => by
    unfold frameOf at e
    split at e
    · exact e
    · exact S.exF a o e
  dis := fun a o e => by
    unfold frameOf at e
    split at e
    · rename_i hx
      obtain ⟨k, ds, _, h1, h2⟩ := hx
      obtain ⟨q, xs, g1, g2, _, g4, _⟩ := S.cell k ds h2
      rw [h1] at g1
      cases g1
      exact g4
    · exact S.dis a o e
  nd := addrs_nodup S.nd hn
  len := by
    rw [(addrs_get (S.live_lt h)).1, List.length_map, (lives_get h).1]
  slen := rfl
  cell := fun i ds e => by
    have e' : (cs.map some)[i]? = some (some ds) := e
    rw [List.getElem?_map] at e'
    obtain ⟨c, e1, e2⟩ := Option.map_eq_some_iff.mp e'
    cases e2
    have hi : i < ks.length := by
      rw [← (lives_get h).1]
      exact (List.getElem?_eq_some_iff.mp e1).1
    obtain ⟨c', g1, g2⟩ := (lives_get h).2 i ks[i] (List.getElem?_eq_getElem hi)
    rw [e1] at g1
    cases g1
    obtain ⟨q, xs, h1, h2, h3, h4, h5⟩ := S.cell _ _ g2
    refine ⟨q, xs, by rw [(addrs_get (S.live_lt h)).2 i _ (List.getElem?_eq_getElem hi)]; exact h1, h2, h3, h4, ?_⟩
    unfold frameOf
    rw [if_neg]
    · exact h5
    · rintro ⟨k, ds, hk, k1, k2⟩
      have := S.addr_inj k1 h1
      subst this
      exact hk (List.getElem_mem hi)
  dead := fun i q h1 h2 => by
    have h2' : (cs.map some)[i]? = some none := h2
    rw [List.getElem?_map] at h2'
    obtain ⟨c, _, e2⟩ := Option.map_eq_some_iff.mp h2'
    cases e2
  slot := fun i d e => by simp at e
/-- what comes back -/
theorem SRep.up (S : SRep K mg B F ad σ δ H) {ks : List Nat} {cs cs' : List (List D)} (h : lives δ ks = some cs) (hn : ks.Nodup) (hl : cs'.length = cs.length) (sB : Same B B') {m : List Addr} {ms : List (List D)}
    (S' : SRep K mg B' (frameOf F ad δ ks H) (addrs ad ks ++ m) [] ⟨[], (cs' ++ ms).map some⟩ H') : SRep K mg B' F (ad ++ m) σ { δ with st := putAll δ.st ks cs' ++ ms.map some } H' := by
  have hg := lives_get h
  have ha := addrs_get (S.live_lt h)
  have hal : (addrs ad ks).length = cs'.length := by rw [ha.1, hl, hg.1]
  have hml : m.length = ms.length := by
    have := S'.len
    simp only [List.length_append, List.length_map] at this
    omega
  have fF : ∀ a o, F a = some o → frameOf F ad δ ks H a = some o := fun a o e => by
    unfold frameOf
    split
    · rename_i hx
      obtain ⟨k, ds, _, h1, h2⟩ := hx
      obtain ⟨q, xs, g1, g2, _, g4, g5⟩ := S.cell k ds h2
      rw [h1] at g1
      cases g1
      rw [g5] at e
      cases e
    · exact e
  have fC : ∀ (k : Nat) (ds : List D) (q : Addr), k ∉ ks → ad[k]? = some q → δ.st[k]? = some (some ds) → frameOf F ad δ ks H q = H q := fun k ds q h1 h2 h3 => by
    unfold frameOf
    rw [if_pos ⟨k, ds, h1, h2, h3⟩]
  -- our lists are not the new ones
  have hnew : ∀ a ∈ ad, ∀ b ∈ m, a ≠ b := fun a haa b hb z => by
    subst z
    obtain ⟨k, hk⟩ := List.getElem?_of_mem haa
    have hkl : k < δ.st.length := by rw [← S.len]; exact (List.getElem?_eq_some_iff.mp hk).1
    obtain ⟨j, hj⟩ := List.getElem?_of_mem hb
    have hjl : j < ms.length := by rw [← hml]; exact (List.getElem?_eq_some_iff.mp hj).1
    have e1 : (addrs ad ks ++ m)[(addrs ad ks).length + j]? = some a := by
      rw [List.getElem?_append_right (by omega)]
      simpa using hj
    have e2 : ((cs' ++ ms).map some)[(addrs ad ks).length + j]? = some (some ms[j]) := by
      rw [List.getElem?_map, List.getElem?_append_right (by omega), hal]
      simp [hjl]
    obtain ⟨q, xs, g1, g2, _, g4, g5⟩ := S'.cell _ _ e2
    rw [e1] at g1
    cases g1
    by_cases hks : k ∈ ks
    · obtain ⟨i, hi⟩ := List.getElem?_of_mem hks
      have hil : i < (addrs ad ks).length := by rw [ha.1]; exact (List.getElem?_eq_some_iff.mp hi).1
      have e3 : (addrs ad ks ++ m)[i]? = some a := by
        rw [List.getElem?_append_left hil, ha.2 i k hi]
        exact hk
      have := S'.addr_inj e1 e3
      omega
    · cases e : δ.st[k]? with
      | none => exact absurd (List.getElem?_eq_none_iff.mp e) (by omega)
      | some u =>
        cases u with
        | none =>
          have := S.dead k a hk e
          cases q : B a with
          | none => exact this q
          | some o =>
            rw [sB a o q] at g4
            cases g4
        | some ds =>
          obtain ⟨b, ys, k1, k2, _⟩ := S.cell k ds e
          rw [hk] at k1
          cases k1
          rw [fC k ds a hks hk e, k2] at g5
          cases g5
  refine ⟨S'.exB, fun a o e => S'.exF a o (fF a o e), fun a o e => S'.dis a o (fF a o e), ?_, ?_, S.slen, fun k ds e => ?_, fun k q h1 h2 => ?_, fun i d e => ?_⟩
  · rw [List.nodup_append]
    refine ⟨S.nd, ?_, hnew⟩
    have := S'.nd
    rw [List.nodup_append] at this
    exact this.2.1
  · simp only [List.length_append, List.length_map, putAll_length]
    rw [S.len, hml]
  · have e' : (putAll δ.st ks cs' ++ ms.map some)[k]? = some (some ds) := e
    by_cases hk : k < δ.st.length
    · rw [List.getElem?_append_left (by rw [putAll_length]; exact hk)] at e'
      by_cases hks : k ∈ ks
      · obtain ⟨i, hi⟩ := List.getElem?_of_mem hks
        rw [putAll_in ks cs' δ.st i k hn hi (by rw [hl, hg.1]) hk] at e'
        obtain ⟨c, e1, e2⟩ := Option.map_eq_some_iff.mp e'
        cases e2
        have hi' : i < (addrs ad ks).length := by rw [ha.1]; exact (List.getElem?_eq_some_iff.mp hi).1
        have e3 : ((cs' ++ ms).map some)[i]? = some (some ds) := by
          rw [List.getElem?_map, List.getElem?_append_left (by omega), e1]
          rfl
        obtain ⟨q, xs, g1, g2, g3, g4, g5⟩ := S'.cell i ds e3
        rw [List.getElem?_append_left hi', ha.2 i k hi] at g1
        refine ⟨q, xs, (Pre.app ad m).get g1, g2, g3, g4, ?_⟩
        cases z : F q with
        | none => rfl
        | some o =>
          rw [fF q o z] at g5
          cases g5
      · rw [putAll_out ks cs' δ.st k hks] at e'
        obtain ⟨q, xs, g1, g2, g3, g4, g5⟩ := S.cell k ds e'
        have f1 := fC k ds q hks g1 e'
        refine ⟨q, xs, (Pre.app ad m).get g1, ?_, Rps.mono sB ds xs g3, ?_, g5⟩
        · exact S'.exF q _ (by rw [f1]; exact g2)
        · exact S'.dis q (.lst xs) (by rw [f1]; exact g2)
    · rw [List.getElem?_append_right (by rw [putAll_length]; omega), putAll_length] at e'
      rw [List.getElem?_map] at e'
      obtain ⟨c, e1, e2⟩ := Option.map_eq_some_iff.mp e'
      cases e2
      have e3 : ((cs' ++ ms).map some)[cs'.length + (k - δ.st.length)]? = some (some ds) := by
        rw [List.getElem?_map, List.getElem?_append_right (by omega)]
        simp only [Nat.add_sub_cancel_left]
        rw [e1]
        rfl
      obtain ⟨q, xs, g1, g2, g3, g4, g5⟩ := S'.cell _ _ e3
      rw [List.getElem?_append_right (by omega)] at g1
      refine ⟨q, xs, ?_, g2, g3, g4, ?_⟩
      · rw [List.getElem?_append_right (by rw [S.len]; omega), S.len]
        rw [hal] at g1
        simpa using g1
      · cases z : F q with
        | none => rfl
        | some o =>
          rw [fF q o z] at g5
          cases g5
  · have h2' : (putAll δ.st ks cs' ++ ms.map some)[k]? = some none := h2
    by_cases hk : k < δ.st.length
    · rw [List.getElem?_append_left (by rw [putAll_length]; exact hk)] at h2'
      rw [List.getElem?_append_left (by rw [S.len]; exact hk)] at h1
      by_cases hks : k ∈ ks
      · obtain ⟨i, hi⟩ := List.getElem?_of_mem hks
        rw [putAll_in ks cs' δ.st i k hn hi (by rw [hl, hg.1]) hk] at h2'
        obtain ⟨c, e1, e2⟩ := Option.map_eq_some_iff.mp h2'
        cases e2
      · rw [putAll_out ks cs' δ.st k hks] at h2'
        have := S.dead k q h1 h2'
        intro z
        cases w : B q with
        | none => exact this w
        | some o =>
          rw [sB q o w] at z
          cases z
    · rw [List.getElem?_append_right (by rw [putAll_length]; omega), putAll_length, List.getElem?_map] at h2'
      obtain ⟨c, e1, e2⟩ := Option.map_eq_some_iff.mp h2'
      cases e2
  · obtain ⟨v, g1, g2⟩ := S.slot i d e
    exact ⟨v, g1, g2.mono sB (Pre.app _ _)⟩
/-- the last of our lists frozen and let go -/
theorem SRep.lastFrozen {es : List D} {st : List (Option (List D))} (S : SRep K mg B F (ad ++ [p]) σ { δ with st := st ++ [some es] } H) (hl : ad.length = st.length) (hs : ∀ (i : Nat) (r : Vl), δ.sl[i]? = some (some r) → r.lt ad.length) :
    ∃ B', Same B B' ∧ SRep K mg B' F ad σ { δ with st := st } H ∧ Rp K mg B' (.lst es) (.ref p) := by
  have e1 : ({ δ with st := st ++ [some es] } : Dl).st[st.length]? = some (some es) := by simp
  have e2 : (ad ++ [p])[st.length]? = some p := by rw [← hl]; simp
  obtain ⟨q, xs, g1, g2, g3, g4, g5⟩ := S.cell _ _ e1
  rw [e2] at g1
  cases g1
  obtain ⟨S1, s1⟩ := S.freeze e1 e2 g2
  have hst : ({ δ with st := st ++ [some es] } : Dl).st.set st.length none = st ++ [none] := by
    show (st ++ [some es]).set st.length none = _
    rw [List.set_append_right _ _ (Nat.le_refl _)]
    simp
  refine ⟨_, s1, ⟨S1.exB, S1.exF, S1.dis, ?_, hl, S1.slen, fun k ds e => ?_, fun k q h1 h2 => ?_, fun i d e => ?_⟩, p, xs, rfl, upd_same, Rps.mono s1 es xs g3⟩
  · have := S1.nd
    rw [List.nodup_append] at this
    exact this.1
  · have e' : st[k]? = some (some ds) := e
    have hk : k < st.length := (List.getElem?_eq_some_iff.mp e').1
    obtain ⟨q, xs', k1, k2⟩ := S1.cell k ds (by
      show (({ δ with st := st ++ [some es] } : Dl).st.set st.length none)[k]? = _
      rw [hst, List.getElem?_append_left hk]
      exact e')
    rw [List.getElem?_append_left (by omega)] at k1
    exact ⟨q, xs', k1, k2⟩
  · have h2' : st[k]? = some none := h2
    have hk : k < st.length := (List.getElem?_eq_some_iff.mp h2').1
    refine S1.dead k q ?_ ?_
    · rw [List.getElem?_append_left (by omega)]; exact h1
    · show (({ δ with st := st ++ [some es] } : Dl).st.set st.length none)[k]? = _
      rw [hst, List.getElem?_append_left hk]
      exact h2'
  · obtain ⟨v, k1, k2⟩ := S1.slot i d e
    refine ⟨v, k1, ?_⟩
    cases d with
    | fz d => exact k2
    | rf k =>
      obtain ⟨a, z1, z2⟩ := k2
      rw [List.getElem?_append_left (show k < ad.length from hs i _ e)] at z2
      exact ⟨a, z1, z2⟩
    | nl ks =>
      obtain ⟨a, as, z1, z2, z3⟩ := k2
      refine ⟨a, as, z1, z2, z3.trans (List.map_congr_left fun k hk => ?_)⟩
      exact List.getElem?_append_left (show k < ad.length from hs i _ e k hk)
theorem SRep.slot_lt (S : SRep K mg B F ad σ δ H) : ∀ (i : Nat) (r : Vl), δ.sl[i]? = some (some r) → r.lt ad.length := fun i r e => by
  cases r with
  | fz d => trivial
  | rf k =>
    obtain ⟨v, _, a, _, h⟩ := S.slot i _ e
    exact (List.getElem?_eq_some_iff.mp h).1
  | nl ks =>
    obtain ⟨v, _, a, as, _, _, h⟩ := S.slot i _ e
    intro k hk
    have : ad[k]? ∈ as.map some := by
      rw [h]
      exact List.mem_map_of_mem hk
    obtain ⟨b, _, hb⟩ := List.mem_map.mp this
    exact (List.getElem?_eq_some_iff.mp hb.symm).1
theorem renum_ok : ∀ {rs : List Vl} {vs : List V} {ks : List Nat}, (refs rs).Nodup → (∀ k ∈ ks ++ refs rs, k < ad.length) → RpVs K mg B ad rs vs → RpVs K mg B (addrs ad (ks ++ refs rs)) (renum ks.length rs) vs
  | [], vs, ks, _, hk, h => h
  | .nl _ :: rs, vs, ks, hd, hk, h => by
    have hd' : (0 :: 0 :: refs rs).Nodup := hd
    simp at hd'
  | .fz d :: rs, vs, ks, hd, hk, h => by
    obtain ⟨v, r, rfl, h2, h3⟩ := h
    exact ⟨v, r, rfl, h2, renum_ok (rs := rs) hd hk h3⟩
  | .rf k :: rs, vs, ks, hd, hk, h => by
    have hd' : (k :: refs rs).Nodup := hd
    obtain ⟨v, r, rfl, ⟨a, rfl, h2⟩, h3⟩ := h
    refine ⟨.ref a, r, rfl, ⟨a, rfl, ?_⟩, ?_⟩
    · show (addrs ad (ks ++ k :: refs rs))[ks.length]? = some a
      have hk' : ∀ j ∈ ks ++ k :: refs rs, j < ad.length := hk
      rw [(addrs_get hk').2 ks.length k (by simp)]
      exact h2
    · have e : ks ++ refs (.rf k :: rs) = (ks ++ [k]) ++ refs rs := by simp [refs]
      have := renum_ok (rs := rs) (ks := ks ++ [k]) (List.nodup_cons.mp hd').2 (by rw [← e]; exact hk) h3
      rw [List.length_append, List.length_singleton] at this
      rw [e]
      exact this
/-- THE CALL -/
theorem call_w {m : Bool} {G : GF} {rs : List Vl} {vs : List V} {r : Vl} {n : Nat} {Q : VK} {E : XK} (S : SRep K mg B F ad σ δ H) (hv : RpVs K mg B ad rs vs) (hn : vs.length = n) (e : callG m G rs δ = some (r, δ'))
    (k : ∀ B' ad' v H', Same B B' → Pre ad ad' → SRep K mg B' F ad' σ δ' H' → RpV K mg B' ad' r v → Q v H') : spD K mg n G vs H Q E := by
  unfold callG at e
  split at e
  · rename_i hnd
    obtain ⟨cs, e1, e⟩ := Option.bind_eq_some_iff.mp e
    obtain ⟨⟨q, cs'⟩, e2, e⟩ := Option.bind_eq_some_iff.mp e
    split at e
    · rename_i hl
      have hl' : cs'.length = cs.length := hl
      have hlt := S.live_lt e1
      refine ⟨hn, B, frameOf F ad δ (refs rs) H, addrs ad (refs rs), renum 0 rs, cs, q, cs', S.down e1 hnd, ?_, e2, hl', fun B' v H' sB hr => ?_⟩
      · exact renum_ok (ks := []) hnd (by simpa using hlt) hv
      · cases q with
        | val d =>
          cases e
          obtain ⟨S', r'⟩ := hr
          have S2 := S.up (m := []) (ms := []) e1 hnd hl' sB (by simpa using S')
          simp only [List.append_nil, List.map_nil] at S2
          exact k B' ad v H' sB (Pre.refl _) S2 r'
        | fresh es =>
          obtain ⟨p, rfl, S'⟩ := hr
          have S2 := S.up (m := [p]) (ms := [es]) e1 hnd hl' sB S'
          have hpl : ad.length = (putAll δ.st (refs rs) cs').length := by rw [putAll_length, S.len]
          cases m with
          | true =>
            cases e
            refine k B' (ad ++ [p]) _ H' sB (Pre.app _ _) S2 ⟨p, rfl, ?_⟩
            rw [← hpl]
            simp
          | false =>
            cases e
            obtain ⟨B2, s2, S3, r3⟩ := SRep.lastFrozen (δ := δ) S2 hpl S.slot_lt
            exact k B2 ad _ H' (sB.trans s2) (Pre.refl _) S3 r3
    · cases e
  · cases e
end
section
variable {X : Cx} {e o : Expr} {f fo : EF} {pos p apos : Pos} {es : List Expr} {fs : AF}
theorem RpVs.length {K : PySem.W.Frag} {mg : Str → Option Value} {B : Hp} {ad : List Addr} : ∀ {rs : List Vl} {vs : List V}, RpVs K mg B ad rs vs → vs.length = rs.length
  | [], vs, h => by
    have h' : vs = [] := h
    subst h'; rfl
  | r :: rs, vs, h => by
    obtain ⟨v, w, rfl, _, h3⟩ := h
    rw [List.length_cons, List.length_cons, h3.length]
def dCallN (m : Bool) (n : Nat) (G : GF) (fa : AF) : EF := fun δ => (fa δ).bind fun p => if p.1.length = n then callG m G p.1 p.2 else none
theorem pd_call {k n : Nat} {f : Addr} {fd : FuncData} {ps : List Str} {G : GF} {x : Str} (m : Bool) (Fk : FnOk X.prog X.w X.K X.mg X.base CX0 k f fd ps (spD X.K X.mg n G)) (hr : Room k X.A) (hg : Gl X x) (hm : X.mg x = some (.ref f)) (hk : PySem.W.keepIn X.K (.ref f) = true)
    (hb : Binds X.K fd ps []) (ha : PDA X (e :: es) fs) (hdb : (x == ("__debug__" : Str)) = false := by decide) (he : starEach (e :: es) X.env = (false, eval e X.env) :: starEach es X.env := by rfl)
    (hpl : (backTo pos (starEach es X.env)).any (·.1) = false := by rfl) : PD X (.Call (.Name x p) (e :: es) [] pos) (dCallN m n G fs) :=
  PE.weak (pe_call Fk hr hg hm hk hb .nil pass0 ha hdb he hpl) fun σ H Q h => by
    obtain ⟨B, F, ad, δ, r, δ', S, e, k⟩ := h
    unfold dCallN at e
    obtain ⟨⟨rs, δ1⟩, e1, e⟩ := Option.bind_eq_some_iff.mp e
    split at e
    · rename_i hl
      refine ⟨B, F, ad, δ, rs, δ1, S, e1, fun B1 ad1 vs H1 s1 p1 S1 r1 => ?_⟩
      show spD X.K X.mg n G (vs ++ []) H1 Q E0
      rw [List.append_nil]
      exact call_w S1 r1 (by rw [r1.length]; exact hl) e fun B' ad' v H' s2 p2 S' r' => k B' ad' v H' (s1.trans s2) (p1.trans p2) S' r'
    · cases e
end
end PK
namespace PK
open PySem L2
/-! ### statements -/
def FlOk (K : PySem.W.Frag) (mg : Str → Option Value) (B : Hp) (ad : List Addr) (D : Ends) (σ : L2.St) (H : Hp) : Fl → Prop
  | .nx => D.nx σ H
  | .bk => D.bk σ H
  | .ct => D.ct σ H
  | .rt r => ∀ v, RpV K mg B ad r v → D.rt v H
def sD (K : PySem.W.Frag) (mg : Str → Option Value) (f : SF) : TS := fun D σ H => ∃ B F ad δ fl δ', SRep K mg B F ad σ δ H ∧ f δ = some (fl, δ') ∧
  ∀ B' ad' σ' H', Same B B' → Pre ad ad' → SRep K mg B' F ad' σ' δ' H' → FlOk K mg B' ad' D σ' H' fl
abbrev PDS (X : Cx) (st : Stmt) (f : SF) := PS X st (sD X.K X.mg f)
abbrev PDSs (X : Cx) (st : List Stmt) (f : SF) := PSs X st (sD X.K X.mg f)
def sNext : SF := fun δ => some (.nx, δ)
def sSeq (f g : SF) : SF := fun δ => (f δ).bind fun p => match p.1 with
  | .nx => g p.2
  | fl => some (fl, p.2)
def sSet (i : Nat) (f : EF) : SF := fun δ => (f δ).map fun p => (.nx, { p.2 with sl := p.2.sl.set i (some p.1) })
def sDrop (f : EF) : SF := fun δ => (f δ).map fun p => (.nx, p.2)
def sRet (f : EF) : SF := fun δ => (f δ).map fun p => (.rt p.1, p.2)
def sRetN : SF := fun δ => some (.rt (.fz .non), δ)
def sIf (t : BF) (f g : SF) : SF := fun δ => (t δ).bind fun p => if p.1 then f p.2 else g p.2
def sBrk : SF := fun δ => some (.bk, δ)
def sCnt : SF := fun δ => some (.ct, δ)
def sNever : SF := fun _ => none
section
variable {X : Cx} {e a b c : Expr} {f fa fb fc : EF} {ft : BF} {st : Stmt} {rest s1 s2 : List Stmt} {g h u : SF} {pos : Pos}
theorem pds_nil : PDSs X [] sNext := PSs.weak pss_nil fun D σ H h => by
  obtain ⟨B, F, ad, δ, r, δ', S, e, k⟩ := h
  cases e
  exact k B ad σ H (Same.refl _) (Pre.refl _) S
theorem pds_cons (h1 : PDS X st g) (h2 : PDSs X rest h) : PDSs X (st :: rest) (sSeq g h) := PSs.weak (pss_cons h1 h2) fun D σ H h => by
  obtain ⟨B, F, ad, δ, r, δ', S, e, k⟩ := h
  unfold sSeq at e
  obtain ⟨⟨fl, δ1⟩, e1, e⟩ := Option.bind_eq_some_iff.mp e
  refine ⟨B, F, ad, δ, fl, δ1, S, e1, fun B1 ad1 σ1 H1 q1 p1 S1 => ?_⟩
  cases fl with
  | nx => exact ⟨B1, F, ad1, δ1, r, δ', S1, e, fun B2 ad2 σ2 H2 q2 p2 S2 => k B2 ad2 σ2 H2 (q1.trans q2) (p1.trans p2) S2⟩
  | bk =>
    cases e
    exact k B1 ad1 σ1 H1 q1 p1 S1
  | ct =>
    cases e
    exact k B1 ad1 σ1 H1 q1 p1 S1
  | rt v =>
    cases e
    exact k B1 ad1 σ1 H1 q1 p1 S1
theorem pds_one (h1 : PDS X st g) : PDSs X [st] g := pss_one h1
theorem tSet_w {K : PySem.W.Frag} {mg : Str → Option Value} {i : Nat} {D : Ends} {σ : L2.St} {H : Hp} (h : sD K mg (sSet i f) D σ H) : tAsg (tD K mg f) (gName i) D σ H := by
  obtain ⟨B, F, ad, δ, r, δ', S, e, k⟩ := h
  unfold sSet at e
  obtain ⟨⟨x, δ1⟩, e1, e⟩ := Option.map_eq_some_iff.mp e
  cases e
  exact ⟨B, F, ad, δ, x, δ1, S, e1, fun B1 ad1 v H1 q1 p1 S1 r1 => k B1 ad1 _ H1 q1 p1 (S1.setS r1)⟩
theorem pds_set (i : Nat) {x : Str} {pos' : Pos} (he : PD X e f) (hN : X.N.Nodup) (hi : X.N[i]? = some x := by rfl) (hx : Loc X.env.scope x := by first | exact Or.inl rfl | exact Or.inr rfl) (hs : swapsWith e (some (.Name x pos')) pos.line X.env = pure false := by rfl)
    (hf : X.fn x = true ∨ X.env.scope.names.lookup x = some .local := by first | exact .inl rfl | exact .inr rfl) : PDS X (.Assign [.Name x pos'] e pos) (sSet i f) :=
  PS.weak (ps_set hN hi hx he hs hf) fun D σ H h => tSet_w h
theorem pds_drop (he : PD X e f) (hs : swapsWith e none pos.line X.env = pure false := by rfl) : PDS X (.Expr e pos) (sDrop f) := PS.weak (ps_expr he hs) fun D σ H h => by
  obtain ⟨B, F, ad, δ, r, δ', S, e, k⟩ := h
  unfold sDrop at e
  obtain ⟨⟨x, δ1⟩, e1, e⟩ := Option.map_eq_some_iff.mp e
  cases e
  exact ⟨B, F, ad, δ, x, δ1, S, e1, fun B1 ad1 v H1 q1 p1 S1 r1 => k B1 ad1 _ H1 q1 p1 S1⟩
theorem pds_ret (he : PD X e f) : PDS X (.Return (some e) pos) (sRet f) := PS.weak (ps_ret he) fun D σ H h => by
  obtain ⟨B, F, ad, δ, r, δ', S, e, k⟩ := h
  unfold sRet at e
  obtain ⟨⟨x, δ1⟩, e1, e⟩ := Option.map_eq_some_iff.mp e
  cases e
  exact ⟨B, F, ad, δ, x, δ1, S, e1, fun B1 ad1 v H1 q1 p1 S1 r1 => k B1 ad1 _ H1 q1 p1 S1 v r1⟩
theorem pds_if (ht : PDT X c ft) (h1 : PDSs X s1 g) (h2 : PDSs X s2 h) : PDS X (.If c s1 s2 pos) (sIf ft g h) := PS.weak (ps_if ht h1 h2) fun D σ H h => by
  obtain ⟨B, F, ad, δ, r, δ', S, e, k⟩ := h
  unfold sIf at e
  obtain ⟨⟨x, δ1⟩, e1, e⟩ := Option.bind_eq_some_iff.mp e
  refine ⟨B, F, ad, δ, x, δ1, S, e1, fun B1 ad1 H1 q1 p1 S1 => ?_⟩
  cases x with
  | true =>
    rw [if_pos rfl]
    exact ⟨B1, F, ad1, δ1, r, δ', S1, e, fun B2 ad2 σ2 H2 q2 p2 S2 => k B2 ad2 σ2 H2 (q1.trans q2) (p1.trans p2) S2⟩
  | false =>
    rw [if_neg Bool.false_ne_true]
    exact ⟨B1, F, ad1, δ1, r, δ', S1, e, fun B2 ad2 σ2 H2 q2 p2 S2 => k B2 ad2 σ2 H2 (q1.trans q2) (p1.trans p2) S2⟩
end
/-! ### targets -/
inductive TgP where
  | n (i : Nat) | t (is : List Nat)
inductive Tg where
  | nm (i : Nat) | tp (is : List Nat) | tn (ps : List TgP)
def setAll (δ : Dl) : List Nat → List D → Option Dl
  | [], [] => some δ
  | i :: is, d :: ds => setAll { δ with sl := δ.sl.set i (some (.fz d)) } is ds
  | _, _ => none
def setParts (δ : Dl) : List TgP → List D → Option Dl
  | [], [] => some δ
  | .n i :: ps, d :: ds => setParts { δ with sl := δ.sl.set i (some (.fz d)) } ps ds
  | .t is :: ps, .tup es :: ds => (setAll δ is es).bind fun δ' => setParts δ' ps ds
  | _, _ => none
def asgT (δ : Dl) : Tg → D → Option Dl
  | .nm i, d => some { δ with sl := δ.sl.set i (some (.fz d)) }
  | .tp is, .tup ds => setAll δ is ds
  | .tn ps, .tup ds => setParts δ ps ds
  | .tp _, _ => none
  | .tn _, _ => none
def gNames : List Nat → TGs
  | [] => gNil
  | i :: is => gCons (gName i) (gNames is)
def gParts (K : PySem.W.Frag) : List TgP → TGs
  | [] => gNil
  | .n i :: ps => gCons (gName i) (gParts K ps)
  | .t is :: ps => gCons (gTup K is.length (gNames is)) (gParts K ps)
def gTg (K : PySem.W.Frag) : Tg → TG
  | .nm i => gName i
  | .tp is => gTup K is.length (gNames is)
  | .tn ps => gTup K ps.length (gParts K ps)
def setV (σ : L2.St) : List Nat → List V → L2.St
  | i :: is, v :: vs => setV (σ.set i (some v)) is vs
  | _, _ => σ
section
variable {K : PySem.W.Frag} {mg : Str → Option Value} {B B' F : Hp} {ad ad' : List Addr} {σ : L2.St} {δ δ' : Dl} {H H' : Hp} {p : Addr}
theorem names_w : ∀ {is : List Nat} {ds : List D} {vs : List V} {σ : L2.St} {δ δ' : Dl} {Q : L2.St → Hp → Prop}, SRep K mg B F ad σ δ H → Rps K mg B ds vs → setAll δ is ds = some δ' → (SRep K mg B F ad (setV σ is vs) δ' H → Q (setV σ is vs) H) → gNames is vs σ H Q
  | [], ds, vs, σ, δ, δ', Q, S, r, e, k => by
    cases ds with
    | nil =>
      have h' : vs = [] := r
      subst h'
      simp only [setAll] at e
      cases e
      exact ⟨rfl, k S⟩
    | cons d ds => simp only [setAll] at e; cases e
  | i :: is, ds, vs, σ, δ, δ', Q, S, r, e, k => by
    cases ds with
    | nil => simp only [setAll] at e; cases e
    | cons d ds =>
      obtain ⟨v, w, rfl, h2, h3⟩ := r
      simp only [setAll] at e
      exact ⟨v, w, rfl, names_w (S.setS (d := .fz d) h2) h3 e k⟩
theorem tup_len {is : List Nat} : ∀ {δ δ' : Dl} {ds : List D}, setAll δ is ds = some δ' → ds.length = is.length := by
  induction is with
  | nil =>
    intro δ δ' ds e
    cases ds with
    | nil => rfl
    | cons d ds => simp only [setAll] at e; cases e
  | cons i is ih =>
    intro δ δ' ds e
    cases ds with
    | nil => simp only [setAll] at e; cases e
    | cons d ds =>
      simp only [setAll] at e
      rw [List.length_cons, List.length_cons, ih e]
def tgPs : List TgP → List Nat
  | [] => []
  | .n i :: ps => i :: tgPs ps
  | .t is :: ps => is ++ tgPs ps
theorem setV_app : ∀ {is js : List Nat} {xs ys : List V} {σ : L2.St}, xs.length = is.length → setV σ (is ++ js) (xs ++ ys) = setV (setV σ is xs) js ys
  | [], js, xs, ys, σ, h => by
    have : xs = [] := List.length_eq_zero_iff.mp h
    subst this
    cases js <;> rfl
  | i :: is, js, [], ys, σ, h => by cases h
  | i :: is, js, x :: xs, ys, σ, h => setV_app (is := is) (σ := σ.set i (some x)) (by simpa using h)
theorem parts_len : ∀ {ps : List TgP} {δ δ' : Dl} {ds : List D}, setParts δ ps ds = some δ' → ds.length = ps.length
  | [], δ, δ', ds, e => by
    cases ds with
    | nil => rfl
    | cons d ds => simp only [setParts] at e; cases e
  | .n i :: ps, δ, δ', ds, e => by
    cases ds with
    | nil => simp only [setParts] at e; cases e
    | cons d ds =>
      simp only [setParts] at e
      rw [List.length_cons, List.length_cons, parts_len e]
  | .t is :: ps, δ, δ', ds, e => by
    cases ds with
    | nil => simp only [setParts] at e; cases e
    | cons d ds =>
      cases d with
      | tup es =>
        simp only [setParts] at e
        obtain ⟨δ1, _, e2⟩ := Option.bind_eq_some_iff.mp e
        rw [List.length_cons, List.length_cons, parts_len e2]
      | _ => simp only [setParts] at e; cases e
theorem parts_w : ∀ {ps : List TgP} {ds : List D} {vs : List V} {σ : L2.St} {δ δ' : Dl} {Q : L2.St → Hp → Prop}, SRep K mg B F ad σ δ H → Rps K mg B ds vs → setParts δ ps ds = some δ' → (∀ ws, SRep K mg B F ad (setV σ (tgPs ps) ws) δ' H → Q (setV σ (tgPs ps) ws) H) → gParts K ps vs σ H Q
  | [], ds, vs, σ, δ, δ', Q, S, r, e, k => by
    cases ds with
    | nil =>
      have h' : vs = [] := r
      subst h'
      simp only [setParts] at e
      cases e
      exact ⟨rfl, k [] S⟩
    | cons d ds => simp only [setParts] at e; cases e
  | .n i :: ps, ds, vs, σ, δ, δ', Q, S, r, e, k => by
    cases ds with
    | nil => simp only [setParts] at e; cases e
    | cons d ds =>
      obtain ⟨v, w, rfl, h2, h3⟩ := r
      simp only [setParts] at e
      exact ⟨v, w, rfl, parts_w (S.setS (d := .fz d) h2) h3 e fun ws => k (v :: ws)⟩
  | .t is :: ps, ds, vs, σ, δ, δ', Q, S, r, e, k => by
    cases ds with
    | nil => simp only [setParts] at e; cases e
    | cons d ds =>
      cases d with
      | tup es =>
        simp only [setParts] at e
        obtain ⟨δ1, e1, e2⟩ := Option.bind_eq_some_iff.mp e
        obtain ⟨v, w, rfl, h2, h3⟩ := r
        obtain ⟨a, xs, rfl, g2, g3⟩ := h2
        have hl : xs.length = is.length := by rw [Rps.length g3, tup_len e1]
        refine ⟨_, w, rfl, a, xs, rfl, SqT.of (S.exB _ _ g2), hl, names_w S g3 e1 fun S1 => ?_⟩
        refine parts_w S1 h3 e2 fun ws => ?_
        have := k (xs ++ ws)
        rw [show tgPs (.t is :: ps) = is ++ tgPs ps from rfl, setV_app hl] at this
        exact this
      | _ => simp only [setParts] at e; cases e
/-- where a target stores -/
def tgs : Tg → List Nat
  | .nm i => [i]
  | .tp is => is
  | .tn ps => tgPs ps
theorem tg_w {tg : Tg} {d : D} {v : V} {Q : L2.St → Hp → Prop} (S : SRep K mg B F ad σ δ H) (r : Rp K mg B d v) (e : asgT δ tg d = some δ') (k : ∀ vs, SRep K mg B F ad (setV σ (tgs tg) vs) δ' H → Q (setV σ (tgs tg) vs) H) : gTg K tg v σ H Q := by
  cases tg with
  | nm i =>
    simp only [asgT] at e
    cases e
    exact k [v] (S.setS (d := .fz d) r)
  | tp is =>
    cases d with
    | tup ds =>
      simp only [asgT] at e
      obtain ⟨a, xs, rfl, h2, h3⟩ := r
      exact ⟨a, xs, rfl, SqT.of (S.exB _ _ h2), by rw [Rps.length h3, tup_len e], names_w S h3 e (k xs)⟩
    | _ => simp only [asgT] at e; cases e
  | tn ps =>
    cases d with
    | tup ds =>
      simp only [asgT] at e
      obtain ⟨a, xs, rfl, h2, h3⟩ := r
      exact ⟨a, xs, rfl, SqT.of (S.exB _ _ h2), by rw [Rps.length h3, parts_len e], parts_w S h3 e k⟩
    | _ => simp only [asgT] at e; cases e
theorem wipe_set {σ : L2.St} {vs : List Nat} {i : Nat} {x : V} (h : i ∈ vs) : wipe (σ.set i (some x)) vs = wipe σ vs := by
  induction vs with
  | nil => cases h
  | cons v vs ih =>
    unfold wipe
    by_cases hv : i ∈ vs
    · rw [ih hv]
    · have hi : i = v := by
        rcases List.mem_cons.mp h with z | z
        · exact z
        · exact absurd z hv
      subst hi
      clear ih h
      have key : ∀ (vs : List Nat) (σ : L2.St), i ∉ vs → wipe (σ.set i (some x)) vs = (wipe σ vs).set i (some x) := by
        intro vs
        induction vs with
        | nil => intro σ _; rfl
        | cons w vs ih =>
          intro σ hw
          unfold wipe
          rw [ih σ fun z => hw (List.mem_cons_of_mem _ z), List.set_comm _ _ (fun z => hw (by rw [z]; exact List.mem_cons_self))]
      rw [key vs σ hv, List.set_set]
theorem wipe_setV {vs : List Nat} : ∀ {is : List Nat} {xs : List V} {σ : L2.St}, (∀ i ∈ is, i ∈ vs) → wipe (setV σ is xs) vs = wipe σ vs
  | [], _, _, _ => rfl
  | i :: is, [], _, _ => rfl
  | i :: is, x :: xs, σ, h => by
    show wipe (setV (σ.set i (some x)) is xs) vs = _
    rw [wipe_setV (σ := σ.set i (some x)) fun j hj => h j (List.mem_cons_of_mem _ hj), wipe_set (h i List.mem_cons_self)]
theorem wipe_wipe {σ : L2.St} (vs : List Nat) : wipe (wipe σ vs) vs = wipe σ vs := by
  have key : ∀ (ws : List Nat) (τ : L2.St), (∀ i ∈ ws, ∀ x, τ[i]? = some x → x = none) → wipe τ ws = τ := by
    intro ws
    induction ws with
    | nil => intro τ _; rfl
    | cons w ws ih =>
      intro τ h
      unfold wipe
      rw [ih τ fun i hi => h i (List.mem_cons_of_mem _ hi)]
      cases e : τ[w]? with
      | none => exact List.set_eq_of_length_le (List.getElem?_eq_none_iff.mp e)
      | some x =>
        have hx := h w List.mem_cons_self x e
        subst hx
        obtain ⟨hl, hw⟩ := List.getElem?_eq_some_iff.mp e
        rw [← hw, List.set_getElem_self]
  apply key
  intro i hi x hx
  have : ∀ (ws : List Nat), i ∈ ws → ∀ x, (wipe σ ws)[i]? = some x → x = none := by
    intro ws
    induction ws with
    | nil => intro h; cases h
    | cons w ws ih =>
      intro h x hx
      unfold wipe at hx
      by_cases hw : w = i
      · subst hw
        obtain ⟨hl, _⟩ := List.getElem?_eq_some_iff.mp hx
        rw [List.getElem?_set_self (by simpa using hl)] at hx
        exact (Option.some.inj hx).symm
      · rw [List.getElem?_set_ne hw] at hx
        rcases List.mem_cons.mp h with z | z
        · exact absurd z.symm hw
        · exact ih z x hx
  exact this vs hi x hx
def wipeD (sl : List (Option Vl)) : List Nat → List (Option Vl)
  | [] => sl
  | v :: vs => (wipeD sl vs).set v none
theorem SRep.wiped (S : SRep K mg B F ad σ δ H) : ∀ vs : List Nat, SRep K mg B F ad (wipe σ vs) { δ with sl := wipeD δ.sl vs } H
  | [] => S
  | v :: vs => (S.wiped vs).dropS (i := v) (x := none)
/-- the slots of before over the objects of now -/
theorem SRep.reslot {B0 F0 : Hp} {ad0 : List Addr} {δ0 : Dl} {H0 : Hp} {σ' : L2.St} (S0 : SRep K mg B0 F0 ad0 σ δ0 H0) (s : Same B0 B) (p : Pre ad0 ad) (S : SRep K mg B F ad σ' δ H) : SRep K mg B F ad σ { δ with sl := δ0.sl } H :=
  ⟨S.exB, S.exF, S.dis, S.nd, S.len, S0.slen, S.cell, S.dead, fun i d e => by
    obtain ⟨v, h1, h2⟩ := S0.slot i d e
    exact ⟨v, h1, h2.mono s p⟩⟩
end
/-! ### what a loop walks -/
def CkOk (ck : List (Nat × List D)) (δ : Dl) : Prop := ∀ p ∈ ck, δ.st[p.1]? = some (some p.2)
abbrev IF := Dl → Option (List D × List (Nat × List D) × Dl)
def iD (K : PySem.W.Frag) (mg : Str → Option Value) (f : IF) : TI := fun σ H R => ∃ B F ad δ it ck δ', SRep K mg B F ad σ δ H ∧ f δ = some (it, ck, δ') ∧ CkOk ck δ' ∧
  ∀ B' ad' H' J G Y, Same B B' → Pre ad ad' → SRep K mg B' F ad' σ δ' H' → Walk J it.length G Y →
    (∀ B2 F2 ad2 σ2 δ2 H2, Same B' B2 → Pre ad' ad2 → SRep K mg B2 F2 ad2 σ2 δ2 H2 → CkOk ck δ2 → G H2) →
    (∀ i x B1 F1 ad1 σ1 δ1 H1 H2, Same B' B1 → Pre ad' ad1 → SRep K mg B1 F1 ad1 σ1 δ1 H1 → CkOk ck δ1 → i < it.length → Y i H1 x H2 → ∃ B2, Same B1 B2 ∧ SRep K mg B2 F1 ad1 σ1 δ1 H2 ∧ ∃ d, it[i]? = some d ∧ Rp K mg B2 d x) → R J H'
abbrev PDI (X : Cx) (tg iter : Expr) (f : IF) := PI X tg iter (iD X.K X.mg f)
theorem PI.weak {X : Cx} {tg iter : Expr} {t t' : TI} (h : PI X tg iter t) (w : ∀ σ H R, t' σ H R → t σ H R) : PI X tg iter t' := ⟨fun pins s σ H R I q => h.run pins s σ H R I (w σ H R q)⟩
open Classical in
noncomputable def forD (ck : List (Nat × List D)) (tg : Tg) (body : SF) : List D → Dl → Option (Fl × Dl)
  | [], δ => if CkOk ck δ then some (.nx, δ) else none
  | d :: ds, δ => if CkOk ck δ then (asgT δ tg d).bind fun δ1 => (body δ1).bind fun p => match p.1 with
      | .nx => forD ck tg body ds p.2
      | .ct => forD ck tg body ds p.2
      | .bk => some (.nx, p.2)
      | .rt r => some (.rt r, p.2)
    else none
noncomputable def sFor (fi : IF) (tg : Tg) (body : SF) : SF := fun δ => (fi δ).bind fun p => forD p.2.1 tg body p.1 p.2.2
section
variable {X : Cx} {tgE iter : Expr} {body : List Stmt} {fi : IF} {g : SF} {pos : Pos}
theorem forD_ck {ck : List (Nat × List D)} {tg : Tg} {body : SF} {ds : List D} {δ : Dl} {r : Fl × Dl} (h : forD ck tg body ds δ = some r) : CkOk ck δ := by
  cases ds with
  | nil =>
    rw [forD] at h
    split at h
    · assumption
    · cases h
  | cons d ds =>
    rw [forD] at h
    split at h
    · assumption
    · cases h
theorem pds_for (tg : Tg) (hi : PDI X tgE iter fi) (hg : PG X tgE (gTg X.K tg)) (hb : PDSs X body g) (hp : PassesOwn (model X.prog X.w) X.A X.env X.xe) (hc : X.calm = true)
    (hs : ∀ x, foldedSetIterable iter X.env x = pure x := by intro _; rfl) : PDS X (.For tgE iter body [] pos) (sFor fi tg g) := PS.weak (ps_for hp hc hi hg hb hs) fun D σ H h => by
  obtain ⟨B, F, ad, δ, r, δ', S, e, k⟩ := h
  unfold sFor at e
  obtain ⟨⟨it, ck, δ1⟩, e1, e⟩ := Option.bind_eq_some_iff.mp e
  refine ⟨B, F, ad, δ, it, ck, δ1, S, e1, forD_ck e, fun B1 ad1 H1 J G Y s1 p1 S1 W hG hY => ?_⟩
  refine for_it W (fun i σ' H' => ∃ B2 ad2 δ2, Same B1 B2 ∧ Pre ad1 ad2 ∧ SRep X.K X.mg B2 F ad2 σ' δ2 H' ∧ forD ck tg g (it.drop i) δ2 = some (r, δ')) ⟨B1, ad1, δ1, Same.refl _, Pre.refl _, S1, e⟩ ?_ ?_ ?_
  · rintro i σ' H' hi ⟨B2, ad2, δ2, s2, p2, S2, e2⟩
    exact hG B2 F ad2 σ' δ2 H' s2 p2 S2 (forD_ck e2)
  · rintro i x σ' H2 H3 hi ⟨B2, ad2, δ2, s2, p2, S2, e2⟩ hy
    obtain ⟨B3, s3, S3, d, hd, rd⟩ := hY i x B2 F ad2 σ' δ2 H2 H3 s2 p2 S2 (forD_ck e2) hi hy
    have hdr : it.drop i = d :: it.drop (i + 1) := by
      obtain ⟨hl, he⟩ := List.getElem?_eq_some_iff.mp hd
      rw [List.drop_eq_getElem_cons hl, he]
    have hck := forD_ck e2
    rw [hdr, forD, if_pos hck] at e2
    obtain ⟨δ3, e3, e2⟩ := Option.bind_eq_some_iff.mp e2
    obtain ⟨⟨fl, δ4⟩, e4, e2⟩ := Option.bind_eq_some_iff.mp e2
    refine tg_w S3 rd e3 fun vs S4 => ?_
    refine ⟨B3, F, ad2, δ3, fl, δ4, S4, e4, fun B5 ad5 σ5 H5 s5 p5 S5 => ?_⟩
    cases fl with
    | nx => exact ⟨B5, ad5, δ4, (s2.trans s3).trans s5, p2.trans p5, S5, e2⟩
    | ct => exact ⟨B5, ad5, δ4, (s2.trans s3).trans s5, p2.trans p5, S5, e2⟩
    | bk =>
      cases e2
      exact k B5 ad5 σ5 H5 (((s1.trans s2).trans s3).trans s5) ((p1.trans p2).trans p5) S5
    | rt v =>
      cases e2
      exact k B5 ad5 σ5 H5 (((s1.trans s2).trans s3).trans s5) ((p1.trans p2).trans p5) S5
  · rintro σ' H' ⟨B2, ad2, δ2, s2, p2, S2, e2⟩
    have hck := forD_ck e2
    rw [List.drop_length, forD, if_pos hck] at e2
    cases e2
    exact k B2 ad2 σ' H' (s1.trans s2) (p1.trans p2) S2
/-! the things that are walked -/
def srcOf (δ : Dl) : Vl → Option (List D × List (Nat × List D))
  | .fz (.lst ds) => some (ds, [])
  | .rf k => match δ.st[k]? with
    | some (some ds) => some (ds, [(k, ds)])
    | _ => none
  | _ => none
def iTupD (f : EF) : IF := fun δ => (f δ).bind fun p => match p.1 with
  | .fz (.tup ds) => some (ds, [], p.2)
  | _ => none
/-- a list that is walked stays as long as the check holds -/
theorem src_at {K : PySem.W.Frag} {mg : Str → Option Value} {B F : Hp} {ad : List Addr} {σ : L2.St} {δ : Dl} {H : Hp} {r : Vl} {v : V} {it : List D} {ck : List (Nat × List D)} (S : SRep K mg B F ad σ δ H) (hv : RpV K mg B ad r v) (h : srcOf δ r = some (it, ck)) :
    ∃ a xs, v = .ref a ∧ H a = some (.lst xs) ∧ Rps K mg B it xs ∧ xs.length = it.length ∧
      ∀ B2 F2 ad2 σ2 δ2 H2, Same B B2 → Pre ad ad2 → SRep K mg B2 F2 ad2 σ2 δ2 H2 → CkOk ck δ2 → ∃ ys, H2 a = some (.lst ys) ∧ Rps K mg B2 it ys := by
  cases r with
  | fz d =>
    cases d <;> simp only [srcOf] at h <;> cases h
    obtain ⟨a, xs, h1, h2, h3⟩ := hv
    exact ⟨a, xs, h1, S.exB _ _ h2, h3, Rps.length h3, fun B2 F2 ad2 σ2 δ2 H2 s2 p2 S2 _ => ⟨xs, S2.exB _ _ (s2 _ _ h2), Rps.mono s2 _ _ h3⟩⟩
  | rf k =>
    simp only [srcOf] at h
    split at h
    · rename_i ds hk
      cases h
      obtain ⟨a, h1, h2⟩ := hv
      obtain ⟨q, xs, g1, g2, g3, _, _⟩ := S.cell k _ hk
      rw [h2] at g1
      cases g1
      refine ⟨a, xs, h1, g2, g3, Rps.length g3, fun B2 F2 ad2 σ2 δ2 H2 s2 p2 S2 c => ?_⟩
      obtain ⟨q, ys, k1, k2, k3, _, _⟩ := S2.cell k _ (c (k, it) (by simp))
      rw [p2.get h2] at k1
      cases k1
      exact ⟨ys, k2, k3⟩
    · cases h
  | nl _ => cases h
/-- a walk whose list may have other values of the same data -/
theorem Walk.any {J : It} {n : Nat} {A : Hp → List V → Prop} {P : List V → Nat → Hp → V → Hp → Prop} (h : ∀ xs, xs.length = n → Walk J n (fun H => A H xs) (P xs)) : Walk J n (fun H => ∃ xs, xs.length = n ∧ A H xs) (fun i H x H' => ∃ xs, xs.length = n ∧ A H xs ∧ P xs i H x H') :=
  ⟨fun i H hi ⟨xs, hl, q⟩ => (h xs hl).goes i H hi q, fun H ⟨xs, hl, q⟩ => (h xs hl).stops H q, fun i H x H' hi ⟨xs, hl, q⟩ y => ⟨xs, hl, q, (h xs hl).yields i H x H' hi q y⟩⟩
theorem pdi_tup {f : EF} (h : PD X iter f) : PDI X tgE iter (iTupD f) := PI.weak (pi_tup h) fun σ H R h => by
  obtain ⟨B, F, ad, δ, it, ck, δ', S, e, hck, k⟩ := h
  unfold iTupD at e
  obtain ⟨⟨r, δ1⟩, e1, e⟩ := Option.bind_eq_some_iff.mp e
  refine ⟨B, F, ad, δ, r, δ1, S, e1, fun B1 ad1 v H1 s1 p1 S1 r1 => ?_⟩
  cases r with
  | rf k => cases e
  | nl _ => cases e
  | fz d =>
    cases d with
    | tup ds =>
      cases e
      obtain ⟨a, xs, h1, h2, h3⟩ := r1
      have hl := Rps.length h3
      refine ⟨a, h1, ⟨xs, SqT.of (S1.exB _ _ h2)⟩, ?_⟩
      refine k B1 ad1 H1 (Itt X.K a) (fun H => SqT X.K H a xs) (YAt xs) s1 p1 S1 (by rw [← hl]; exact walk_tup) ?_ ?_
      · intro B2 F2 ad2 σ2 δ2 H2 s2 p2 S2 c
        exact SqT.of (S2.exB _ _ (s2 _ _ h2))
      · rintro i x B2 F2 ad2 σ2 δ2 H2 H3 s2 p2 S2 c hi ⟨rfl, hx⟩
        obtain ⟨d, d1, d2⟩ := Rps.back h3 hx
        exact ⟨B2, Same.refl _, S2, d, d1, Rp.mono s2 d x d2⟩
    | _ => cases e
def rangeD (lo : Int) (n : Nat) : List D := (List.range n).map fun (i : Nat) => D.int (lo + (i : Int))
def okR (i : Int) : Prop := -(2 ^ 62) ≤ i ∧ i < 2 ^ 62
instance (i : Int) : Decidable (okR i) := by unfold okR; infer_instance
def iRg1 (f : EF) : IF := fun δ => (f δ).bind fun p => match p.1 with
  | .fz (.int n) => if okR n then some (rangeD 0 n.toNat, [], p.2) else none
  | _ => none
def iRg2 (f g : EF) : IF := fun δ => (f δ).bind fun p => (g p.2).bind fun q => match p.1, q.1 with
  | .fz (.int i), .fz (.int j) => if okR i ∧ okR j then some (rangeD i (j - i).toNat, [], q.2) else none
  | _, _ => none
theorem rangeD_len (lo : Int) (n : Nat) : (rangeD lo n).length = n := by simp [rangeD]
theorem rangeD_get {lo : Int} {n i : Nat} (h : i < n) : (rangeD lo n)[i]? = some (.int (lo + (i : Int))) := by
  unfold rangeD
  rw [List.getElem?_map, List.getElem?_range h]
  rfl
theorem range_k {K : PySem.W.Frag} {mg : Str → Option Value} {B F : Hp} {ad : List Addr} {σ : L2.St} {δ : Dl} {H : Hp} {lo : Int} {n : Nat} {R : It → Hp → Prop} (S : SRep K mg B F ad σ δ H)
    (k : ∀ B' ad' H' J G Y, Same B B' → Pre ad ad' → SRep K mg B' F ad' σ δ H' → Walk J (rangeD lo n).length G Y →
    (∀ B2 F2 ad2 σ2 δ2 H2, Same B' B2 → Pre ad' ad2 → SRep K mg B2 F2 ad2 σ2 δ2 H2 → CkOk [] δ2 → G H2) →
    (∀ i x B1 F1 ad1 σ1 δ1 H1 H2, Same B' B1 → Pre ad' ad1 → SRep K mg B1 F1 ad1 σ1 δ1 H1 → CkOk [] δ1 → i < (rangeD lo n).length → Y i H1 x H2 → ∃ B2, Same B1 B2 ∧ SRep K mg B2 F1 ad1 σ1 δ1 H2 ∧ ∃ d, (rangeD lo n)[i]? = some d ∧ Rp K mg B2 d x) → R J H') : R (Itr lo n) H := by
  refine k B ad H (Itr lo n) (fun _ => True) (YFn fun i => .int (lo + i)) (Same.refl _) (Pre.refl _) S (by rw [rangeD_len]; exact walk_range) (fun _ _ _ _ _ _ _ _ _ _ => trivial) ?_
  rintro i x B2 F2 ad2 σ2 δ2 H2 H3 s2 p2 S2 c hi ⟨rfl, rfl⟩
  rw [rangeD_len] at hi
  exact ⟨B2, Same.refl _, S2, _, rangeD_get hi, rfl⟩
theorem pdi_rg1 {a : Expr} {f : EF} {p : Pos} (hg : Gl X "range") (hm : X.mg "range" = none) (ha : PD X a f) (hs : starEach [a] X.env = [(false, eval a X.env)] := by rfl) : PDI X tgE (.Call (.Name "range" p) [a] [] pos) (iRg1 f) :=
  PI.weak (pi_range1 hg hm (pa_cons ha pa_nil hs) hs) fun σ H R h => by
  obtain ⟨B, F, ad, δ, it, ck, δ', S, e, hck, k⟩ := h
  unfold iRg1 at e
  obtain ⟨⟨r, δ1⟩, e1, e⟩ := Option.bind_eq_some_iff.mp e
  refine ⟨B, F, ad, δ, r, δ1, S, e1, fun B1 ad1 v H1 s1 p1 S1 r1 => ?_⟩
  cases r with
  | rf k => cases e
  | nl _ => cases e
  | fz d =>
    cases d with
    | int n =>
      simp only at e
      split at e
      · rename_i ok
        cases e
        have r1' : v = .int n := r1
        subst r1'
        exact ⟨n, rfl, ok.1, ok.2, range_k S1 fun B' ad' H' J G Y s2 p2 => k B' ad' H' J G Y (s1.trans s2) (p1.trans p2)⟩
      · cases e
    | _ => cases e
theorem pdi_rg2 {a b : Expr} {f g : EF} {p : Pos} (hg : Gl X "range") (hm : X.mg "range" = none) (ha : PD X a f) (hb : PD X b g) (hs : starEach [a, b] X.env = [(false, eval a X.env), (false, eval b X.env)] := by rfl) (hs2 : starEach [b] X.env = [(false, eval b X.env)] := by rfl)
    (hs3 : starEach [a, b] X.env = (false, eval a X.env) :: starEach [b] X.env := by rfl) : PDI X tgE (.Call (.Name "range" p) [a, b] [] pos) (iRg2 f g) :=
  PI.weak (pi_range2 hg hm (pa_cons ha (pa_cons hb pa_nil hs2) hs3) hs hs2) fun σ H R h => by
  obtain ⟨B, F, ad, δ, it, ck, δ', S, e, hck, k⟩ := h
  unfold iRg2 at e
  obtain ⟨⟨r, δ1⟩, e1, e⟩ := Option.bind_eq_some_iff.mp e
  obtain ⟨⟨q, δ2⟩, e2, e⟩ := Option.bind_eq_some_iff.mp e
  refine ⟨B, F, ad, δ, r, δ1, S, e1, fun B1 ad1 v H1 s1 p1 S1 r1 => ?_⟩
  refine ⟨B1, F, ad1, δ1, q, δ2, S1, e2, fun B2 ad2 w H2 s2 p2 S2 r2 => ?_⟩
  simp only at e
  split at e
  · rename_i i j _e
    split at e
    · rename_i ok
      cases e
      have r1' : v = .int i := r1
      have r2' : w = .int j := r2
      subst r1' r2'
      exact ⟨i, j, rfl, ⟨ok.1.1, ok.1.2, ok.2.1, ok.2.2⟩, range_k S2 fun B' ad' H' J G Y s3 p3 => k B' ad' H' J G Y ((s1.trans s2).trans s3) ((p1.trans p2).trans p3)⟩
    · cases e
  · cases e
end
end PK
namespace PK
open PySem L2
/-! ### zip, enumerate, reversed -/
def zipD : List D → List D → List D
  | x :: xs, y :: ys => .tup [x, y] :: zipD xs ys
  | _, _ => []
theorem zipD_len : ∀ (xs ys : List D), (zipD xs ys).length = min xs.length ys.length
  | [], ys => by simp [zipD]
  | _ :: _, [] => by simp [zipD]
  | x :: xs, y :: ys => by
    simp only [zipD, List.length_cons, zipD_len xs ys]
    omega
theorem zipD_get : ∀ {xs ys : List D} {i : Nat} {x y : D}, xs[i]? = some x → ys[i]? = some y → (zipD xs ys)[i]? = some (.tup [x, y])
  | [], ys, i, x, y, h, g => by simp at h
  | _ :: _, [], i, x, y, h, g => by simp at g
  | a :: xs, b :: ys, 0, x, y, h, g => by
    simp at h g
    subst h g
    rfl
  | a :: xs, b :: ys, i + 1, x, y, h, g => by
    have := zipD_get (xs := xs) (ys := ys) (i := i) (x := x) (y := y) (by simpa using h) (by simpa using g)
    simpa [zipD] using this
def iZipD (f g : EF) : IF := fun δ => (f δ).bind fun p => (g p.2).bind fun q => match p.1, q.1 with
  | .fz (.tup xs), .fz (.tup ys) => some (zipD xs ys, [], q.2)
  | a, b => match srcOf q.2 a, srcOf q.2 b with
    | some (xs, c), some (ys, d) => some (zipD xs ys, c ++ d, q.2)
    | _, _ => none
theorem ck_app {c d : List (Nat × List D)} {δ : Dl} (h : CkOk (c ++ d) δ) : CkOk c δ ∧ CkOk d δ := ⟨fun p hp => h p (List.mem_append_left _ hp), fun p hp => h p (List.mem_append_right _ hp)⟩
/-- a new pair of two data -/
theorem pair_new {K : PySem.W.Frag} {mg : Str → Option Value} {B F : Hp} {ad : List Addr} {σ : L2.St} {δ : Dl} {H : Hp} {T : Addr} {x y : V} {a b : D} (S : SRep K mg B F ad σ δ H) (hT : H T = none) (h1 : Rp K mg B a x) (h2 : Rp K mg B b y) :
    ∃ B2, Same B B2 ∧ SRep K mg B2 F ad σ δ (upd H T (.tup [x, y])) ∧ Rp K mg B2 (.tup [a, b]) (.ref T) := by
  have s1 : Same B (upd B T (.tup [x, y])) := same_new (S.exB.free hT)
  exact ⟨_, s1, S.alloc hT, T, [x, y], rfl, upd_same, x, [y], rfl, Rp.mono s1 _ _ h1, y, [], rfl, Rp.mono s1 _ _ h2, rfl⟩
section
variable {X : Cx} {tgE iter : Expr} {fi : IF} {pos : Pos}
theorem walk_zipT {K : PySem.W.Frag} {a b : Addr} {xs ys : List V} {n : Nat} (hn : n = min xs.length ys.length) : Walk (RZ.ItzT K a b) n (fun H => SqT K H a xs ∧ SqT K H b ys) (YPair (fun i => xs[i]?) (fun i => ys[i]?)) := by
  subst hn
  refine ⟨fun i _ hi q => ?_, fun _ q => ⟨xs, ys, q.1, q.2, by omega⟩, fun i H v H' _ q y => ?_⟩
  · have h1 : i < xs.length := by omega
    have h2 : i < ys.length := by omega
    exact ⟨xs, ys, xs[i], ys[i], q.1, q.2, by simp [h1], by simp [h2]⟩
  · obtain ⟨T, x, z, h1, h2, h3, h4, h5⟩ := y
    exact ⟨T, x, z, h1, h2, h3, h4 xs q.1, h5 ys q.2⟩
theorem pdi_zip {e e2 : Expr} {f g : EF} {p tpos : Pos} {elts : List Expr} {kk : Nat} (hg : Gl X "zip") (hm : X.mg "zip" = none) (ha : PD X e f) (hb : PD X e2 g)
    (hs : starEach [e, e2] X.env = (false, eval e X.env) :: starEach [e2] X.env := by rfl) (hs2 : starEach [e2] X.env = (false, eval e2 X.env) :: starEach [] X.env := by rfl) (hpl : (backTo pos (starEach [e2] X.env)).any (·.1) = false := by rfl) :
    PDI X (.Tuple elts kk tpos) (.Call (.Name "zip" p) [e, e2] [] pos) (iZipD f g) := PI.weak (RZ.pi_zipA hg hm (pa_cons ha (pa_cons hb pa_nil hs2) hs) hs hpl) fun σ H R h => by
  obtain ⟨B, F, ad, δ, it, ck, δ', S, e, hck, k⟩ := h
  unfold iZipD at e
  obtain ⟨⟨r, δ1⟩, e1, e⟩ := Option.bind_eq_some_iff.mp e
  obtain ⟨⟨q, δ2⟩, e2, e⟩ := Option.bind_eq_some_iff.mp e
  refine ⟨B, F, ad, δ, r, δ1, S, e1, fun B1 ad1 v H1 s1 p1 S1 r1 => ?_⟩
  refine ⟨B1, F, ad1, δ1, q, δ2, S1, e2, fun B2 ad2 w H2 s2 p2 S2 r2 => ?_⟩
  have r1' := r1.mono s2 p2
  simp only at e
  split at e
  · rename_i xs ys
    cases e
    obtain ⟨a, as, h1, h2, h3⟩ := r1'
    obtain ⟨b, bs, g1, g2, g3⟩ := r2
    subst h1 g1
    refine ⟨a, b, as, bs, rfl, .inr ⟨SqT.of (S2.exB _ _ h2), SqT.of (S2.exB _ _ g2), ?_⟩⟩
    refine k B2 ad2 H2 (RZ.ItzT X.K a b) (fun H => SqT X.K H a as ∧ SqT X.K H b bs) _ (s1.trans s2) (p1.trans p2) S2 (walk_zipT (by rw [zipD_len, Rps.length h3, Rps.length g3])) ?_ ?_
    · intro B3 F3 ad3 σ3 δ3 H3 s3 p3 S3 c
      exact ⟨SqT.of (S3.exB _ _ (s3 _ _ h2)), SqT.of (S3.exB _ _ (s3 _ _ g2))⟩
    · rintro i x B3 F3 ad3 σ3 δ3 H3 H4 s3 p3 S3 c hi ⟨T, y, z, rfl, hT, rfl, hy, hz⟩
      obtain ⟨d, d1, d2⟩ := Rps.back h3 hy
      obtain ⟨d', d3, d4⟩ := Rps.back g3 hz
      obtain ⟨B4, s4, S4, r4⟩ := pair_new S3 hT (Rp.mono s3 _ _ d2) (Rp.mono s3 _ _ d4)
      exact ⟨B4, s4, S4, _, zipD_get d1 d3, r4⟩
  · split at e
    · rename_i xs c ys d e3 e4
      cases e
      obtain ⟨a, as, h1, h2, h3, h4, h5⟩ := src_at S2 r1' e3
      obtain ⟨b, bs, g1, g2, g3, g4, g5⟩ := src_at S2 r2 e4
      subst h1 g1
      refine ⟨a, b, as, bs, rfl, .inl ⟨SqL.of h2, SqL.of g2, ?_⟩⟩
      refine k B2 ad2 H2 (Itz X.K a b) (fun H => ∃ as bs, (as.length = xs.length ∧ bs.length = ys.length) ∧ H a = some (.lst as) ∧ H b = some (.lst bs)) (fun i H v H' => ∃ as bs, (as.length = xs.length ∧ bs.length = ys.length) ∧ (H a = some (.lst as) ∧ H b = some (.lst bs)) ∧ YPair (fun i => as[i]?) (fun i => bs[i]?) i H v H') (s1.trans s2) (p1.trans p2) S2 ?_ ?_ ?_
      · have hw : ∀ as bs : List V, as.length = xs.length ∧ bs.length = ys.length → Walk (Itz X.K a b) (zipD xs ys).length (fun H => H a = some (.lst as) ∧ H b = some (.lst bs)) (YPair (fun i => as[i]?) (fun i => bs[i]?)) := fun as bs hl =>
          (walk_zip (K := X.K) (a := a) (b := b) (xs := as) (ys := bs) (by rw [zipD_len, hl.1, hl.2])).mono (fun H q => ⟨SqL.of q.1, SqL.of q.2⟩) fun _ _ _ _ _ _ y => y
        exact ⟨fun i H hi ⟨as, bs, hl, q⟩ => (hw as bs hl).goes i H hi q, fun H ⟨as, bs, hl, q⟩ => (hw as bs hl).stops H q, fun i H x H' hi ⟨as, bs, hl, q⟩ y => ⟨as, bs, hl, q, (hw as bs hl).yields i H x H' hi q y⟩⟩
      · intro B3 F3 ad3 σ3 δ3 H3 s3 p3 S3 cc
        obtain ⟨as', q1, q2⟩ := h5 B3 F3 ad3 σ3 δ3 H3 s3 p3 S3 (ck_app cc).1
        obtain ⟨bs', q3, q4⟩ := g5 B3 F3 ad3 σ3 δ3 H3 s3 p3 S3 (ck_app cc).2
        exact ⟨as', bs', ⟨Rps.length q2, Rps.length q4⟩, q1, q3⟩
      · rintro i x B3 F3 ad3 σ3 δ3 H3 H4 s3 p3 S3 cc hi ⟨as1, bs1, hl, ⟨w1, w2⟩, T, y, z, rfl, hT, rfl, hy, hz⟩
        obtain ⟨as', q1, q2⟩ := h5 B3 F3 ad3 σ3 δ3 H3 s3 p3 S3 (ck_app cc).1
        obtain ⟨bs', q3, q4⟩ := g5 B3 F3 ad3 σ3 δ3 H3 s3 p3 S3 (ck_app cc).2
        rw [q1] at w1
        rw [q3] at w2
        cases w1; cases w2
        obtain ⟨d, d1, d2⟩ := Rps.back q2 hy
        obtain ⟨d', d3, d4⟩ := Rps.back q4 hz
        obtain ⟨B4, s4, S4, r4⟩ := pair_new S3 hT d2 d4
        exact ⟨B4, s4, S4, _, zipD_get d1 d3, r4⟩
    · cases e
def enumD : Nat → List D → List D
  | _, [] => []
  | n, x :: xs => .tup [.int (n : Int), x] :: enumD (n + 1) xs
theorem enumD_len : ∀ (n : Nat) (xs : List D), (enumD n xs).length = xs.length
  | _, [] => rfl
  | n, x :: xs => by simp [enumD, enumD_len (n + 1) xs]
theorem enumD_get : ∀ {n : Nat} {xs : List D} {i : Nat} {x : D}, xs[i]? = some x → (enumD n xs)[i]? = some (.tup [.int ((n + i : Nat) : Int), x])
  | n, [], i, x, h => by simp at h
  | n, a :: xs, 0, x, h => by
    simp at h
    subst h
    rfl
  | n, a :: xs, i + 1, x, h => by
    have := enumD_get (n := n + 1) (xs := xs) (i := i) (x := x) (by simpa using h)
    rw [show n + 1 + i = n + (i + 1) by omega] at this
    simpa [enumD] using this
def iEnumD (f : EF) : IF := fun δ => (f δ).bind fun p => (srcOf p.2 p.1).map fun q => (enumD 0 q.1, q.2, p.2)
theorem pdi_enum {e : Expr} {f : EF} {p tpos : Pos} {elts : List Expr} {kk : Nat} (hg : Gl X "enumerate") (hm : X.mg "enumerate" = none) (ha : PD X e f) (hs : starEach [e] X.env = [(false, eval e X.env)] := by rfl) :
    PDI X (.Tuple elts kk tpos) (.Call (.Name "enumerate" p) [e] [] pos) (iEnumD f) := PI.weak (pi_enum hg hm (pa_cons ha pa_nil hs) hs) fun σ H R h => by
  obtain ⟨B, F, ad, δ, it, ck, δ', S, e, hck, k⟩ := h
  unfold iEnumD at e
  obtain ⟨⟨r, δ1⟩, e1, e⟩ := Option.bind_eq_some_iff.mp e
  obtain ⟨⟨xs, ck'⟩, e2, e⟩ := Option.map_eq_some_iff.mp e
  cases e
  refine ⟨B, F, ad, δ, r, _, S, e1, fun B1 ad1 v H1 s1 p1 S1 r1 => ?_⟩
  obtain ⟨a, as, h1, h2, h3, hl, h4⟩ := src_at S1 r1 e2
  subst h1
  refine ⟨a, as, rfl, SqL.of h2, ?_⟩
  refine k B1 ad1 H1 (Ite X.K a) (fun H => ∃ ys, ys.length = (enumD 0 xs).length ∧ H a = some (.lst ys)) (fun i H x H' => ∃ ys, ys.length = (enumD 0 xs).length ∧ H a = some (.lst ys) ∧ YPair (fun i => some (.int (i : Nat))) (fun i => ys[i]?) i H x H') s1 p1 S1 (Walk.any fun ys hy => ?_) ?_ ?_
  · rw [← hy]
    exact (walk_enum (K := X.K)).mono (fun H q => SqL.of q) fun _ _ _ _ _ _ y => y
  · intro B2 F2 ad2 σ2 δ2 H2 s2 p2 S2 c
    obtain ⟨ys, q1, q2⟩ := h4 B2 F2 ad2 σ2 δ2 H2 s2 p2 S2 c
    exact ⟨ys, by rw [enumD_len]; exact Rps.length q2, q1⟩
  · rintro i x B2 F2 ad2 σ2 δ2 H2 H3 s2 p2 S2 c hi ⟨ys, hy1, hy2, T, y, z, rfl, hT, rfl, hy, hz⟩
    obtain ⟨zs, q1, q2⟩ := h4 B2 F2 ad2 σ2 δ2 H2 s2 p2 S2 c
    rw [q1] at hy2
    cases hy2
    cases hy
    obtain ⟨d, d1, d2⟩ := Rps.back q2 hz
    obtain ⟨B4, s4, S4, r4⟩ := pair_new S2 hT (a := .int (i : Nat)) (b := d) (x := .int (i : Nat)) rfl d2
    exact ⟨B4, s4, S4, _, by simpa using enumD_get (n := 0) d1, r4⟩
def iRevD (f : EF) : IF := fun δ => (f δ).bind fun p => (srcOf p.2 p.1).map fun q => (q.1.reverse, q.2, p.2)
end
/-! ### comprehensions -/
section
variable {K : PySem.W.Frag} {mg : Str → Option Value} {B B' F : Hp} {ad ad' : List Addr} {σ : L2.St} {δ δ' : Dl} {H H' : Hp} {p : Addr}
/-- a new object of nobody's: it stays as it is -/
theorem SRep.allocF {o : HO} (S : SRep K mg B F ad σ δ H) (h : H p = none) : SRep K mg B (upd F p o) ad σ δ (upd H p o) where
  exB := fun a u e => by rw [upd_ne (ne_of_none (S.exB a u e) h)]; exact S.exB a u e
  exF := fun a u e => by
    by_cases ha : a = p
    · subst ha
      rw [upd_same] at e ⊢
      exact e
    · rw [upd_ne ha] at e ⊢
      exact S.exF a u e
  dis := fun a u e => by
    by_cases ha : a = p
    · rw [ha]; exact S.exB.free h
    · rw [upd_ne ha] at e
      exact S.dis a u e
  nd := S.nd
  len := S.len
  slen := S.slen
  cell := fun k ds e => by
    obtain ⟨q, xs, h1, h2, h3, h4, h5⟩ := S.cell k ds e
    have hq : q ≠ p := ne_of_none h2 h
    exact ⟨q, xs, h1, by rw [upd_ne hq]; exact h2, h3, h4, by rw [upd_ne hq]; exact h5⟩
  dead := S.dead
  slot := S.slot
/-- .. until it is given another worth -/
theorem SRep.setF {o u : HO} (S : SRep K mg B (upd F p o) ad σ δ H) : SRep K mg B (upd F p u) ad σ δ (upd H p u) := by
  have hp : upd F p o p = some o := upd_same
  have hB : B p = none := S.dis p o hp
  have hH : H p = some o := S.exF p o hp
  refine ⟨fun a v e => ?_, fun a v e => ?_, fun a v e => ?_, S.nd, S.len, S.slen, fun k ds e => ?_, S.dead, S.slot⟩
  · have ha : a ≠ p := fun z => by rw [z, hB] at e; cases e
    rw [upd_ne ha]; exact S.exB a v e
  · by_cases ha : a = p
    · subst ha
      rw [upd_same] at e ⊢
      exact e
    · rw [upd_ne ha] at e ⊢
      exact S.exF a v (by rw [upd_ne ha]; exact e)
  · by_cases ha : a = p
    · rw [ha]; exact hB
    · rw [upd_ne ha] at e
      exact S.dis a v (by rw [upd_ne ha]; exact e)
  · obtain ⟨q, xs, h1, h2, h3, h4, h5⟩ := S.cell k ds e
    have hq : q ≠ p := fun z => by rw [z, upd_same] at h5; cases h5
    rw [upd_ne hq] at h5
    exact ⟨q, xs, h1, by rw [upd_ne hq]; exact h2, h3, h4, by rw [upd_ne hq]; exact h5⟩
/-- .. and taken over -/
theorem SRep.takeF {m : Bool} {ds : List D} {xs : List V} {Q : VK} (S : SRep K mg B (upd F p (.lst xs)) ad σ δ H) (hF : F p = none) (r : Rps K mg B ds xs)
    (k : ∀ B' ad' v H', Same B B' → Pre ad ad' → SRep K mg B' F ad' σ (PK.mk m ds δ).2 H' → RpV K mg B' ad' (PK.mk m ds δ).1 v → Q v H') : Q (.ref p) H := by
  have hp : upd F p (.lst xs) p = some (.lst xs) := upd_same
  have hB : B p = none := S.dis p _ hp
  have hH : H p = some (.lst xs) := S.exF p _ hp
  have fF : ∀ a o, F a = some o → upd F p (.lst xs) a = some o := fun a o e => by
    rw [upd_ne (ne_of_none e hF)]; exact e
  have hnc : p ∉ ad := fun z => by
    obtain ⟨k, hk⟩ := List.getElem?_of_mem z
    have hkl : k < δ.st.length := by rw [← S.len]; exact (List.getElem?_eq_some_iff.mp hk).1
    cases e : δ.st[k]? with
    | none => exact absurd (List.getElem?_eq_none_iff.mp e) (by omega)
    | some u =>
      cases u with
      | none => exact S.dead k p hk e hB
      | some ds =>
        obtain ⟨q, ys, h1, h2, h3, h4, h5⟩ := S.cell k ds e
        rw [hk] at h1
        cases h1
        rw [hp] at h5
        cases h5
  have cl : ∀ (k : Nat) (es : List D), δ.st[k]? = some (some es) → ∃ (q : Addr) (ys : List V), ad[k]? = some q ∧ H q = some (.lst ys) ∧ Rps K mg B es ys ∧ B q = none ∧ F q = none ∧ q ≠ p := fun k es e => by
    obtain ⟨q, ys, h1, h2, h3, h4, h5⟩ := S.cell k es e
    have hq : q ≠ p := fun z => by rw [z, hp] at h5; cases h5
    rw [upd_ne hq] at h5
    exact ⟨q, ys, h1, h2, h3, h4, h5, hq⟩
  cases m with
  | false =>
    have s1 : Same B (upd B p (.lst xs)) := same_new hB
    refine k _ ad (.ref p) H s1 (Pre.refl _) ⟨fun a u e => ?_, fun a u e => S.exF a u (fF a u e), fun a u e => ?_, S.nd, S.len, S.slen, fun k es e => ?_, fun k q h1 h2 => ?_, fun i d e => ?_⟩ ⟨p, xs, rfl, upd_same, Rps.mono s1 ds xs r⟩
    · by_cases ha : a = p
      · subst ha
        rw [upd_same] at e
        cases e
        exact hH
      · rw [upd_ne ha] at e
        exact S.exB a u e
    · rw [upd_ne (ne_of_none e hF)]; exact S.dis a u (fF a u e)
    · obtain ⟨q, ys, h1, h2, h3, h4, h5, hq⟩ := cl k es e
      exact ⟨q, ys, h1, h2, Rps.mono s1 es ys h3, by rw [upd_ne hq]; exact h4, h5⟩
    · have := S.dead k q h1 h2
      by_cases hq : q = p
      · rw [hq, upd_same]; simp
      · rw [upd_ne hq]; exact this
    · obtain ⟨v, h1, h2⟩ := S.slot i d e
      exact ⟨v, h1, h2.mono s1 (Pre.refl _)⟩
  | true =>
    refine k B (ad ++ [p]) (.ref p) H (Same.refl _) (Pre.app _ _) ⟨S.exB, fun a u e => S.exF a u (fF a u e), fun a u e => S.dis a u (fF a u e), ?_, ?_, S.slen, fun k es e => ?_, fun k q h1 h2 => ?_, fun i d e => ?_⟩ ⟨p, rfl, ?_⟩
    · rw [List.nodup_append]
      refine ⟨S.nd, by simp, fun a ha b hb => ?_⟩
      have hb' : b = p := by simpa using hb
      subst hb'
      exact fun z => hnc (by rw [← z]; exact ha)
    · show (ad ++ [p]).length = (δ.st ++ [some ds]).length
      simp [S.len]
    · have e' : (δ.st ++ [some ds])[k]? = some (some es) := e
      by_cases hk : k < δ.st.length
      · rw [List.getElem?_append_left hk] at e'
        obtain ⟨q, ys, h1, h2, h3, h4, h5, hq⟩ := cl k es e'
        exact ⟨q, ys, (Pre.app ad [p]).get h1, h2, h3, h4, h5⟩
      · have hk2 : k = δ.st.length := by
          obtain ⟨q, _⟩ := List.getElem?_eq_some_iff.mp e'
          simp at q
          omega
        subst hk2
        rw [List.getElem?_append_right (Nat.le_refl _)] at e'
        simp at e'
        subst e'
        refine ⟨p, xs, ?_, hH, r, hB, hF⟩
        rw [← S.len, List.getElem?_append_right (Nat.le_refl _)]
        simp
    · have h2' : (δ.st ++ [some ds])[k]? = some none := h2
      have hk : k < δ.st.length := by
        rcases Nat.lt_or_ge k δ.st.length with z | z
        · exact z
        · rw [List.getElem?_append_right z] at h2'
          cases q : k - δ.st.length with
          | zero => rw [q] at h2'; simp at h2'
          | succ n => rw [q] at h2'; simp at h2'
      rw [List.getElem?_append_left hk] at h2'
      rw [List.getElem?_append_left (by rw [S.len]; exact hk)] at h1
      exact S.dead k q h1 h2'
    · obtain ⟨v, h1, h2⟩ := S.slot i d e
      exact ⟨v, h1, h2.mono (Same.refl _) (Pre.app _ _)⟩
    · show (ad ++ [p])[δ.st.length]? = some p
      rw [← S.len, List.getElem?_append_right (Nat.le_refl _), Nat.sub_self]
      rfl
end
open Classical in
noncomputable def lcGo (ck : List (Nat × List D)) (tg : Tg) (own : List Nat) (test : BF) (elt : EF) (sl : List (Option Vl)) : List D → List D → Dl → Option (List D × Dl)
  | [], acc, δ => if CkOk ck δ then some (acc, δ) else none
  | d :: ds, acc, δ => if CkOk ck δ ∧ acc.length < small then (asgT δ tg d).bind fun δ1 => (test δ1).bind fun p =>
      if p.1 then (elt p.2).bind fun q => (frz q.2 q.1).bind fun y => lcGo ck tg own test elt sl ds (acc ++ [y.1]) { y.2 with sl := sl }
      else lcGo ck tg own test elt sl ds acc { p.2 with sl := sl }
    else none
noncomputable def dLc (m : Bool) (fi : IF) (tg : Tg) (own : List Nat) (test : BF) (elt : EF) : EF := fun δ => (fi δ).bind fun p =>
  (lcGo p.2.1 tg own test elt (wipeD p.2.2.sl own) p.1 [] { p.2.2 with sl := wipeD p.2.2.sl own }).map fun q => mk m q.1 { q.2 with sl := p.2.2.sl }
def bYes : BF := fun δ => some (true, δ)
theorem lcGo_ck {ck : List (Nat × List D)} {tg : Tg} {own : List Nat} {test : BF} {elt : EF} {sl : List (Option Vl)} {ds acc : List D} {δ : Dl} {r : List D × Dl} (h : lcGo ck tg own test elt sl ds acc δ = some r) : CkOk ck δ := by
  cases ds with
  | nil =>
    rw [lcGo] at h
    split at h
    · assumption
    · cases h
  | cons d ds =>
    rw [lcGo] at h
    split at h
    · rename_i hh
      exact hh.1
    · cases h
abbrev PDTs (X : Cx) (ifs : List Expr) (f : BF) := PTs X ifs (tDT X.K X.mg f)
section
variable {X : Cx} {tgE iter elt : Expr} {ifs : List Expr} {scope : Scope} {own : List (Str × Nat)} {fi : IF} {test : BF} {fe : EF} {pos spos : Pos}
theorem pdts_nil : PDTs X [] bYes := ⟨fun pins s σ H Q I h => by
  obtain ⟨B, F, ad, δ, r, δ', S, e, k⟩ := h
  cases e
  exact pts_nil.run pins s σ H Q I (k B ad H (Same.refl _) (Pre.refl _) S)⟩
theorem pdts_one {c : Expr} {f : BF} (h : PDT X c f) : PDTs X [c] f := pts_one h
theorem lc_w {m : Bool} {tg : Tg} {σ : L2.St} {H : Hp} {Q : VK} {K : PySem.W.Frag} {mg : Str → Option Value} (hown : ∀ i ∈ tgs tg, i ∈ own.map (·.2)) (h : tD K mg (dLc m fi tg (own.map (·.2)) test fe) σ H Q) :
    tLc (iD K mg fi) (gTg K tg) (tDT K mg test) (tD K mg fe) (own.map (·.2)) σ H Q := by
  obtain ⟨B, F, ad, δ, r, δ', S, e, k⟩ := h
  unfold dLc at e
  obtain ⟨⟨it, ck, δ1⟩, e1, e⟩ := Option.bind_eq_some_iff.mp e
  obtain ⟨⟨res, δ2⟩, e2, e⟩ := Option.map_eq_some_iff.mp e
  have e' : mk m res { δ2 with sl := δ1.sl } = (r, δ') := e
  dsimp only at e2
  generalize hw : wipeD δ1.sl (own.map (·.2)) = sl0 at e2
  refine ⟨B, F, ad, δ, it, ck, δ1, S, e1, (show CkOk ck δ1 from (lcGo_ck e2 : CkOk ck ⟨sl0, δ1.st⟩)), fun B1 ad1 H1 J G Y s1 p1 S1 W hG hY => ?_⟩
  intro Dl' hD
  have hFD : F Dl' = none := S1.exF.free hD
  have SW := (S1.wiped (own.map (·.2))).allocF (o := .lst []) hD
  rw [hw] at SW
  refine lc_it W (fun i H' => ∃ B2 ad2 δ3 accD acc, Same B1 B2 ∧ Pre ad1 ad2 ∧ SRep K mg B2 (upd F Dl' (.lst acc)) ad2 (wipe σ (own.map (·.2))) δ3 H' ∧ Rps K mg B2 accD acc ∧ δ3.sl = sl0 ∧ lcGo ck tg (own.map (·.2)) test fe sl0 (it.drop i) accD δ3 = some (res, δ2))
    ⟨B1, ad1, _, [], [], Same.refl _, Pre.refl _, SW, rfl, rfl, e2⟩ ?_ ?_ ?_
  · rintro i H' hi ⟨B2, ad2, δ3, accD, acc, s2, p2, S2, ra, hsl, e3⟩
    exact hG B2 _ ad2 _ δ3 H' s2 p2 S2 (lcGo_ck e3)
  · rintro i x H2 H3 hi ⟨B2, ad2, δ3, accD, acc, s2, p2, S2, ra, hsl, e3⟩ hy
    obtain ⟨B3, s3, S3, d, hd, rd⟩ := hY i x B2 _ ad2 _ δ3 H2 H3 s2 p2 S2 (lcGo_ck e3) hi hy
    have hdr : it.drop i = d :: it.drop (i + 1) := by
      obtain ⟨hl, he⟩ := List.getElem?_eq_some_iff.mp hd
      rw [List.drop_eq_getElem_cons hl, he]
    rw [hdr, lcGo] at e3
    split at e3
    · rename_i hc
      obtain ⟨δ4, e4, e3⟩ := Option.bind_eq_some_iff.mp e3
      obtain ⟨⟨b, δ5⟩, e5, e3⟩ := Option.bind_eq_some_iff.mp e3
      refine tg_w S3 rd e4 fun vs S4 => ?_
      refine ⟨by rw [wipe_setV hown, wipe_wipe], ?_⟩
      have back : ∀ {B6 F6 ad6 δ6 H6}, SRep K mg B6 F6 ad6 (setV (wipe σ (own.map (·.2))) (tgs tg) vs) δ6 H6 → Same B2 B6 → Pre ad2 ad6 → SRep K mg B6 F6 ad6 (wipe σ (own.map (·.2))) { δ6 with sl := sl0 } H6 := fun {B6 F6 ad6 δ6 H6} S6 s6 p6 => by
        have := S2.reslot s6 p6 S6
        rw [hsl] at this
        exact this
      refine ⟨B3, _, ad2, δ4, b, δ5, S4, e5, fun B5 ad5 H5 s5 p5 S5 => ?_⟩
      cases b with
      | true =>
        rw [if_pos rfl]
        rw [if_pos rfl] at e3
        obtain ⟨⟨y, δ6⟩, e6, e3⟩ := Option.bind_eq_some_iff.mp e3
        obtain ⟨⟨yd, δ7⟩, e7, e3⟩ := Option.bind_eq_some_iff.mp e3
        refine ⟨B5, _, ad5, δ5, y, δ6, S5, e6, fun B6 ad6 v H6 s6 p6 S6 r6 => ?_⟩
        obtain ⟨B7, s7, S7, r7⟩ := S6.frz r6 e7
        have hacc : H6 Dl' = some (.lst acc) := S7.exF Dl' _ upd_same
        have hlen := Rps.length ra
        refine ⟨acc, hacc, Nat.lt_of_lt_of_le (by omega) (small_sz (Nat.le_refl _)), ?_⟩
        have sAll : Same B2 B7 := ((s3.trans s5).trans s6).trans s7
        have pAll : Pre ad2 ad6 := p5.trans p6
        exact ⟨B7, ad6, { δ7 with sl := sl0 }, accD ++ [yd], acc ++ [v], s2.trans sAll, p2.trans pAll, (back S7 sAll pAll).setF, Rps.app (Rps.mono sAll _ _ ra) (Rps.one r7), rfl, e3⟩
      | false =>
        rw [if_neg Bool.false_ne_true]
        rw [if_neg Bool.false_ne_true] at e3
        have sAll : Same B2 B5 := s3.trans s5
        exact ⟨B5, ad5, { δ5 with sl := sl0 }, accD, acc, s2.trans sAll, p2.trans p5, back S5 sAll p5, Rps.mono sAll _ _ ra, rfl, e3⟩
    · cases e3
  · rintro H2 ⟨B2, ad2, δ3, accD, acc, s2, p2, S2, ra, hsl, e3⟩
    rw [List.drop_length] at e3
    have hck := lcGo_ck e3
    rw [lcGo, if_pos hck] at e3
    cases e3
    refine SRep.takeF (m := m) (S1.reslot s2 p2 S2) hFD ra fun B' ad' v H' s3 p3 S3 r3 => ?_
    rw [e'] at S3 r3
    exact k B' ad' v H' ((s1.trans s2).trans s3) ((p1.trans p2).trans p3) S3 r3
theorem pd_lc (m : Bool) (tg : Tg) (hc : X.calm = true) (hN : X.N.Nodup) (hi : PDI X tgE iter fi) (ok : BlkOk X.N X.env.scope scope own) (hown : ∀ i ∈ tgs tg, i ∈ own.map (·.2))
    (hg : ∀ (s : Shared) (H : Hp) (C : Addr) (cl : List (Str × Addr)) (fp : List Addr), PG (X.blk s H scope (compEnvC scope cl C X.env) fp) tgE (gTg X.K tg))
    (ht : ∀ (s : Shared) (H : Hp) (C : Addr) (cl : List (Str × Addr)) (fp : List Addr), PTs (X.blk s H scope (compEnvC scope cl C X.env) fp) ifs (tDT X.K X.mg test))
    (he : ∀ (s : Shared) (H : Hp) (C : Addr) (cl : List (Str × Addr)) (fp : List Addr), PE (X.blk s H scope (compEnvC scope cl C X.env) fp) elt (tD X.K X.mg fe)) (hs : ∀ x, foldedSetIterable iter X.env x = pure x := by intro _; rfl) :
    PD X (.ListComp elt [⟨tgE, iter, ifs, 0⟩] scope pos) (dLc m fi tg (own.map (·.2)) test fe) := PE.weak (pe_lc hc hN hi ok hg ht he hs) fun σ H Q h => lc_w hown h
theorem pds_setLc (m : Bool) (tg : Tg) {i : Nat} {y : Str} {py : Pos} (hc : X.calm = true) (hN : X.N.Nodup) (hi : PDI X tgE iter fi) (ok : BlkOk X.N X.env.scope scope own) (hown : ∀ i ∈ tgs tg, i ∈ own.map (·.2))
    (hg : ∀ (s : Shared) (H : Hp) (C : Addr) (cl : List (Str × Addr)) (fp : List Addr), PG (X.blk s H scope (compEnvC scope cl C X.env) fp) tgE (gTg X.K tg))
    (ht : ∀ (s : Shared) (H : Hp) (C : Addr) (cl : List (Str × Addr)) (fp : List Addr), PTs (X.blk s H scope (compEnvC scope cl C X.env) fp) ifs (tDT X.K X.mg test))
    (he : ∀ (s : Shared) (H : Hp) (C : Addr) (cl : List (Str × Addr)) (fp : List Addr), PE (X.blk s H scope (compEnvC scope cl C X.env) fp) elt (tD X.K X.mg fe))
    (hy : X.N[i]? = some y) (hyl : X.env.scope.names.lookup y = some .local) (hsw : swapsWith (.ListComp elt [⟨tgE, iter, ifs, 0⟩] scope pos) (some (.Name y py)) spos.line X.env = pure true) (hs : ∀ x, foldedSetIterable iter X.env x = pure x := by intro _; rfl) :
    PDS X (.Assign [.Name y py] (.ListComp elt [⟨tgE, iter, ifs, 0⟩] scope pos) spos) (sSet i (dLc m fi tg (own.map (·.2)) test fe)) :=
  PS.weak (ps_setLc hc hN hy hyl hsw hi ok hg ht he hs) fun D σ H h => by
    obtain ⟨B, F, ad, δ, r, δ', S, e, k⟩ := h
    unfold sSet at e
    obtain ⟨⟨x, δ1⟩, e1, e⟩ := Option.map_eq_some_iff.mp e
    cases e
    exact lc_w hown ⟨B, F, ad, δ, x, δ1, S, e1, fun B1 ad1 v H1 q1 p1 S1 r1 => k B1 ad1 _ H1 q1 p1 (S1.setS r1)⟩
end
end PK
namespace PK
open PySem L2 PySem.Spec PyProof.Rows
/-! ### a def keeps its promise -/
def fnD (n : Nat) (f : SF) : GF := fun rs cs => (f ⟨rs.map some ++ List.replicate (n - rs.length) none, cs.map some⟩).bind fun p => (lives p.2 (List.range cs.length)).bind fun cs' => match p.1 with
  | .rt (.fz d) => some (.val d, cs')
  | .rt (.rf k) => if cs.length ≤ k then match p.2.st[k]? with
      | some (some es) => some (.fresh es, cs')
      | _ => none
    else none
  | .nx => some (.val .non, cs')
  | _ => none
section
variable {K : PySem.W.Frag} {mg : Str → Option Value} {B B' F F' : Hp} {ad ad' : List Addr} {σ : L2.St} {δ δ' : Dl} {H H' : Hp} {p : Addr}
theorem SRep.weakF (S : SRep K mg B F ad σ δ H) (h : Same F' F) : SRep K mg B F' ad σ δ H where
  exB := S.exB
  exF := fun a o e => S.exF a o (h a o e)
  dis := fun a o e => S.dis a o (h a o e)
  nd := S.nd
  len := S.len
  slen := S.slen
  cell := fun k ds e => by
    obtain ⟨q, xs, h1, h2, h3, h4, h5⟩ := S.cell k ds e
    exact ⟨q, xs, h1, h2, h3, h4, h.free h5⟩
  dead := S.dead
  slot := S.slot
theorem SRep.pick (S : SRep K mg B F ad σ δ H) {ks : List Nat} {cs : List (List D)} (h : lives δ ks = some cs) (hn : ks.Nodup) : SRep K mg B F (addrs ad ks) [] ⟨[], cs.map some⟩ H :=
  (S.down h hn).weakF fun a o e => by
    unfold frameOf
    split
    · rename_i hx
      obtain ⟨k, ds, _, h1, h2⟩ := hx
      obtain ⟨q, xs, g1, g2, _, g4, g5⟩ := S.cell k ds h2
      rw [h1] at g1
      cases g1
      rw [g5] at e
      cases e
    · exact e
theorem addrs_range (ad m : List Addr) : addrs (ad ++ m) (List.range ad.length) = ad := by
  unfold addrs
  apply List.ext_getElem?
  intro i
  have key : ∀ n, n ≤ ad.length → ((List.range n).filterMap fun k => (ad ++ m)[k]?) = ad.take n := by
    intro n
    induction n with
    | zero => intro _; rfl
    | succ n ih =>
      intro hn
      rw [List.range_succ, List.filterMap_append, ih (by omega)]
      have hl : n < ad.length := by omega
      have e : (ad ++ m)[n]? = some ad[n] := by
        rw [List.getElem?_append_left hl]
        exact List.getElem?_eq_getElem hl
      rw [List.filterMap_cons, e]
      simp only [List.filterMap_nil]
      rw [List.take_add_one, List.getElem?_eq_getElem hl]
      rfl
  rw [key _ (Nat.le_refl _), List.take_length]
theorem addrs_app (ad : List Addr) (ks : List Nat) (k : Nat) (a : Addr) (h : ad[k]? = some a) : addrs ad (ks ++ [k]) = addrs ad ks ++ [a] := by
  unfold addrs
  rw [List.filterMap_append]
  congr 1
  rw [List.filterMap_cons, h]
  rfl
theorem lives_app {es : List D} {k : Nat} : ∀ {ks : List Nat} {cs : List (List D)}, lives δ ks = some cs → δ.st[k]? = some (some es) → lives δ (ks ++ [k]) = some (cs ++ [es])
  | [], cs, h, g => by
    simp only [lives] at h
    cases h
    show lives δ [k] = some [es]
    simp only [lives, g]
  | k0 :: ks, cs, h, g => by
    simp only [lives] at h
    split at h
    · rename_i ds r h1 h2
      cases h
      show lives δ (k0 :: (ks ++ [k])) = some (ds :: (r ++ [es]))
      simp only [lives, h1, lives_app h2 g]
    · cases h
theorem rps_start {rs : List Vl} {vs : List V} {n : Nat} (S : SRep K mg B F ad [] ⟨[], δ.st⟩ H) (r : RpVs K mg B ad rs vs) : SRep K mg B F ad (vs.map some ++ List.replicate (n - vs.length) none) ⟨rs.map some ++ List.replicate (n - rs.length) none, δ.st⟩ H :=
  ⟨S.exB, S.exF, S.dis, S.nd, S.len, by simp [RpVs.length r], S.cell, S.dead, fun i d e => by
    have e' : (rs.map some ++ List.replicate (n - rs.length) none)[i]? = some (some d) := e
    have hl := RpVs.length r
    have hi : i < rs.length := by
      rcases Nat.lt_or_ge i rs.length with z | z
      · exact z
      · rw [List.getElem?_append_right (by simpa using z)] at e'
        rw [List.getElem?_replicate] at e'
        split at e' <;> cases e'
    rw [List.getElem?_append_left (by simpa using hi), List.getElem?_map] at e'
    obtain ⟨d', e1, e2⟩ := Option.map_eq_some_iff.mp e'
    cases e2
    have key : ∀ {rs : List Vl} {vs : List V} {i : Nat} {d : Vl}, RpVs K mg B ad rs vs → rs[i]? = some d → ∃ v, vs[i]? = some v ∧ RpV K mg B ad d v := by
      intro rs
      induction rs with
      | nil => intro vs i d _ h; simp at h
      | cons x xs ih =>
        intro vs i d h g
        obtain ⟨v, w, rfl, h2, h3⟩ := h
        cases i with
        | zero =>
          simp at g
          subst g
          exact ⟨v, rfl, h2⟩
        | succ i =>
          obtain ⟨u, k1, k2⟩ := ih h3 (by simpa using g)
          exact ⟨u, by simpa using k1, k2⟩
    obtain ⟨v, k1, k2⟩ := key r e1
    refine ⟨v, ?_, k2⟩
    rw [List.getElem?_append_left (by simpa [hl] using hi), List.getElem?_map, k1]
    rfl⟩
end
section
variable {P : Program} {w : World} {K : PySem.W.Frag} {mg : Str → Option Value} {base : Heap}
theorem fn_okD {x qual : Str} {st : Stmt} {f : Addr} {fd : FuncData} {N ps : List Str} {k : Nat} {fs : SF} (F : Fun K x qual st f fd) (S : FnScope N ps (defScope st))
    (hbody : ∀ (cdv : Value) (A : Around) (outer : List Env) (s : Shared) (H : Hp) (E : XK), Room k (A.deeper (envOfC qual (defScope st) s.heap.objs.size f cdv)) → PDSs (cxOf CX0 P w K mg base N qual (defScope st) f cdv A outer s H E).nox (defBody st) fs) :
    FnOk P w K mg base CX0 (k + 1) f fd ps (spD K mg ps.length (fnD N.length fs)) := by
  refine F.ok S (fun vs H Q E h => h.1) (fun cdv A outer s H vs Q E hr h => ?_)
  refine ⟨_, hbody cdv A outer s H E hr, ?_⟩
  obtain ⟨hlen, B, Fr, ad, rs, cs, r, cs', S0, rv, e, hl, kk⟩ := h
  unfold fnD at e
  obtain ⟨⟨fl, δ'⟩, e1, e⟩ := Option.bind_eq_some_iff.mp e
  obtain ⟨cs2, e2, e⟩ := Option.bind_eq_some_iff.mp e
  have S1 : SRep K mg B Fr ad (start N vs) ⟨rs.map some ++ List.replicate (N.length - rs.length) none, cs.map some⟩ H := rps_start (δ := ⟨[], cs.map some⟩) S0 rv
  have hadl : ad.length = cs.length := by
    have := S0.len
    simpa using this
  refine ⟨B, Fr, ad, _, fl, δ', S1, e1, fun B' ad' σ' H' sB pA S' => ?_⟩
  obtain ⟨m, rfl⟩ := pA
  have base : SRep K mg B' Fr ad [] ⟨[], cs2.map some⟩ H' := by
    have := S'.pick e2 List.nodup_range
    rw [← hadl, addrs_range] at this
    exact this
  cases fl with
  | nx =>
    cases e
    exact kk B' .non H' sB ⟨base, rfl⟩
  | bk => cases e
  | ct => cases e
  | rt v =>
    intro u hu
    cases v with
    | fz d =>
      cases e
      exact kk B' u H' sB ⟨base, hu⟩
    | rf j =>
      simp only at e
      split at e
      · rename_i hj
        split at e
        · rename_i es hes
          cases e
          obtain ⟨a, rfl, ha⟩ := hu
          refine kk B' _ H' sB ⟨a, rfl, ?_⟩
          have hnd : (List.range cs.length ++ [j]).Nodup := by
            rw [List.nodup_append]
            refine ⟨List.nodup_range, by simp, fun x hx y hy => ?_⟩
            have hy' : y = j := by simpa using hy
            have hx' : x < cs.length := by simpa using hx
            omega
          have := S'.pick (lives_app e2 hes) hnd
          rw [addrs_app _ _ _ _ ha, ← hadl, addrs_range] at this
          exact this
        · cases e
      · cases e
    | nl _ => cases e
end
end PK
namespace PK
open PySem L2 PySem.Spec PyProof.Rows
/-! ### targets of a plain assignment, one after another -/
abbrev HF := D → Dl → Option Dl
def gD (K : PySem.W.Frag) (mg : Str → Option Value) (h : HF) : TG := fun v σ H Q => ∃ B F ad δ d δ', SRep K mg B F ad σ δ H ∧ Rp K mg B d v ∧ h d δ = some δ' ∧
  ∀ B' ad' σ' H', Same B B' → Pre ad ad' → SRep K mg B' F ad' σ' δ' H' → Q σ' H'
abbrev HsF := List D → Dl → Option Dl
def gDs (K : PySem.W.Frag) (mg : Str → Option Value) (h : HsF) : TGs := fun vs σ H Q => ∃ B F ad δ ds δ', SRep K mg B F ad σ δ H ∧ Rps K mg B ds vs ∧ h ds δ = some δ' ∧
  ∀ B' ad' σ' H', Same B B' → Pre ad ad' → SRep K mg B' F ad' σ' δ' H' → Q σ' H'
theorem PG.weak {X : Cx} {e : Expr} {t t' : TG} (h : PG X e t) (w : ∀ v σ H Q, t' v σ H Q → t v σ H Q) : PG X e t' := ⟨fun pins s σ H v u Q I r q => h.run pins s σ H v u Q I r (w v σ H Q q)⟩
theorem PGs.weak {X : Cx} {e : List Expr} {t t' : TGs} (h : PGs X e t) (w : ∀ v σ H Q, t' v σ H Q → t v σ H Q) : PGs X e t' := ⟨fun pins s σ H v u Q I r q => h.run pins s σ H v u Q I r (w v σ H Q q)⟩
def hNm (i : Nat) : HF := fun d δ => some { δ with sl := δ.sl.set i (some (.fz d)) }
def setIx (δ : Dl) (o : Vl) (i : Vl) (d : D) : Option Dl := match o, i with
  | .rf k, .fz (.int n) => match δ.st[k]? with
    | some (some ds) => (ixN ds.length n).map fun j => { δ with st := δ.st.set k (some (ds.set j d)) }
    | _ => none
  | _, _ => none
def hSub (fo fi : EF) : HF := fun d δ => (fo δ).bind fun p => (fi p.2).bind fun q => setIx q.2 p.1 q.1 d
def hNil : HsF := fun ds δ => match ds with
  | [] => some δ
  | _ => none
def hCons (h : HF) (g : HsF) : HsF := fun ds δ => match ds with
  | d :: r => (h d δ).bind fun δ1 => g r δ1
  | [] => none
def hTup (n : Nat) (g : HsF) : HF := fun d δ => match d with
  | .tup ds => if ds.length = n then g ds δ else none
  | _ => none
section
variable {X : Cx} {e o i : Expr} {f fo fi : EF} {pos : Pos} {h : HF} {g : HsF} {es : List Expr}
theorem pgd_name (i : Nat) {x : Str} (hN : X.N.Nodup) (hi : X.N[i]? = some x := by rfl) (hx : Loc X.env.scope x := by first | exact Or.inl rfl | exact Or.inr rfl) (hf : X.fn x = true ∨ X.env.scope.names.lookup x = some .local := by first | exact .inl rfl | exact .inr rfl) :
    PG X (.Name x pos) (gD X.K X.mg (hNm i)) := PG.weak (pg_name hN hi hx hf) fun v σ H Q h => by
  obtain ⟨B, F, ad, δ, d, δ', S, r, e, k⟩ := h
  cases e
  exact k B ad _ H (Same.refl _) (Pre.refl _) (S.setS (d := .fz d) r)
theorem pgd_sub (ho : PD X o fo) (hi : PD X i fi)
    (ha : ∀ v, assign (.Subscript o i pos) X.env v = (do
      let ov ← holding [v] (eval o X.env)
      let iv ← holding [v, ov] (eval i X.env)
      standAt pos
      holding [v, ov, iv] (setItem ov iv v)
      release [v, ov, iv] []) := by intro _; rfl) : PG X (.Subscript o i pos) (gD X.K X.mg (hSub fo fi)) := PG.weak (pg_sub ho hi set_list ha) fun v σ H Q h => by
  obtain ⟨B, F, ad, δ, d, δ', S, r, e, k⟩ := h
  unfold hSub at e
  obtain ⟨⟨x, δ1⟩, e1, e⟩ := Option.bind_eq_some_iff.mp e
  obtain ⟨⟨y, δ2⟩, e2, e⟩ := Option.bind_eq_some_iff.mp e
  refine ⟨B, F, ad, δ, x, δ1, S, e1, fun B1 ad1 v1 H1 s1 p1 S1 r1 => ?_⟩
  refine ⟨B1, F, ad1, δ1, y, δ2, S1, e2, fun B2 ad2 v2 H2 s2 p2 S2 r2 => ?_⟩
  have r1' := r1.mono s2 p2
  unfold setIx at e
  cases x with
  | nl _ => first | (cases e; done) | (cases e3; done) | (cases e4; done) | (cases h; done) | (cases e2; done) | (simp at e; done)
  | fz d => cases e
  | rf c =>
    cases y with
    | rf d => cases e
    | nl _ => cases e
    | fz d =>
      cases d with
      | int n =>
        simp only at e
        split at e
        · rename_i ds hk
          obtain ⟨j, e3, e4⟩ := Option.map_eq_some_iff.mp e
          cases e4
          obtain ⟨a, h1, h2⟩ := r1'
          have r2' : v2 = .int n := r2
          obtain ⟨q, xs, g1, g2, g3, _, _⟩ := S2.cell _ _ hk
          rw [h2] at g1
          cases g1
          have hl := Rps.length g3
          exact ⟨a, xs, n, j, h1, r2', g2, by rw [hl]; exact e3, k B2 ad2 σ _ (s1.trans s2) (p1.trans p2) (S2.cellSet hk h2 g2 (Rps.set g3 (Rp.mono (s1.trans s2) _ _ r)))⟩
        · cases e
      | _ => cases e
theorem pgds_nil : PGs X [] (gDs X.K X.mg hNil) := PGs.weak pgs_nil fun v σ H Q h => by
  obtain ⟨B, F, ad, δ, ds, δ', S, r, e, k⟩ := h
  cases ds with
  | nil =>
    cases e
    exact ⟨r, k B ad σ H (Same.refl _) (Pre.refl _) S⟩
  | cons _ _ => cases e
theorem pgds_cons (h1 : PG X e (gD X.K X.mg h)) (h2 : PGs X es (gDs X.K X.mg g)) (hs : (assignEach (e :: es) X.env).map (·.2) = assign e X.env :: (assignEach es X.env).map (·.2) := by rfl) : PGs X (e :: es) (gDs X.K X.mg (hCons h g)) :=
  PGs.weak (pgs_cons h1 h2 hs) fun v σ H Q h => by
  obtain ⟨B, F, ad, δ, ds, δ', S, r, e, k⟩ := h
  cases ds with
  | nil => cases e
  | cons d ds =>
    obtain ⟨δ1, e1, e2⟩ := Option.bind_eq_some_iff.mp e
    obtain ⟨w, ws, rfl, r1, r2⟩ := r
    refine ⟨w, ws, rfl, B, F, ad, δ, d, δ1, S, r1, e1, fun B1 ad1 σ1 H1 s1 p1 S1 => ?_⟩
    exact ⟨B1, F, ad1, δ1, ds, δ', S1, Rps.mono s1 _ _ r2, e2, fun B2 ad2 σ2 H2 s2 p2 S2 => k B2 ad2 σ2 H2 (s1.trans s2) (p1.trans p2) S2⟩
theorem pgd_tup {k n : Nat} (hc : X.calm = true) (hg : PGs X es (gDs X.K X.mg g)) (hn : (assignEach es X.env).length = n := by rfl) (hst : (assignEach es X.env).findIdx? (·.1) = none := by rfl) : PG X (.Tuple es k pos) (gD X.K X.mg (hTup n g)) :=
  PG.weak (pg_tup hc hg hn hst) fun v σ H Q h => by
  obtain ⟨B, F, ad, δ, d, δ', S, r, e, k⟩ := h
  cases d with
  | tup ds =>
    have e' : (if ds.length = n then g ds δ else none) = some δ' := e
    split at e'
    · rename_i hl
      obtain ⟨a, xs, rfl, h2, h3⟩ := r
      exact ⟨a, xs, rfl, SqT.of (S.exB _ _ h2), by rw [Rps.length h3]; exact hl, B, F, ad, δ, ds, δ', S, h3, e', k⟩
    · cases e'
  | _ => cases e
def sAsg (h : HF) (f : EF) : SF := fun δ => (f δ).bind fun p => (frz p.2 p.1).bind fun q => (h q.1 q.2).map fun δ' => (.nx, δ')
theorem pds_asg {tg : Expr} (he : PD X e f) (hg : PG X tg (gD X.K X.mg h)) (hs : swapsWithSole [tg] e pos.line X.env = pure false := by rfl) (hw : swappedStores [tg] e X.env = pure none := by rfl)
    (h1 : (assignEach [tg] X.env).map (·.2) = [assign tg X.env] := by rfl) : PDS X (.Assign [tg] e pos) (sAsg h f) := PS.weak (ps_asg he hg hs hw h1) fun D σ H h => by
  obtain ⟨B, F, ad, δ, r, δ', S, e, k⟩ := h
  unfold sAsg at e
  obtain ⟨⟨x, δ1⟩, e1, e⟩ := Option.bind_eq_some_iff.mp e
  obtain ⟨⟨d, δ2⟩, e2, e⟩ := Option.bind_eq_some_iff.mp e
  obtain ⟨δ3, e3, e⟩ := Option.map_eq_some_iff.mp e
  cases e
  refine ⟨B, F, ad, δ, x, δ1, S, e1, fun B1 ad1 v1 H1 s1 p1 S1 r1 => ?_⟩
  obtain ⟨B2, s2, S2, r2⟩ := S1.frz r1 e2
  exact ⟨B2, F, ad1, δ2, d, _, S2, r2, e3, fun B3 ad3 σ3 H3 s3 p3 S3 => k B3 ad3 σ3 H3 ((s1.trans s2).trans s3) (p1.trans p3) S3⟩
/-- a, b = x, y -/
def sPar (is : List Nat) (fa : AF) : SF := fun δ => (fa δ).bind fun p => match is, p.1 with
  | [i, j], [a, b] => some (.nx, { p.2 with sl := (p.2.sl.set i (some a)).set j (some b) })
  | [i, j, l], [a, b, c] => some (.nx, { p.2 with sl := ((p.2.sl.set i (some a)).set j (some b)).set l (some c) })
  | _, _ => none
theorem pds_par {i j : Nat} {x y : Str} {a b : Expr} {fa : AF} {px py pt : Pos} {kt k2 pt2} (hc : X.calm = true) (hN : X.N.Nodup) (hi : X.N[i]? = some x) (hj : X.N[j]? = some y) (hij : i ≠ j)
    (hx : X.env.scope.names.lookup x = some .local) (hy : X.env.scope.names.lookup y = some .local) (ha : PDA X [a, b] fa)
    (hw : swappedStores [.Tuple [.Name x px, .Name y py] kt pt] (.Tuple [a, b] k2 pt2) X.env = pure (some [x, y]))
    (hs : swapsWithSole [.Tuple [.Name x px, .Name y py] kt pt] (.Tuple [a, b] k2 pt2) pos.line X.env = pure false := by rfl) :
    PDS X (.Assign [.Tuple [.Name x px, .Name y py] kt pt] (.Tuple [a, b] k2 pt2) pos) (sPar [i, j] fa) := PS.weak (ps_par hc hN hi hj hij hx hy ha hw hs) fun D σ H h => by
  obtain ⟨B, F, ad, δ, r, δ', S, e, k⟩ := h
  unfold sPar at e
  obtain ⟨⟨rs, δ1⟩, e1, e⟩ := Option.bind_eq_some_iff.mp e
  refine ⟨B, F, ad, δ, rs, δ1, S, e1, fun B1 ad1 vs H1 s1 p1 S1 r1 => ?_⟩
  match rs, e, r1 with
  | [a, b], e, r1 =>
    cases e
    obtain ⟨v, w, rfl, h2, v2, w2, rfl, h3, h4⟩ := r1
    have h4' : w2 = [] := h4
    subst h4'
    exact ⟨v, v2, rfl, k B1 ad1 _ H1 s1 p1 ((S1.setS h2).setS h3)⟩
  | [], e, _ => cases e
  | [_], e, _ => cases e
  | _ :: _ :: _ :: _, e, _ => cases e
/-! ### methods of lists -/
/-- what a method does to the list: the arguments (frozen), the list, what comes of it and what it hands back -/
abbrev MF := List D → List D → Option (D × List D)
def dMt (g : MF) (fo : EF) (fa : AF) : EF := fun δ => (fo δ).bind fun p => match p.1 with
  | .rf k => match p.2.st[k]? with
    | some (some _) => (fa p.2).bind fun q => (frzs q.2 q.1).bind fun s => match s.2.st[k]? with
      | some (some ds) => (g s.1 ds).map fun z => (.fz z.1, { s.2 with st := s.2.st.set k (some z.2) })
      | _ => none
    | _ => none
  | _ => none
def appD : MF := fun as ds => match as with
  | [d] => if ds.length < small then some (.non, ds ++ [d]) else none
  | _ => none
def extD : MF := fun as ds => match as with
  | [.lst es] => if ds.length + es.length ≤ small then some (.non, ds ++ es) else none
  | _ => none
def popD : MF := fun as ds => match as with
  | [] => ds[ds.length - 1]?.map fun d => (d, ds.dropLast)
  | _ => none
/-- by values: what the library's rule asks -/
def MtD (X : Cx) (g : MF) (r : V → List V → Hp → VK → Prop) : Prop := ∀ (B F : Hp) (ad : List Addr) (σ : L2.St) (δ : Dl) (H : Hp) (k : Nat) (ds as : List D) (z : D × List D) (a : Addr) (xs vs : List V) (Q : VK), SRep X.K X.mg B F ad σ δ H → δ.st[k]? = some (some ds) → ad[k]? = some a → H a = some (.lst xs) → Rps X.K X.mg B ds xs → Rps X.K X.mg B as vs → g as ds = some z →
  (∀ y ys H', H' = upd H a (.lst ys) → Rps X.K X.mg B z.2 ys → Rp X.K X.mg B z.1 y → Q y H') → r (.ref a) vs H Q
theorem mtd_app : MtD X appD rAppend := by
  intro B F ad σ δ H k ds as z a xs vs Q S hk ha hx r rv e q
  unfold appD at e
  split at e
  · split at e
    · rename_i d hl
      cases e
      obtain ⟨v, w, rfl, h2, h3⟩ := rv
      have h3' : w = [] := h3
      subst h3'
      exact ⟨a, xs, v, rfl, rfl, hx, Nat.lt_of_lt_of_le (by rw [Rps.length r]; exact hl) (small_sz (Nat.le_refl _)), q .non _ _ rfl (Rps.app r (Rps.one h2)) rfl⟩
    · cases e
  · cases e
theorem rps_dropLast {K : PySem.W.Frag} {mg : Str → Option Value} {B : Hp} {ds : List D} {xs : List V} (r : Rps K mg B ds xs) : Rps K mg B ds.dropLast xs.dropLast := by
  rw [List.dropLast_eq_take, List.dropLast_eq_take, Rps.length r]
  exact Rps.take _ r
theorem mtd_pop : MtD X popD rPop := by
  intro B F ad σ δ H k ds as z a xs vs Q S hk ha hx r rv e q
  unfold popD at e
  split at e
  · obtain ⟨d, e1, e2⟩ := Option.map_eq_some_iff.mp e
    cases e2
    have rv' : vs = [] := rv
    subst rv'
    obtain ⟨v, g1, g2⟩ := Rps.get r e1
    exact ⟨a, xs, v, rfl, rfl, hx, by rw [Rps.length r]; exact g1, q v _ _ rfl (rps_dropLast r) g2⟩
  · cases e
theorem mt_w {g : MF} {r : V → List V → Hp → VK → Prop} {fa : AF} {σ : L2.St} {H : Hp} {Q : VK} (hr : MtD X g r) (h : tD X.K X.mg (dMt g fo fa) σ H Q) : tBM X.K "list" r (tD X.K X.mg fo) (tDA X.K X.mg fa) σ H Q := by
  obtain ⟨B, F, ad, δ, rr, δ', S, e, k⟩ := h
  unfold dMt at e
  obtain ⟨⟨x, δ1⟩, e1, e⟩ := Option.bind_eq_some_iff.mp e
  refine ⟨B, F, ad, δ, x, δ1, S, e1, fun B1 ad1 v1 H1 s1 p1 S1 r1 => ?_⟩
  cases x with
  | nl _ => first | (cases e; done) | (cases e3; done) | (cases e4; done) | (cases h; done) | (cases e2; done) | (simp at e; done)
  | fz d => cases e
  | rf c =>
    simp only at e
    split at e
    · rename_i es hes
      obtain ⟨⟨rs, δ2⟩, e2, e⟩ := Option.bind_eq_some_iff.mp e
      obtain ⟨⟨as, δ3⟩, e3, e⟩ := Option.bind_eq_some_iff.mp e
      simp only at e
      obtain ⟨a, rfl, h2⟩ := r1
      split at e
      · rename_i ds hk
        obtain ⟨⟨zd, zl⟩, e4, e5⟩ := Option.map_eq_some_iff.mp e
        cases e5
        obtain ⟨q', xs0, g1, hx0, _⟩ := S1.cell c es hes
        rw [h2] at g1
        cases g1
        refine ⟨.inl ⟨rfl, xs0, SqL.of hx0⟩, B1, F, ad1, δ1, rs, δ2, S1, e2, fun B2 ad2 vs H2 s2 p2 S2 r2 => ?_⟩
        obtain ⟨B3, s3, S3, r3⟩ := S2.frzs r2 e3
        obtain ⟨q, xs, g1, g2, g3, _, _⟩ := S3.cell c ds hk
        rw [p2.get h2] at g1
        cases g1
        exact hr B3 F ad2 σ δ3 H2 c ds as (zd, zl) a xs vs Q S3 hk (p2.get h2) g2 g3 r3 e4 fun y ys H' eH ry rz => by
          subst eH
          exact k B3 ad2 y _ ((s1.trans s2).trans s3) (p1.trans p2) (S3.cellSet hk (p2.get h2) g2 ry) rz
      · cases e
    · cases e
theorem tD_mono {K : PySem.W.Frag} {mg : Str → Option Value} {f : EF} {σ : L2.St} {H : Hp} {Q Q' : VK} (h : tD K mg f σ H Q) (w : ∀ v H, Q v H → Q' v H) : tD K mg f σ H Q' := by
  obtain ⟨B, F, ad, δ, r, δ', S, e, k⟩ := h
  exact ⟨B, F, ad, δ, r, δ', S, e, fun B' ad' v H' s p S' r' => w _ _ (k B' ad' v H' s p S' r')⟩
theorem bm0_w {r : V → List V → Hp → VK → Prop} {σ : L2.St} {H : Hp} {Q : VK} (h : tBM X.K "list" r (tD X.K X.mg fo) (tDA X.K X.mg aNil) σ H Q) : tBM0 X.K "list" r (tD X.K X.mg fo) σ H Q :=
  tD_mono h fun v H1 ⟨h1, B, F, ad, δ, rs, δ', S, e, k⟩ => ⟨h1, by
    cases e
    exact k B ad [] H1 (Same.refl _) (Pre.refl _) S rfl⟩
theorem pd_app {ap cp : Pos} {fe : EF} (ho : PD X o fo) (he : PD X e fe) (hbase : attributeBase o "append" X.env (eval o X.env) = eval o X.env := by rfl)
    (hfew : ((backTo cp (starEach [e] X.env)).all (fun x => !x.1) && (backToKw cp (keywordEach [] X.env)).all (fun x => x.1.isSome) && decide ([e].length + ([] : List Keyword).length + (if ([] : List Keyword).isEmpty then 0 else 1) < 30)) = true := by rfl)
    (hline : (ap.endLine == cp.line) = true := by rfl) (hs : starEach [e] X.env = (false, eval e X.env) :: starEach [] X.env := by rfl) (hpl : (backTo cp (starEach [] X.env)).any (·.1) = false := by rfl) :
    PD X (.Call (.Attribute o "append" ap) [e] [] cp) (dMt appD fo (aCons fe aNil)) :=
  PE.weak (pe_bm PySem.F.plainAttrs_list PySem.F.slot_list_append PySem.F.type_list_append mt_append ho (pda_cons he pda_nil hs) hbase hfew hline hs hpl) fun σ H Q h => mt_w mtd_app h
theorem pd_pop {ap cp : Pos} (ho : PD X o fo) (hbase : attributeBase o "pop" X.env (eval o X.env) = eval o X.env := by rfl) (hline : (ap.endLine == cp.line) = true := by rfl) :
    PD X (.Call (.Attribute o "pop" ap) [] [] cp) (dMt popD fo aNil) :=
  PE.weak (pe_bm0 PySem.F.plainAttrs_list PySem.F.slot_list_pop PySem.F.type_list_pop mt_pop ho hbase hline) fun σ H Q h => bm0_w (mt_w mtd_pop h)
/-! x += e at a name -/
end
end PK
namespace PK
open PySem L2 PySem.Spec PyProof.Rows
/-! ### fields, properties, methods -/
theorem lookup_zip {K : PySem.W.Frag} {mg : Str → Option Value} {B : Hp} : ∀ {ns : List Str} {ds : List D} {xs : List V} {f : Str} {d : D}, Rps K mg B ds xs → (ns.zip ds).lookup f = some d → ∃ v, (ns.zip xs).lookup f = some v ∧ Rp K mg B d v
  | [], ds, xs, f, d, r, e => by simp at e
  | n :: ns, [], xs, f, d, r, e => by simp at e
  | n :: ns, d0 :: ds, xs, f, d, r, e => by
    obtain ⟨v, w, rfl, h2, h3⟩ := r
    rw [List.zip_cons_cons, List.lookup_cons] at e ⊢
    by_cases h : f == n
    · simp only [h] at e ⊢
      cases e
      exact ⟨v, rfl, h2⟩
    · simp only [h] at e ⊢
      exact lookup_zip h3 e
theorem lookup_none {ns : List Str} : ∀ {xs : List V} {f : Str}, ns.contains f = false → (ns.zip xs).lookup f = none := by
  induction ns with
  | nil => intro xs f _; simp
  | cons n ns ih =>
    intro xs f h
    cases xs with
    | nil => simp
    | cons x xs =>
      rw [List.contains_cons, Bool.or_eq_false_iff] at h
      rw [List.zip_cons_cons, List.lookup_cons, h.1]
      exact ih h.2
def dFld (c f : Str) (fe : EF) : EF := fun δ => (fe δ).bind fun p => match p.1 with
  | .fz (.ins c' ns ds) => if c' = c then ((ns.zip ds).lookup f).map fun d => (.fz d, p.2) else none
  | _ => none
section
variable {X : Cx} {e o : Expr} {f fo : EF} {pos p apos : Pos} {es : List Expr} {fs : AF} {c m : Str} {C : Addr}
theorem pd_fld {fn : Str} (he : PD X e f) (hC : X.mg c = some (.ref C)) (cl : Cls X.K C) (na : NoAttr X.K C fn) (hb : attributeBase e fn X.env (eval e X.env) = eval e X.env := by rfl) : PD X (.Attribute e fn pos) (dFld c fn f) :=
  PE.weak (pe_fld he hb) fun σ H Q h => by
  obtain ⟨B, F, ad, δ, r, δ', S, e, k⟩ := h
  unfold dFld at e
  obtain ⟨⟨x, δ1⟩, e1, e⟩ := Option.bind_eq_some_iff.mp e
  refine ⟨B, F, ad, δ, x, δ1, S, e1, fun B1 ad1 v1 H1 s1 p1 S1 r1 => ?_⟩
  cases x with
  | rf k => cases e
  | nl _ => cases e
  | fz d =>
    cases d with
    | ins c' ns ds =>
      simp only at e
      split at e
      · rename_i hc
        obtain ⟨d, e2, e3⟩ := Option.map_eq_some_iff.mp e
        cases e3
        obtain ⟨a, C', dx, xs, h1, h2, h3, h4, h5⟩ := r1
        rw [hc, hC] at h2
        cases h2
        obtain ⟨v, g1, g2⟩ := lookup_zip h5 e2
        exact ⟨a, C, dx, _, v, h1, S1.exB _ _ h3, cl, na, g1, k B1 ad1 v H1 s1 p1 S1 g2⟩
      · cases e
    | _ => cases e
/-- a call with the receiver ahead -/
def recvOk (c m : Str) : Vl → Bool
  | .fz (.ins c' ns _) => decide (c' = c) && !ns.contains m
  | _ => false
def dMeth (mm : Bool) (c m : Str) (n : Nat) (G : GF) (fo : EF) (fa : AF) : EF := fun δ => (fo δ).bind fun p => if recvOk c m p.1 then (fa p.2).bind fun q => if (p.1 :: q.1).length = n then callG mm G (p.1 :: q.1) q.2 else none else none
theorem recv_of {K : PySem.W.Frag} {mg : Str → Option Value} {B H : Hp} {ad : List Addr} {r : Vl} {v : V} (hC : mg c = some (.ref C)) (s : Same B H) (h : RpV K mg B ad r v) (e : recvOk c m r = true) : ∃ a dx fs, v = .ref a ∧ H a = some (.ins C dx fs) ∧ fs.lookup m = none := by
  cases r with
  | rf k => cases e
  | nl _ => cases e
  | fz d =>
    cases d with
    | ins c' ns ds =>
      simp only [recvOk, Bool.and_eq_true, decide_eq_true_eq, Bool.not_eq_true'] at e
      obtain ⟨a, C', dx, xs, h1, h2, h3, h4, h5⟩ := h
      rw [e.1, hC] at h2
      cases h2
      exact ⟨a, dx, _, h1, s _ _ h3, lookup_none e.2⟩
    | _ => cases e
/-- a property -/
theorem pd_prop {k n : Nat} {g pp : Addr} {fd : FuncData} {ps : List Str} {G : GF} {fn : Str} (mm : Bool) (ho : PD X o fo) (hC : X.mg c = some (.ref C)) (cl : Cls X.K C) (hp : PropOf X.K C fn pp g) (Fk : FnOk X.prog X.w X.K X.mg X.base CX0 k g fd ps (spD X.K X.mg n G)) (hr : Room (k + 1) X.A)
    (hb : Binds X.K fd ps []) (hab : attributeBase o fn X.env (eval o X.env) = eval o X.env := by rfl) : PD X (.Attribute o fn pos) (dMeth mm c "" n G fo aNil) := PE.weak (pe_prop ho cl hp Fk hr hb .nil pass0 hab) fun σ H Q h => by
  obtain ⟨B, F, ad, δ, r, δ', S, e, k⟩ := h
  unfold dMeth at e
  obtain ⟨⟨x, δ1⟩, e1, e⟩ := Option.bind_eq_some_iff.mp e
  split at e
  · rename_i hx
    have e' : (if [x].length = n then callG mm G [x] δ1 else none) = some (r, δ') := e
    split at e'
    · rename_i hl
      refine ⟨B, F, ad, δ, x, δ1, S, e1, fun B1 ad1 v1 H1 s1 p1 S1 r1 => ?_⟩
      obtain ⟨a, dx, fs, h1, h2, h3⟩ := recv_of hC S1.exB r1 hx
      refine ⟨a, dx, fs, h1, h2, ?_⟩
      subst h1
      show spD X.K X.mg n G [.ref a] H1 Q E0
      have rr : RpVs X.K X.mg B1 ad1 [x] [.ref a] := ⟨.ref a, [], rfl, r1, rfl⟩
      exact call_w S1 rr hl e' fun B' ad' v H' s3 p3 S' r' => k B' ad' v H' (s1.trans s3) (p1.trans p3) S' r'
    · cases e'
  · cases e
end
/-! ### the making of an instance: __init__ -/
/-- the slots, the lists and the fields so far -/
structure Il where
  dl : Dl
  ns : List Str
  ds : List D
abbrev IFn := Il → Option Il
/-- self stands at slot 0, with the fields so far; a statement of an __init__ that falls through -/
def tIn (K : PySem.W.Frag) (mg : Str → Option Value) (c : Str) (f : IFn) : TS := fun D σ H => ∃ B F ad i i' x C dx xs, mg c = some (.ref C) ∧ σ[0]? = some (some (.ref x)) ∧ x ≠ dx ∧ F x = none ∧ F dx = none ∧
  SRep K mg B (upd (upd F dx (.own x)) x (.ins C dx (i.ns.zip xs))) ad σ i.dl H ∧ i.ns.length = xs.length ∧ Rps K mg B i.ds xs ∧ f i = some i' ∧
  ∀ B' ad' σ' H' ys, Same B B' → Pre ad ad' → σ'[0]? = some (some (.ref x)) → SRep K mg B' (upd (upd F dx (.own x)) x (.ins C dx (i'.ns.zip ys))) ad' σ' i'.dl H' → i'.ns.length = ys.length → Rps K mg B' i'.ds ys → D.nx σ' H'
def iSeq (f g : IFn) : IFn := fun i => (f i).bind g
def iDrop (f : EF) : IFn := fun i => (f i.dl).map fun p => { i with dl := p.2 }
def iSet (j : Nat) (f : EF) : IFn := fun i => (f i.dl).map fun p => { i with dl := { p.2 with sl := p.2.sl.set (j + 1) (some p.1) } }
def iFld (fn : Str) (f : EF) : IFn := fun i => if i.ns.contains fn then none else if i.ns.length < 900 then (f i.dl).bind fun p => (frz p.2 p.1).map fun q => ⟨q.2, i.ns ++ [fn], i.ds ++ [q.1]⟩ else none
section
variable {X : Cx} {e : Expr} {f : EF} {pos : Pos} {st : Stmt} {rest : List Stmt} {c : Str} {C : Addr} {g h : IFn}
theorem pin_set (j : Nat) {x : Str} {pos' : Pos} (he : PD X e f) (hN : X.N.Nodup) (hi : X.N[j + 1]? = some x := by rfl) (hx : Loc X.env.scope x := by first | exact Or.inl rfl | exact Or.inr rfl) (hs : swapsWith e (some (.Name x pos')) pos.line X.env = pure false := by rfl)
    (hf : X.fn x = true ∨ X.env.scope.names.lookup x = some .local := by first | exact .inl rfl | exact .inr rfl) : PS X (.Assign [.Name x pos'] e pos) (tIn X.K X.mg c (iSet j f)) := PS.weak (ps_set hN hi hx he hs hf) fun D σ H h => by
  obtain ⟨B, F, ad, i, i', x, C, dx, xs, hC, h0, hne, hF1, hF2, S, hl, r, e, k⟩ := h
  unfold iSet at e
  obtain ⟨⟨y, δ1⟩, e1, e2⟩ := Option.map_eq_some_iff.mp e
  cases e2
  exact ⟨B, _, ad, i.dl, y, δ1, S, e1, fun B1 ad1 v H1 s1 p1 S1 r1 => k B1 ad1 _ H1 xs s1 p1 (by rw [List.getElem?_set_ne (by omega)]; exact h0) (S1.setS r1) hl (Rps.mono s1 _ _ r)⟩
theorem putF_new {fn : Str} {v : V} : ∀ {ns : List Str} {xs : List V}, ns.length = xs.length → ns.contains fn = false → putF fn v (ns.zip xs) = (ns ++ [fn]).zip (xs ++ [v])
  | [], [], _, _ => rfl
  | [], _ :: _, h, _ => by simp at h
  | _ :: _, [], h, _ => by simp at h
  | n :: ns, x :: xs, h, g => by
    rw [List.contains_cons, Bool.or_eq_false_iff] at g
    show (if n = fn then _ else (n, x) :: putF fn v (ns.zip xs)) = _
    rw [if_neg (fun z => by
      have := g.1
      rw [z] at this
      simp at this), putF_new (by simpa using h) g.2]
    rfl
theorem pin_fld {fn : Str} {pos' ps : Pos} (he : PD X e f) (hC : X.mg c = some (.ref C)) (cl : Cls X.K C) (na : NoAttr X.K C fn) (h0 : X.N[0]? = some ("self" : Str) := by rfl) (hv : Vis X.env.scope "self" := by first | exact Or.inl rfl | exact Or.inr (Or.inl rfl) | exact Or.inr (Or.inr rfl))
    (hs : swapsWith e (some (.Attribute (.Name "self" ps) fn pos')) pos.line X.env = pure false := by rfl) : PS X (.Assign [.Attribute (.Name "self" ps) fn pos'] e pos) (tIn X.K X.mg c (iFld fn f)) := PS.weak (ps_fld (pe_var h0 hv) he hs) fun D σ H h => by
  obtain ⟨B, F, ad, i, i', x, C', dx, xs, hC', h0, hne, hF1, hF2, S, hl, r, e, k⟩ := h
  rw [hC] at hC'
  cases hC'
  unfold iFld at e
  split at e
  · cases e
  · rename_i hc
    split at e
    · rename_i hfew
      obtain ⟨⟨y, δ1⟩, e1, e⟩ := Option.bind_eq_some_iff.mp e
      obtain ⟨⟨d, δ2⟩, e2, e3⟩ := Option.map_eq_some_iff.mp e
      cases e3
      refine ⟨B, _, ad, i.dl, y, δ1, S, e1, fun B1 ad1 v H1 s1 p1 S1 r1 => ?_⟩
      obtain ⟨B2, s2, S2, r2⟩ := S1.frz r1 e2
      have hx : H1 x = some (.ins C dx (i.ns.zip xs)) := S2.exF x _ upd_same
      refine ⟨.ref x, h0, x, C, dx, _, rfl, hx, cl, na, ?_, ?_⟩
      · rw [List.length_zip]
        omega
      · rw [putF_new hl (by simpa using hc)]
        have sA := s1.trans s2
        exact k B2 ad1 σ _ (xs ++ [v]) sA p1 h0 S2.setF (by simp [hl]) (Rps.app (Rps.mono sA _ _ r) (Rps.one r2))
    · cases e
end
/-- the promise of an __init__ -/
abbrev GIF := List Vl → List (List D) → Option (List Str × List D × List (List D))
def spI (K : PySem.W.Frag) (mg : Str → Option Value) (c : Str) (n : Nat) (G : GIF) : Sp := fun vs H Q _ => vs.length = n ∧ ∃ B F ad rs cs ns ds cs' x C dx ws, vs = .ref x :: ws ∧ mg c = some (.ref C) ∧ x ≠ dx ∧ F x = none ∧ F dx = none ∧
  SRep K mg B (upd (upd F dx (.own x)) x (.ins C dx [])) ad [] ⟨[], cs.map some⟩ H ∧ RpVs K mg B ad rs ws ∧ G rs cs = some (ns, ds, cs') ∧ cs'.length = cs.length ∧
  ∀ B' H' xs, Same B B' → SRep K mg B' (upd (upd F dx (.own x)) x (.ins C dx (ns.zip xs))) ad [] ⟨[], cs'.map some⟩ H' → ns.length = xs.length → Rps K mg B' ds xs → Q .non H'
def initD (n : Nat) (f : IFn) : GIF := fun rs cs => (f ⟨⟨none :: rs.map some ++ List.replicate (n - rs.length) none, cs.map some⟩, [], []⟩).bind fun i => (lives i.dl (List.range cs.length)).map fun cs' => (i.ns, i.ds, cs')
def makeG (c : Str) (G : GIF) (rs : List Vl) (δ : Dl) : Option (Vl × Dl) := if (refs rs).Nodup then (lives δ (refs rs)).bind fun cs => (G (renum 0 rs) cs).bind fun q => if q.2.2.length = cs.length then
    some (.fz (.ins c q.1 q.2.1), { δ with st := putAll δ.st (refs rs) q.2.2 }) else none
  else none
def dMake (c : Str) (n : Nat) (G : GIF) (fa : AF) : EF := fun δ => (fa δ).bind fun p => if p.1.length + 1 = n then makeG c G p.1 p.2 else none
section
variable {K : PySem.W.Frag} {mg : Str → Option Value} {B B' F : Hp} {ad ad' : List Addr} {σ : L2.St} {δ δ' : Dl} {H H' : Hp} {p : Addr}
/-- what nobody has, given up -/
theorem SRep.own2 {x dx : Addr} {o u : HO} (S : SRep K mg B F ad σ δ H) (hx : H x = none) (hd : H dx = none) (hne : dx ≠ x) : SRep K mg B (upd (upd F dx u) x o) ad σ δ (upd (upd H dx u) x o) := by
  have S1 := S.allocF (o := u) hd
  exact S1.allocF (by rw [upd_ne (Ne.symm hne)]; exact hx)
theorem make_w {c : Str} {C : Addr} {G : GIF} {rs : List Vl} {vs : List V} {r : Vl} {n : Nat} {Q : VK} {E : XK} {x dx : Addr} (hC : mg c = some (.ref C)) (S : SRep K mg B F ad σ δ H) (hv : RpVs K mg B ad rs vs) (hn : vs.length + 1 = n) (e : makeG c G rs δ = some (r, δ')) (hx : H x = none) (hd : H dx = none) (hne : dx ≠ x)
    (k : ∀ B' ad' v H', Same B B' → Pre ad ad' → SRep K mg B' F ad' σ δ' H' → RpV K mg B' ad' r v → Q v H') : spI K mg c n G (.ref x :: vs) (upd (upd H dx (.own x)) x (.ins C dx [])) (fun v H2 => v = .non ∧ Q (.ref x) H2) E := by
  unfold makeG at e
  split at e
  · rename_i hnd
    obtain ⟨cs, e1, e⟩ := Option.bind_eq_some_iff.mp e
    obtain ⟨⟨ns, ds, cs'⟩, e2, e⟩ := Option.bind_eq_some_iff.mp e
    split at e
    · rename_i hl
      have hl' : cs'.length = cs.length := hl
      cases e
      have hlt := S.live_lt e1
      have Sd := (S.down e1 hnd).own2 (o := .ins C dx []) (u := .own x) hx hd hne
      have fx : frameOf F ad δ (refs rs) H x = none := (S.down e1 hnd).exF.free hx
      have fd : frameOf F ad δ (refs rs) H dx = none := (S.down e1 hnd).exF.free hd
      refine ⟨hn, B, frameOf F ad δ (refs rs) H, addrs ad (refs rs), renum 0 rs, cs, ns, ds, cs', x, C, dx, vs, rfl, hC, Ne.symm hne, fx, fd, Sd, ?_, e2, hl', fun B' H' xs sB S' hl2 rx => ⟨rfl, ?_⟩⟩
      · exact renum_ok (ks := []) hnd (by simpa using hlt) hv
      · -- the instance becomes known, its dict is let go
        have hxH : H' x = some (.ins C dx (ns.zip xs)) := S'.exF x _ upd_same
        have hxB : B' x = none := S'.dis x _ upd_same
        have s2 : Same B' (upd B' x (.ins C dx (ns.zip xs))) := same_new hxB
        have nx : ∀ a ∈ addrs ad (refs rs), a ≠ x := fun a ha z => by
          subst z
          obtain ⟨j, hj⟩ := List.getElem?_of_mem ha
          have hjl : j < cs'.length := by
            have h1 := S'.len
            rw [List.length_map] at h1
            rw [← h1]
            exact (List.getElem?_eq_some_iff.mp hj).1
          obtain ⟨q, ys, g1, g2, _, g4, g5⟩ := S'.cell j cs'[j] (by
            show (cs'.map some)[j]? = _
            rw [List.getElem?_map, List.getElem?_eq_getElem hjl]
            rfl)
          rw [hj] at g1
          cases g1
          rw [upd_same] at g5
          cases g5
        have fKeep : ∀ a o, frameOf F ad δ (refs rs) H a = some o → upd (upd (frameOf F ad δ (refs rs) H) dx (.own x)) x (.ins C dx (ns.zip xs)) a = some o := fun a o e => by
          rw [upd_ne (ne_of_none e fx), upd_ne (ne_of_none e fd)]
          exact e
        have S3 : SRep K mg (upd B' x (.ins C dx (ns.zip xs))) (frameOf F ad δ (refs rs) H) (addrs ad (refs rs)) [] ⟨[], cs'.map some⟩ H' := by
          refine ⟨fun a o e => ?_, fun a o e => S'.exF a o (fKeep a o e), fun a o e => ?_, S'.nd, S'.len, rfl, fun j es ej => ?_, fun j q h1 h2 => ?_, fun j d ej => by simp at ej⟩
          · by_cases ha : a = x
            · subst ha
              rw [upd_same] at e
              cases e
              exact hxH
            · rw [upd_ne ha] at e
              exact S'.exB a o e
          · rw [upd_ne (ne_of_none e fx)]
            exact S'.dis a o (fKeep a o e)
          · obtain ⟨q, ys, g1, g2, g3, g4, g5⟩ := S'.cell j es ej
            have hq := nx q (List.mem_of_getElem? g1)
            refine ⟨q, ys, g1, g2, Rps.mono s2 _ _ g3, by rw [upd_ne hq]; exact g4, ?_⟩
            cases z : frameOf F ad δ (refs rs) H q with
            | none => rfl
            | some o =>
              rw [fKeep q o z] at g5
              cases g5
          · have := S'.dead j q h1 h2
            by_cases hq : q = x
            · rw [hq, upd_same]; simp
            · rw [upd_ne hq]; exact this
        have sAll : Same B (upd B' x (.ins C dx (ns.zip xs))) := sB.trans s2
        have S4 := S.up (m := []) (ms := []) e1 hnd hl' sAll (by simpa using S3)
        simp only [List.append_nil, List.map_nil] at S4
        exact k _ ad (.ref x) H' sAll (Pre.refl _) S4 ⟨x, C, dx, xs, rfl, hC, upd_same, hl2, Rps.mono s2 _ _ rx⟩
    · cases e
  · cases e
end
section
variable {X : Cx} {e : Expr} {pos p : Pos} {es : List Expr} {fs : AF} {c : Str} {C : Addr}
theorem pd_make {k n : Nat} {f : Addr} {fd : FuncData} {ps : List Str} {G : GIF} (M : Mk X.K C f) (Fk : FnOk X.prog X.w X.K X.mg X.base CX0 k f fd ps (spI X.K X.mg c n G)) (hr : Room (k + 1) X.A) (hg : Gl X c) (hm : X.mg c = some (.ref C)) (hb : Binds X.K fd ps [])
    (ha : PDA X (e :: es) fs) (hdb : (c == ("__debug__" : Str)) = false := by decide) (he : starEach (e :: es) X.env = (false, eval e X.env) :: starEach es X.env := by rfl) (hpl : (backTo pos (starEach es X.env)).any (·.1) = false := by rfl) :
    PD X (.Call (.Name c p) (e :: es) [] pos) (dMake c n G fs) := PE.weak (pe_make M Fk hr hg hm hb .nil pass0 ha hdb he hpl) fun σ H Q h => by
  obtain ⟨B, F, ad, δ, r, δ', S, e, k⟩ := h
  unfold dMake at e
  obtain ⟨⟨rs, δ1⟩, e1, e⟩ := Option.bind_eq_some_iff.mp e
  split at e
  · rename_i hl
    refine ⟨B, F, ad, δ, rs, δ1, S, e1, fun B1 ad1 vs H1 s1 p1 S1 r1 => fun x dx hx hd hne => ?_⟩
    rw [List.append_nil]
    exact make_w hm S1 r1 (by rw [RpVs.length r1]; exact hl) e hx hd hne fun B' ad' v H' s2 p2 S' r' => k B' ad' v H' (s1.trans s2) (p1.trans p2) S' r'
  · cases e
end
end PK
namespace PK
open PySem L2 PySem.Spec PyProof.Rows
/-! ### a list or a tuple walked -/
def iSeqLT (K : PySem.W.Frag) (tl : TE) : TI := fun σ H R => tl σ H fun x H1 => ∃ a, x = .ref a ∧ (((∃ xs, SqL K H1 a xs) ∧ R (Itl K a) H1) ∨ ((∃ xs, SqT K H1 a xs) ∧ R (Itt K a) H1))
section
variable {X : Cx} {tgE iter : Expr}
theorem pi_seq {l : Expr} {tl : TE} (hl : PE X l tl) : PI X tgE l (iSeqLT X.K tl) := by
  refine ⟨fun pins s σ H R I h => ?_⟩
  refine thn (hl.run pins s σ H _ I h) fun v s1 ⟨x, H1, I1, r1, q1⟩ => ?_
  obtain ⟨a, e, q1⟩ := q1
  subst e
  cases r1
  rcases q1 with ⟨⟨xs, hq⟩, q⟩ | ⟨⟨xs, hq⟩, q⟩
  · obtain ⟨its, rv, p, hz⟩ := I1.list hq
    refine wpAny_pyIter_list p.isList ?_
    refine ⟨s1.heap.objs.size, [s1.heap.objs.size], _, _, H1, rfl, I1.kept (t' := s1.toks) fun b o e => Heap.get?_push_of_some _ e, turn_list a _, ⟨_, Heap.get?_push_size _ rfl, rfl, rfl⟩, fun b hb => ?_, q⟩
    have e : b = s1.heap.objs.size := by simpa using hb
    subst e
    exact I1.fpOk (Nat.le_refl _) (I1.hok.fresh (Nat.le_refl _))
  · obtain ⟨its, rv, p, hz⟩ := I1.tuple hq
    refine wpAny_pyIter_tuple (show s1.heap.IsTuple a its.toArray from p) ?_
    refine ⟨s1.heap.objs.size, [s1.heap.objs.size], _, _, H1, rfl, I1.kept (t' := s1.toks) fun b o e => Heap.get?_push_of_some _ e, turn_tuple a _, ⟨_, Heap.get?_push_size _ rfl, rfl, rfl⟩, fun b hb => ?_, q⟩
    have e : b = s1.heap.objs.size := by simpa using hb
    subst e
    exact I1.fpOk (Nat.le_refl _) (I1.hok.fresh (Nat.le_refl _))
def iSq (f : EF) : IF := fun δ => (f δ).bind fun p => match p.1 with
  | .fz (.tup ds) => some (ds, [], p.2)
  | r => (srcOf p.2 r).map fun q => (q.1, q.2, p.2)
theorem pdi_seq {f : EF} (h : PD X iter f) : PDI X tgE iter (iSq f) := PI.weak (pi_seq h) fun σ H R h => by
  obtain ⟨B, F, ad, δ, it, ck, δ', S, e, hck, k⟩ := h
  unfold iSq at e
  obtain ⟨⟨r, δ1⟩, e1, e⟩ := Option.bind_eq_some_iff.mp e
  refine ⟨B, F, ad, δ, r, δ1, S, e1, fun B1 ad1 v H1 s1 p1 S1 r1 => ?_⟩
  simp only at e
  split at e
  · rename_i ds
    cases e
    obtain ⟨a, xs, h1, h2, h3⟩ := r1
    have hl := Rps.length h3
    refine ⟨a, h1, .inr ⟨⟨xs, SqT.of (S1.exB _ _ h2)⟩, ?_⟩⟩
    refine k B1 ad1 H1 (Itt X.K a) (fun H => SqT X.K H a xs) (YAt xs) s1 p1 S1 (by rw [← hl]; exact walk_tup) ?_ ?_
    · intro B2 F2 ad2 σ2 δ2 H2 s2 p2 S2 c
      exact SqT.of (S2.exB _ _ (s2 _ _ h2))
    · rintro i x B2 F2 ad2 σ2 δ2 H2 H3 s2 p2 S2 c hi ⟨rfl, hx⟩
      obtain ⟨d, d1, d2⟩ := Rps.back h3 hx
      exact ⟨B2, Same.refl _, S2, d, d1, Rp.mono s2 d x d2⟩
  · obtain ⟨⟨it', ck'⟩, e2, e⟩ := Option.map_eq_some_iff.mp e
    cases e
    obtain ⟨a, xs, h1, h2, h3, hl, h4⟩ := src_at S1 r1 e2
    refine ⟨a, h1, .inl ⟨⟨xs, SqL.of h2⟩, ?_⟩⟩
    refine k B1 ad1 H1 (Itl X.K a) (fun H => ∃ ys, ys.length = it'.length ∧ H a = some (.lst ys)) (fun i H x H' => ∃ ys, ys.length = it'.length ∧ H a = some (.lst ys) ∧ YAt ys i H x H') s1 p1 S1 (Walk.any fun ys hy => ?_) ?_ ?_
    · rw [← hy]
      exact (walk_list (K := X.K)).mono (fun H q => SqL.of q) fun _ _ _ _ _ _ y => y
    · intro B2 F2 ad2 σ2 δ2 H2 s2 p2 S2 c
      obtain ⟨ys, q1, q2⟩ := h4 B2 F2 ad2 σ2 δ2 H2 s2 p2 S2 c
      exact ⟨ys, Rps.length q2, q1⟩
    · rintro i x B2 F2 ad2 σ2 δ2 H2 H3 s2 p2 S2 c hi ⟨ys, hy1, hy2, rfl, hx⟩
      obtain ⟨zs, q1, q2⟩ := h4 B2 F2 ad2 σ2 δ2 H3 s2 p2 S2 c
      rw [q1] at hy2
      cases hy2
      obtain ⟨d, d1, d2⟩ := Rps.back q2 hx
      exact ⟨B2, Same.refl _, S2, d, d1, d2⟩
end
/-! ### own ==, own len, isinstance of an own class -/
section
variable {X : Cx} {e : Expr} {f : EF} {pos p : Pos} {c : Str} {C : Addr}
/-- len of an own instance -/
def dLenI (c : Str) (G : GF) (f : EF) : EF := fun δ => (f δ).bind fun p => match p.1 with
  | .fz (.ins c1 ns ds) => if c1 = c then match G [.fz (.ins c1 ns ds)] [] with
      | some (.val (.int n), []) => if 0 ≤ n ∧ n < 2 ^ 62 then some (.fz (.int n), p.2) else none
      | _ => none
    else none
  | _ => none
theorem oc_lenI {k : Nat} {g : Addr} {fd : FuncData} {ps : List Str} {sp : Sp} (Fk : FnOk X.prog X.w X.K X.mg X.base CX0 k g fd ps sp) (hr : Room (k + 1) X.A)
    (hs : PySem.W.findIn X.K (.ref C) "__len__" = some (some (.ref g))) (hf : PySem.W.isFn X.K (.ref g) = true) (hb : Binds X.K fd ps []) :
    CallR X (.builtin "len") (fun xs H Q => ∃ a dx fs, xs = [.ref a] ∧ H a = some (.ins C dx fs) ∧ sp [.ref a] H (fun w H' => ∃ n : Int, w = .int n ∧ (0 ≤ n ∧ n < 2 ^ 62) ∧ Q (.int n) H') E0) := by
  intro pins s σ H xs us Q I rv h
  obtain ⟨a, dx, fs, rfl, ha, h⟩ := h
  obtain ⟨u0, rfl, ru⟩ := vals1 rv
  obtain rfl : u0 = Value.ref a := ru
  obtain ⟨mA, J, _⟩ := ins_get I.hok ha
  obtain ⟨od, J, _⟩ := J.look
  obtain ⟨m, hF⟩ := I.fr
  refine PySem.W.len_K hF I.ok.mod.kin J hs hf ?_
  have hl : ([Value.ref a] ++ ([] : List Value)).length = ps.length := by
    rw [← Fk.len _ _ _ _ h]
    rfl
  refine wpAny_call (codeAny_mono (Fk.run X.A.in1 X.stack s H ⟨[.ref a], []⟩ [.ref a] [.ref a] _ _ hr.in1 I.env0.in1 (by simpa using hb s [.ref a] I.kIn hl) (.cons rfl .nil) h) fun r s' hq => ?_)
  cases r with
  | error er => exact False.elim (pass0 (X := X.nox) pins σ H s er s' (I.wish _) hq)
  | ok fl =>
    cases fl with
    | ret u =>
      obtain ⟨v, H', I3, rv, n, hn, hb2, q3⟩ := I.after hq
      subst hn
      obtain ⟨t, rfl⟩ := rv
      exact ⟨⟨hb2.1, by omega⟩, ⟨.int n, H', I3.tok _, ⟨_, rfl⟩, q3⟩⟩
    | next => exact False.elim hq
    | brk => exact False.elim hq
    | cont => exact False.elim hq
theorem pd_lenI {k : Nat} {g : Addr} {fd : FuncData} {ps : List Str} {G : GF} {p1 : Pos} (hgl : Gl X "len") (hml : X.mg "len" = none) (hC : X.mg c = some (.ref C)) (Fk : FnOk X.prog X.w X.K X.mg X.base CX0 k g fd ps (spD X.K X.mg 1 G)) (hr : Room (k + 1) X.A)
    (hs : PySem.W.findIn X.K (.ref C) "__len__" = some (some (.ref g))) (hf : PySem.W.isFn X.K (.ref g) = true) (hb : Binds X.K fd ps []) (he : PD X e f)
    (hst : starEach [e] X.env = (false, eval e X.env) :: starEach [] X.env := by rfl) (hpl : (backTo pos (starEach [] X.env)).any (·.1) = false := by rfl) : PD X (.Call (.Name "len" p1) [e] [] pos) (dLenI c G f) :=
  PE.weak (pe_callB (oc_lenI (C := C) Fk hr hs hf hb) hgl hml PySem.boot_len (pa_cons he pa_nil hst) (by decide) (by decide) hst hpl) fun σ H Q h => by
  obtain ⟨B, F, ad, δ, r, δ', S, e1, kk⟩ := h
  unfold dLenI at e1
  obtain ⟨⟨x, δ1⟩, e2, e3⟩ := Option.bind_eq_some_iff.mp e1
  refine ⟨B, F, ad, δ, x, δ1, S, e2, fun B1 ad1 v H1 s1 p1 S1 r1 => ?_⟩
  cases x with
  | rf k => cases e3
  | nl _ => cases e3
  | fz d =>
    cases d with
    | ins c1 ns ds =>
      simp only at e3
      split at e3
      · rename_i hc
        subst hc
        split at e3
        · rename_i n hG
          split at e3
          · rename_i hn
            cases e3
            obtain ⟨a1, C1, dx1, xs1, hx1, hx2, hx3, hx4, hx5⟩ := id r1
            rw [hC] at hx2
            cases hx2
            subst hx1
            refine ⟨a1, dx1, _, rfl, S1.exB _ _ hx3, ?_⟩
            refine call_w (m := false) (δ := δ') (r := .fz (.int n)) (δ' := δ') (rs := [.fz (.ins _ ns ds)]) S1 ⟨_, _, rfl, r1, rfl⟩ rfl ?_ fun B' ad' w H' s2 p2 S' r' => ?_
            · unfold callG
              rw [if_pos (by show ([] : List Nat).Nodup; exact List.nodup_nil)]
              show ((some ([] : List (List D))).bind _) = _
              simp only [Option.bind_some, renum, hG]
              rfl
            · exact ⟨n, r', hn, kk B' ad' _ H' (s1.trans s2) (p1.trans p2) S' rfl⟩
          · cases e3
        · cases e3
      · cases e3
    | _ => cases e3
structure IsiC (K : PySem.W.Frag) (C : Addr) : Prop where
  ha : PySem.W.findIn K (.ref C) "__class__" = some (some (.builtin "object.__class__"))
  hn : PySem.W.specialIn K (.builtin "object.__class__") "__get__" = some (some (.builtin "getset_descriptor.__get__"))
  htk : PySem.W.takesIn K (.builtin "object.__class__") = some true
  hm : PySem.W.mroIn K C (.type "object") = some true
end
end PK
namespace PK
open PySem L2 PySem.Spec PyProof.Rows
/-! ### the law's own def: from its data function to the hand layer's promise -/
theorem lawSpec {K : PySem.W.Frag} {mg : Str → Option Value} {G : GF} {Pg : List Int → Prop} (hG : ∀ ns : List Int, Pg ns → G [.fz (.scr ns)] [] = some (.val (.bl true), [])) {vs : List V} {H : Hp} {Q : VK} {E : XK}
    (h : ∃ (a : Addr) (ns : List Int), vs = [.ref a] ∧ SqL K H a (ns.map V.int) ∧ Pg ns ∧ ∀ H', Q (.bl true) H') : spD K mg 1 G vs H Q E := by
  obtain ⟨a, ns, rfl, hS, hP, k⟩ := h
  refine ⟨rfl, H, fun _ => none, [], [.fz (.scr ns)], [], .val (.bl true), [], ?_, ⟨_, _, rfl, ⟨a, rfl, hS⟩, rfl⟩, hG ns hP, rfl, fun B' v H' s r => ?_⟩
  · exact ⟨Same.refl _, fun _ _ e => (by cases e), fun _ _ e => (by cases e), List.nodup_nil, rfl, rfl, fun k ds e => (by simp at e), fun k p e => (by simp at e), fun i d e => (by simp at e)⟩
  · have r' : v = .bl true := r.2
    subst r'
    exact k H'
end PK
namespace PK
open PySem L2 PySem.Spec PyProof.Rows
/-! ### reckoning with data functions -/
@[simp] theorem ck_nil {δ : Dl} : CkOk [] δ = True := by simp [CkOk]
@[simp] theorem ck_one {δ : Dl} {k : Nat} {ds : List D} : CkOk [(k, ds)] δ = (δ.st[k]? = some (some ds)) := by simp [CkOk]
theorem eqD_int {neg : Bool} {δ : Dl} {i j : Int} : eqD neg δ (.int i) (.int j) = some (.fz (.bl (if neg then !(i == j) else i == j)), δ) := by
  simp [eqD, toPy, SeqAt.shaped, PyData.canLay0, PyData.depth, PyData.eqv]
/-- plain data of a depth -/
def Nice (k : Nat) (d : D) : Prop := ∃ p, toPy d = some p ∧ p.canLay0 = true ∧ p.depth ≤ k
theorem nice_int {k : Nat} {i : Int} : Nice k (.int i) := ⟨.int i, rfl, rfl, Nat.zero_le _⟩
theorem nice_str {k : Nat} {x : Str} (h : PyData.strOk x = true) : Nice k (.str x) := ⟨.str x, rfl, h, Nat.zero_le _⟩
theorem nices {k : Nat} : ∀ {ds : List D}, (∀ d ∈ ds, Nice k d) → ∃ ps, toPys ds = some ps ∧ PyData.canLayAll0 ps = true ∧ PyData.depthAll ps ≤ k
  | [], _ => ⟨[], rfl, rfl, Nat.zero_le _⟩
  | d :: ds, h => by
    obtain ⟨p, h1, h2, h3⟩ := h d List.mem_cons_self
    obtain ⟨ps, g1, g2, g3⟩ := nices (ds := ds) fun x hx => h x (List.mem_cons_of_mem _ hx)
    exact ⟨p :: ps, by simp [toPys, h1, g1], by simp [PyData.canLayAll0, h2, g2], by rw [PyData.depthAll]; exact Nat.max_le.mpr ⟨h3, g3⟩⟩
theorem nice_tup {k : Nat} {ds : List D} (h : ∀ d ∈ ds, Nice k d) : Nice (k + 1) (.tup ds) := by
  obtain ⟨ps, g1, g2, g3⟩ := nices h
  exact ⟨.tuple ps, by simp [toPy, g1], by simp [PyData.canLay0, g2], by simp [PyData.depth, g3]⟩
theorem eqD_self {neg : Bool} {δ : Dl} {k : Nat} {d : D} (h : Nice k d) (hk : k ≤ 64) : eqD neg δ d d = some (.fz (.bl (!neg)), δ) := by
  obtain ⟨p, h1, h2, h3⟩ := h
  have hs : SeqAt.shaped p = true := by simp [SeqAt.shaped, h2, Nat.le_trans h3 hk]
  simp only [eqD, h1, hs, Bool.and_self, if_pos, PySem.SeqAt.eqv_refl p h2]
  cases neg <;> rfl
theorem eqD_app {neg : Bool} {δ : Dl} {k : Nat} {d : D} {ds : List D} (h : ∀ x ∈ d :: ds, Nice k x) (hk : k < 64) : eqD neg δ (.lst (d :: ds)) (.lst []) = some (.fz (.bl neg), δ) := by
  obtain ⟨p, h1, h2, h3⟩ := h d List.mem_cons_self
  obtain ⟨ps, g1, g2, g3⟩ := nices h
  have hs : SeqAt.shaped (.list ps) = true := by
    simp [SeqAt.shaped, PyData.canLay0, g2, PyData.depth]
    omega
  have hn : SeqAt.shaped (.list []) = true := by decide
  cases ps with
  | nil => simp [toPys, h1] at g1; split at g1 <;> simp at g1
  | cons q qs =>
    have t1 : toPy (.lst (d :: ds)) = some (.list (q :: qs)) := by rw [toPy, g1]; rfl
    have t2 : toPy (.lst []) = some (.list []) := rfl
    have t3 : PyData.eqv (.list (q :: qs)) (.list []) = false := by simp [PyData.eqv, PyData.eqvAll]
    simp only [eqD, t1, t2, hs, hn, Bool.and_self, if_pos, t3]
    cases neg <;> rfl
/-- a loop, by an invariant -/
theorem forD_inv {tg : Tg} {body : SF} {ck : List (Nat × List D)} (P : Nat → Dl → Prop) (hck : ∀ i δ, P i δ → CkOk ck δ) : ∀ (its : List D) (i : Nat) (δ : Dl), P i δ →
    (∀ (j : Nat) (d : D) (δ : Dl), its[j]? = some d → P (i + j) δ → ∃ δ1, asgT δ tg d = some δ1 ∧ ∃ δ2, body δ1 = some (.nx, δ2) ∧ P (i + j + 1) δ2) → ∃ δ', forD ck tg body its δ = some (.nx, δ') ∧ P (i + its.length) δ'
  | [], i, δ, h, _ => ⟨δ, by rw [forD, if_pos (hck _ _ h)], h⟩
  | d :: its, i, δ, h, hb => by
    obtain ⟨δ1, e1, δ2, e2, h2⟩ := hb 0 d δ rfl h
    obtain ⟨δ', e3, h3⟩ := forD_inv P hck its (i + 1) δ2 h2 fun j x δ hx hp => by
      obtain ⟨y1, z1, y2, z2, z3⟩ := hb (j + 1) x δ hx (by rw [show i + (j + 1) = i + 1 + j by omega]; exact hp)
      exact ⟨y1, z1, y2, z2, by rw [show i + 1 + j + 1 = i + (j + 1) + 1 by omega]; exact z3⟩
    refine ⟨δ', ?_, by rw [List.length_cons, show i + (its.length + 1) = i + 1 + its.length by omega]; exact h3⟩
    rw [forD, if_pos (hck _ _ h), e1, Option.bind_some, e2, Option.bind_some]
    exact e3
end PK
namespace PK
open PySem L2 PySem.Spec PyProof.Rows
/-! ### != of two instances of one class with an own == -/
/-! ### methods called with names -/
abbrev PDK (X : Cx) (kws : List Keyword) (f : AF) := L2.PK X kws (tDA X.K X.mg f)
section
variable {X : Cx} {e : Expr} {f : EF} {nm : Option Str} {kpos : Pos} {kws : List Keyword} {g : AF}
theorem pkWeak {t t' : TA} (h : L2.PK X kws t) (hw : ∀ σ H Q, t' σ H Q → t σ H Q) : L2.PK X kws t' := ⟨fun pos pins s σ H Q I q => h.run pos pins s σ H Q I (hw σ H Q q)⟩
theorem pdk_nil : PDK X [] aNil := pkWeak pk_nil fun σ H Q h => by
  obtain ⟨B, F, ad, δ, r, δ', S, e, k⟩ := h
  unfold aNil at e
  cases e
  exact k B ad [] H (Same.refl _) (Pre.refl _) S rfl
theorem pdk_cons (h : PD X e f) (hr : PDK X kws g) : PDK X (⟨nm, e, kpos⟩ :: kws) (aCons f g) := pkWeak (pk_cons h hr) fun σ H Q h => by
  obtain ⟨B, F, ad, δ, r, δ', S, e, k⟩ := h
  unfold aCons at e
  obtain ⟨⟨x, δ1⟩, e1, e⟩ := Option.bind_eq_some_iff.mp e
  obtain ⟨⟨rs, δ2⟩, e2, e⟩ := Option.map_eq_some_iff.mp e
  cases e
  refine ⟨B, F, ad, δ, x, δ1, S, e1, fun B1 ad1 v H1 s1 p1 S1 r1 => ?_⟩
  refine ⟨B1, F, ad1, δ1, rs, _, S1, e2, fun B2 ad2 vs H2 s2 p2 S2 r2 => ?_⟩
  exact k B2 ad2 (v :: vs) H2 (s1.trans s2) (p1.trans p2) S2 ⟨v, vs, rfl, r1.mono s2 p2, r2⟩
end
end PK
namespace PK
open PySem L2 PySem.Spec PyProof.Rows
/-! ### a class made with names alone: two of them, exchanged or not -/
/-! ### isinstance of an own class, of anything -/
end PK
namespace PK
open PySem L2 PySem.Spec PyProof.Rows
/-! ### == of an own instance with anything that is not a changing list -/
end PK
namespace PK
open PySem L2 PySem.Spec PyProof.Rows
/-! ### defs that show their data: they are called while nothing is being shown -/
structure FnG (P : Program) (w : World) (K : PySem.W.Frag) (mg : Str → Option Value) (base : Heap) (k : Nat) (f : Addr) (fd : FuncData) (ps : List Str) (sp : Sp) : Prop where
  size : ∀ vs hp post ex, sp vs hp post ex → vs.length = ps.length
  go : ∀ (A : Around), Room k A → A.guards = some [] → ∀ (outer : List Env) (sh : Shared) (hp : Hp) (args : Args) (us : List Value) (vs : List V) (post : VK) (ex : XK), Env0 P w K mg base A outer sh hp → BindsTo sh fd args (ps.zip us) → Vals vs us → sp vs hp post ex →
    codeAny (model P w) A (.call (.ref f) args) (CR CX0 outer P w hp sh post ex) sh
section
variable {P : Program} {w : World} {K : PySem.W.Frag} {mg : Str → Option Value} {base : Heap}
theorem FnG.imp {k : Nat} {f : Addr} {fd : FuncData} {ps : List Str} {sp sp' : Sp} (F : FnG P w K mg base k f fd ps sp) (h : ∀ vs hp post ex, sp' vs hp post ex → sp vs hp post ex) : FnG P w K mg base k f fd ps sp' :=
  ⟨fun vs hp post ex q => F.size vs hp post ex (h _ _ _ _ q), fun A rm gd outer sh hp args us vs post ex e0 bd rv good => F.go A rm gd outer sh hp args us vs post ex e0 bd rv (h _ _ _ _ good)⟩
theorem fnG_mk {x qual : Str} {st : Stmt} {f : Addr} {fd : FuncData} {N ps : List Str} {k : Nat} {sp : Sp} (F : Fun K x qual st f fd) (S : FnScope N ps (defScope st)) (size : ∀ vs hp post ex, sp vs hp post ex → vs.length = ps.length)
    (body : ∀ (cdv : Value) (A : Around) (outer : List Env) (sh : Shared) (hp : Hp) (vs : List V) (post : VK) (ex : XK), Room k (A.deeper (envOfC qual (defScope st) sh.heap.objs.size f cdv)) → A.guards = some [] → sp vs hp post ex →
      ∃ t, PSs (cxOf CX0 P w K mg base N qual (defScope st) f cdv A outer sh hp ex).nox (defBody st) t ∧ t { nx := fun _ hq => post .non hq, rt := post } (start N vs) hp) : FnG P w K mg base (k + 1) f fd ps sp := by
  obtain ⟨oc, od, kV, doc, pm, an, cdv, ct, osl, rfl, found, coded⟩ := F.ex
  refine ⟨size, fun A rm gd outer sh hp args us vs post ex e0 bd rv good => ?_⟩
  have sizes := size _ _ _ _ good
  have frag : K.In sh.heap := e0.mod.kin.keeps fun b o got => (e0.bs b o got).1
  have free : sh.heap.NoLimit := e0.mod.nolimit.keeps fun b o got => (e0.bs b o got).1
  have kinds : ∀ y ∈ ps.zip us, (defScope st).names.lookup y.1 = some .local ∨ ((defScope st).names.lookup y.1 = some .cell ∧ ((cellsFrom (sh.heap.objs.size + 1) (defScope st).names []).lookup y.1).isSome = true) := fun ⟨nm, val⟩ among => by
    cases S.par nm (List.of_mem_zip among).1 with
    | inl one => exact .inl one
    | inr two => exact .inr ⟨two, PySem.W.cellsFrom_some _ _ _ (.inl two)⟩
  refine codeAny_call_function rm.depth (frag _ _ found) rfl S.co S.gen rfl (PySem.W.codeRec_of frag coded) (bd _ _ _ _ ?_)
  refine wpAny_newFunctionEnv_cells S.kind kinds fun env mine sh1 entered => ?_
  subst mine
  refine ⟨free.keeps entered.toInCall.keep, codeAny_func ?_⟩
  obtain ⟨t, runs, asks⟩ := body cdv A outer sh hp vs post ex (rm.deeper _) gd good
  have inv : Inv (cxOf CX0 P w K mg base N qual (defScope st) f cdv A outer sh hp ex) [] (start N vs) hp sh1 := inv_start S rm.hd e0 sizes rv entered
  refine wpAny_mono (runs.nox.run [] sh1 (start N vs) hp _ inv asks) (fun way sh2 ends => ?_) fun bad sh2 ends => ends
  cases way with
  | ret u =>
    obtain ⟨v, σ2, hp2, inv2, same, good2⟩ := ends
    exact ⟨v, hp2, inv2.os, inv2.bare, inv2.base, inv2.hok, same, good2⟩
  | next =>
    obtain ⟨σ2, hp2, inv2, good2⟩ := ends
    exact ⟨.non, hp2, inv2.os, inv2.bare, inv2.base, inv2.hok, rfl, good2⟩
  | brk => obtain ⟨_, _, _, none2⟩ := ends; exact False.elim none2
  | cont => obtain ⟨_, _, _, none2⟩ := ends; exact False.elim none2
end
section
variable {X : Cx} {k : Nat} {f : Addr} {fd : FuncData} {ps : List Str} {sp : Sp}
theorem runG {pins : List (Addr × Obj)} {σ : L2.St} {hp : Hp} {sh : Shared} {post : VK} {us : List Value} {vs : List V} (F : FnG X.prog X.w X.K X.mg X.base k f fd ps sp) (rm : Room k X.A) (gd : X.A.guards = some []) (hb : Binds X.K fd ps [])
    (inv : Inv X pins σ hp sh) (rv : Vals vs us) (good : sp vs hp post E0) : wpAny (model X.prog X.w) X.A (call (.ref f) us) (EP X pins σ post) X.xe sh := by
  have sizes : (us ++ []).length = ps.length := by rw [List.append_nil, ← rv.length]; exact F.size _ _ _ _ good
  have binds := hb sh us inv.kIn sizes
  rw [List.append_nil] at binds
  refine wpAny_call (codeAny_mono (F.go X.A rm gd X.stack sh hp ⟨us, []⟩ us vs post E0 inv.env0 binds rv good) fun res sh2 done => ?_)
  cases res with
  | error e => exact False.elim done
  | ok fl =>
    cases fl with
    | ret u => exact inv.after done
    | next => exact False.elim done
    | brk => exact False.elim done
    | cont => exact False.elim done
theorem pe_callG {x : Str} {p pos : Pos} {e : Expr} {es : List Expr} {t : TA} (F : FnG X.prog X.w X.K X.mg X.base k f fd ps sp) (rm : Room k X.A) (gd : X.A.guards = some []) (hg : Gl X x) (hm : X.mg x = some (.ref f)) (hk : PySem.W.keepIn X.K (.ref f) = true) (hb : Binds X.K fd ps [])
    (ha : PA X (e :: es) t) (hdb : (x == ("__debug__" : Str)) = false := by decide) (he : starEach (e :: es) X.env = (false, eval e X.env) :: starEach es X.env := by rfl) (hpl : (backTo pos (starEach es X.env)).any (·.1) = false := by rfl) :
    PE X (.Call (.Name x p) (e :: es) [] pos) (fun σ hp post => t σ hp fun vs hq => sp vs hq post E0) := ⟨fun pins sh σ hp post inv asks => wpAny_Call_Name_kw (ld_glob inv hg hm
    (PySem.W.callWith_K (h₀ := X.base) inv.ok.mod.kin hk (thn (ha.run pos pins sh σ hp _ inv asks) fun us sh1 got => by
      obtain ⟨vs, hp1, inv1, rv, good⟩ := got
      exact ⟨inv1.kIn, runG F rm gd hb inv1 rv good⟩) he hpl) hdb)⟩
end
end PK
namespace PK
open PySem L2 PySem.Spec PyProof.Rows
section
variable {P : Program} {w : World} {K : PySem.W.Frag} {mg : Str → Option Value} {base : Heap}
/-- a def that may show data: its body, while nothing is being shown -/
theorem fn_okDG {x qual : Str} {st : Stmt} {f : Addr} {fd : FuncData} {N ps : List Str} {k : Nat} {fs : SF} (F : Fun K x qual st f fd) (S : FnScope N ps (defScope st))
    (hbody : ∀ (cdv : Value) (A : Around) (outer : List Env) (s : Shared) (H : Hp) (E : XK), Room k (A.deeper (envOfC qual (defScope st) s.heap.objs.size f cdv)) → A.guards = some [] → PDSs (cxOf CX0 P w K mg base N qual (defScope st) f cdv A outer s H E).nox (defBody st) fs) :
    FnG P w K mg base (k + 1) f fd ps (spD K mg ps.length (fnD N.length fs)) := by
  refine fnG_mk F S (fun vs H Q E h => h.1) (fun cdv A outer s H vs Q E hr gd h => ?_)
  refine ⟨_, hbody cdv A outer s H E hr gd, ?_⟩
  obtain ⟨hlen, B, Fr, ad, rs, cs, r, cs', S0, rv, e, hl, kk⟩ := h
  unfold fnD at e
  obtain ⟨⟨fl, δ'⟩, e1, e⟩ := Option.bind_eq_some_iff.mp e
  obtain ⟨cs2, e2, e⟩ := Option.bind_eq_some_iff.mp e
  have S1 : SRep K mg B Fr ad (start N vs) ⟨rs.map some ++ List.replicate (N.length - rs.length) none, cs.map some⟩ H := rps_start (δ := ⟨[], cs.map some⟩) S0 rv
  have hadl : ad.length = cs.length := by
    have := S0.len
    simpa using this
  refine ⟨B, Fr, ad, _, fl, δ', S1, e1, fun B' ad' σ' H' sB pA S' => ?_⟩
  obtain ⟨m, rfl⟩ := pA
  have base : SRep K mg B' Fr ad [] ⟨[], cs2.map some⟩ H' := by
    have := S'.pick e2 List.nodup_range
    rw [← hadl, addrs_range] at this
    exact this
  cases fl with
  | nx =>
    cases e
    exact kk B' .non H' sB ⟨base, rfl⟩
  | bk => cases e
  | ct => cases e
  | rt v =>
    intro u hu
    cases v with
    | nl _ => first | (cases e; done) | (cases e3; done) | (cases e4; done) | (cases h; done) | (cases e2; done) | (simp at e; done)
    | fz d =>
      cases e
      exact kk B' u H' sB ⟨base, hu⟩
    | rf j =>
      simp only at e
      split at e
      · rename_i hj
        split at e
        · rename_i es hes
          cases e
          obtain ⟨a, rfl, ha⟩ := hu
          refine kk B' _ H' sB ⟨a, rfl, ?_⟩
          have hnd : (List.range cs.length ++ [j]).Nodup := by
            rw [List.nodup_append]
            refine ⟨List.nodup_range, by simp, fun x hx y hy => ?_⟩
            have hy' : y = j := by simpa using hy
            have hx' : x < cs.length := by simpa using hx
            omega
          have := S'.pick (lives_app e2 hes) hnd
          rw [addrs_app _ _ _ _ ha, ← hadl, addrs_range] at this
          exact this
        · cases e
      · cases e
end
section
variable {X : Cx} {e : Expr} {es : List Expr} {fs : AF} {p pos : Pos}
theorem pd_callG {k n : Nat} {f : Addr} {fd : FuncData} {ps : List Str} {G : GF} {x : Str} (m : Bool) (Fk : FnG X.prog X.w X.K X.mg X.base k f fd ps (spD X.K X.mg n G)) (hr : Room k X.A) (gd : X.A.guards = some []) (hg : Gl X x) (hm : X.mg x = some (.ref f)) (hk : PySem.W.keepIn X.K (.ref f) = true)
    (hb : Binds X.K fd ps []) (ha : PDA X (e :: es) fs) (hdb : (x == ("__debug__" : Str)) = false := by decide) (he : starEach (e :: es) X.env = (false, eval e X.env) :: starEach es X.env := by rfl)
    (hpl : (backTo pos (starEach es X.env)).any (·.1) = false := by rfl) : PD X (.Call (.Name x p) (e :: es) [] pos) (dCallN m n G fs) :=
  PE.weak (pe_callG Fk hr gd hg hm hk hb ha hdb he hpl) fun σ H Q h => by
    obtain ⟨B, F, ad, δ, r, δ', S, e, k⟩ := h
    unfold dCallN at e
    obtain ⟨⟨rs, δ1⟩, e1, e⟩ := Option.bind_eq_some_iff.mp e
    split at e
    · rename_i hl
      refine ⟨B, F, ad, δ, rs, δ1, S, e1, fun B1 ad1 vs H1 s1 p1 S1 r1 => ?_⟩
      exact call_w S1 r1 (by rw [r1.length]; exact hl) e fun B' ad' v H' s2 p2 S' r' => k B' ad' v H' (s1.trans s2) (p1.trans p2) S' r'
    · cases e
end
/-! ### repr -/
mutual
theorem noDict_of : ∀ d : PyData, d.canLay0 = true → d.hasDict = false
  | .none, _ => rfl
  | .bool _, _ => rfl
  | .int _, _ => rfl
  | .str _, _ => rfl
  | .list xs, h => by
    rw [PyData.hasDict]
    exact noDict_all xs (by simpa [PyData.canLay0] using h)
  | .tuple xs, h => by
    rw [PyData.hasDict]
    exact noDict_all xs (by simpa [PyData.canLay0] using h)
  | .dict _, h => by simp [PyData.canLay0] at h
theorem noDict_all : ∀ ds : List PyData, PyData.canLayAll0 ds = true → PyData.hasDictAll ds = false
  | [], _ => rfl
  | d :: ds, h => by
    have h' : d.canLay0 = true ∧ PyData.canLayAll0 ds = true := by simpa [PyData.canLayAll0] using h
    rw [PyData.hasDictAll, noDict_of d h'.1, noDict_all ds h'.2]
    rfl
end
/-- plain data whose text is not too long -/
def rpOk (p : PyData) : Bool := p.canLay0 && p.showable && p.intsShort 400 && decide (p.weight ≤ 40000) && decide (p.depth ≤ 60)
theorem rpOk_len {p : PyData} (h : rpOk p = true) : p.shown.length ≤ sizeLine := by
  simp only [rpOk, Bool.and_eq_true, decide_eq_true_eq] at h
  have h2 := PyData.shown_le 400 (by decide) p (PyData.leavesShort_of_canLay0 400 p h.1.1.1.1 h.1.1.2)
  have e : sizeLine = 16777216 := by decide
  omega
def reprD : CF := g1 fun δ d => match toPy d with
  | some p => if rpOk p then some (.fz (.str p.shown), δ) else none
  | none => none
section
variable {X : Cx}
theorem oc_repr (gd : X.A.guards = some []) (hu : X.A.units + 64 < cLine) : CallR X (.builtin "repr") (rDC X.K X.mg reprD) := by
  intro pins s σ H xs us Q I r h
  obtain ⟨v, rfl, B, F, ad, σ', δ, d, r', δ', S, vw, e, k⟩ := rDC1 h
  obtain ⟨u, rfl, rel⟩ := vals1 r
  cases hp : toPy d with
  | none => rw [hp] at e; cases e
  | some p =>
    rw [hp] at e
    simp only at e
    split at e
    · rename_i ok
      cases e
      have q : Q (.str p.shown) H := here (d := .str p.shown) S rfl k
      have size := rpOk_len ok
      have dp : Dp X.K H v p := dpw_of S.exB vw hp
      obtain ⟨as, rd⟩ := Dp.reads I p v u dp rel
      simp only [rpOk, Bool.and_eq_true, decide_eq_true_eq] at ok
      have noD := noDict_of p ok.1.1.1.1
      cases rd with
      | none => exact PySem.P.repr_of_none ⟨.str _, H, I.tok _, ⟨_, rfl⟩, q⟩
      | bool b => exact PySem.P.repr_of_bool ⟨.str _, H, I.tok _, ⟨_, rfl⟩, q⟩
      | int i t =>
        have hi : i.natAbs.log2 < 1920 := by simpa [PyData.showable] using ok.1.1.1.2
        exact PySem.P.repr_of_int hi ⟨.str _, H, I.tok _, ⟨_, rfl⟩, q⟩
      | str x t => exact PySem.P.repr_of_str ⟨.str _, H, I.tok _, ⟨_, rfl⟩, q⟩ size
      | list h1 h2 h3 h4 => exact PySem.repr_of_reads' (h₀ := s.heap) (.list h1 h2 h3 h4) ok.1.1.1.2 (PyData.noDict_hsm noD) gd (by omega) (fun _ _ e => e) (fun h' u2 tk kept => ⟨.str _, H, I.kept kept, ⟨_, rfl⟩, q⟩) size
      | tuple h1 h2 h3 h4 => exact PySem.repr_of_reads' (h₀ := s.heap) (.tuple h1 h2 h3 h4) ok.1.1.1.2 (PyData.noDict_hsm noD) gd (by omega) (fun _ _ e => e) (fun h' u2 tk kept => ⟨.str _, H, I.kept kept, ⟨_, rfl⟩, q⟩) size
      | dict _ _ _ _ _ => cases noD
    · cases e
/-- two texts -/
def eqS (neg : Bool) : OF := fun δ x y => match x, y with
  | .str a, .str b => some (.fz (.bl (if neg then !decide (a = b) else decide (a = b))), δ)
  | _, _ => none
theorem eqS_w {K : PySem.W.Frag} {mg : Str → Option Value} {neg : Bool} {x y : V} {H : Hp} {Q : VK} (h : rD K mg (eqS neg) x y H Q) : scal x y = true ∧ Q (.bl (if neg then !decide (x = y) else decide (x = y))) H := by
  obtain ⟨B, F, ad, σ', δ, dx, dy, r, δ', S, vx, vy, e, k⟩ := h
  unfold eqS at e
  split at e
  · rename_i a b
    cases e
    have hx : x = .str a := vx
    have hy : y = .str b := vy
    subst hx hy
    refine ⟨rfl, ?_⟩
    have q := here (d := .bl (if neg then !decide (a = b) else decide (a = b))) S rfl k
    have hab : (V.str a = V.str b) ↔ a = b := ⟨fun z => by cases z; rfl, fun z => by rw [z]⟩
    simp only [hab]
    exact q
  · cases e
theorem od_neS : OpR X (compareOp .NotEq) (rD X.K X.mg (eqS true)) := fun pins s σ H x y v u Q I rx ry h => op_ne pins s σ H x y v u Q I rx ry (eqS_w h)
theorem bo_eqS {neg : Bool} : BoolOf (eqS neg) := by
  intro δ x y r δ' e
  unfold eqS at e
  split at e
  · cases e; exact ⟨_, rfl⟩
  · cases e
end
end PK
namespace PK
open PySem L2 PySem.Spec PyProof.Rows
/-! ### a law whose defs show data -/
theorem endG {P : Program} {w : World} {K : PySem.W.Frag} {mg mb : Str → Option Value} {k : Nat} {fa a : Addr} {fd : FuncData} {sp : Sp} {sh : Shared} {vs : List Value} {ns : List Int} (KX : K.In sh.heap) (gl : sh.heap.Ns mainGlobals mg) (bl : sh.heap.Ns builtinsNs mb)
    (bb : ∀ x : Str, x ≠ "__name__" → mb x = bootBuiltins x) (lim : sh.heap.NoLimit) (gens : sh.gens = #[]) (obj : sh.heap.get? a = some { cls := .type "list", data := .seq vs.toArray }) (nums : IntsAre vs ns) (short : ns.length ≤ sizeLine) (rm : Room k callerA)
    (F : ∀ base : Heap, K.In base → base.Ns mainGlobals mg → FnG P w K mg base k fa fd ["script"] sp) (bind : ∀ (s : Shared) (u : Value), BindsTo s fd ⟨[u], []⟩ [("script", u)])
    (asks : ∀ H : Hp, SqL K H a (ns.map V.int) → sp [.ref a] H (fun v _ => v = .bl true) fun _ _ _ => False) :
    codeAny (model P w) callerA (.call (.ref fa) ⟨[.ref a], []⟩) (fun res st => res = .ok (.ret (.bool true)) ∧ OldK sh.heap st.heap ∧ st.os = sh.os ∧ AllBare st.gens) sh := by
  have vals := vals_ints nums
  have many := nums.length
  obtain ⟨H, hH⟩ : ∃ H : Hp, H = fun b => if b = a ∧ K.lookup a = none then some (.frz { cls := .type "list", data := .seq vs.toArray } (.lst (ns.map V.int))) else none := ⟨_, rfl⟩
  have only : ∀ b u, H b = some u → b = a ∧ K.lookup a = none ∧ u = .frz { cls := .type "list", data := .seq vs.toArray } (.lst (ns.map V.int)) := fun b u e => by
    rw [hH] at e
    simp only at e
    split at e
    · rename_i c
      cases e
      exact ⟨c.1, c.2, rfl⟩
    · cases e
  have sq : SqL K H a (ns.map V.int) := by
    cases hk : K.lookup a with
    | some o =>
      have same := KX a o hk
      rw [obj] at same
      cases same
      exact .inr ⟨_, vs.toArray, _, hk, rfl, rfl, rfl, by rw [List.size_toArray, many]; exact short, by simpa using vals⟩
    | none => exact .inl (.inr ⟨{ cls := .type "list", data := .seq vs.toArray }, by rw [hH]; exact if_pos ⟨rfl, hk⟩⟩)
  have hok : HOk P w H sh.heap := fun b u e => by
    obtain ⟨rfl, _, rfl⟩ := only b u e
    exact ⟨obj, by rw [List.length_map]; exact short, vs, _, vals, obj⟩
  have bare : ∀ {b : Addr} {o : Obj} {es : Array DictEntry} {ep : Nat}, sh.heap.get? b = some o → o.data = .dict es ep → H b = none := fun {b o es ep} e d => by
    cases q : H b with
    | none => rfl
    | some u =>
      obtain ⟨rfl, _⟩ := only b u q
      rw [obj] at e
      cases e
      have d' : Data.seq vs.toArray _ = Data.dict es ep := d
      cases d'
  have names : ∀ {b : Addr} {m : Str → Option Value}, sh.heap.Ns b m → (hidT sh.heap H).Ns b m := fun {b m} h => by
    obtain ⟨o, es, ep, e, d, r⟩ := h
    exact ⟨o, es, ep, hidT_get e (bare e d), d, r⟩
  have KB : K.In (hidT sh.heap H) := fun b o e => hidT_get (KX b o e) (by
    cases q : H b with
    | none => rfl
    | some u =>
      obtain ⟨rfl, n, _⟩ := only b u q
      rw [n] at e
      cases e)
  obtain ⟨mc, free, cap⟩ := lim
  have mod : Mod K mg (hidT sh.heap H) := ⟨KB, names gl, ⟨mb, names bl, bb⟩, mc, names free, cap⟩
  have e0 : Env0 P w K mg (hidT sh.heap H) callerA [] sh H := ⟨rfl, mod, fun b o e => of_hidT e, Nat.le_of_eq (hidT_size _ _), trivial, fun b hb => (by cases hb), hok, .of_eq gens⟩
  refine codeAny_mono ((F _ KB (names gl)).go callerA rm rfl [] sh H ⟨[.ref a], []⟩ [.ref a] [.ref a] _ _ e0 (bind sh (.ref a)) (.cons rfl .nil) (asks H sq)) fun res st done => ?_
  match res, done with
  | .ok (.ret u), done =>
    obtain ⟨v, H2, os, ag, un, hok2, rel, good⟩ := done
    have good' : v = .bl true := good
    subst good'
    obtain rfl : u = Value.bool true := rel
    refine ⟨rfl, OldK.of_keep fun b o e => ?_, os, ag⟩
    cases q : H b with
    | none => exact un.keep b o e q (fun z => by cases z) (fun z => by cases z)
    | some u =>
      obtain ⟨rfl, _, rfl⟩ := only b u q
      obtain ⟨e1, _⟩ := hok b _ q
      obtain ⟨e2, _⟩ := hok2 b _ (un.frzs b _ _ q)
      rw [e] at e1
      cases e1
      exact e2
theorem walkLawG {l : PySem.W.OpenLaw} {k : Nat} {q : Program} {loose : List Str} {XP : (Str → Option Value) → Heap → Prop} {YP : World → Heap → Prop} {d : DefRec} {K : Params → PySem.W.Frag} (hn : l.most = some 63) (hdf : d.params.defaults = []) (hr : Room k callerA)
    (hY : ∀ (w : World) (h : Heap), YP w h → (K w.params).In h)
    (F : ∀ (w : World) (mg : Str → Option Value) (fa : Addr) (h : Heap), (K w.params).In h → h.Ns mainGlobals mg → mg d.name = some (.ref fa) →
      ∃ fd : FuncData, (∀ (s : Shared) (u : Value), BindsTo s fd ⟨[u], []⟩ [("script", u)]) ∧ ∀ base : Heap, (K w.params).In base → base.Ns mainGlobals mg → FnG l.prog w (K w.params) mg base k fa fd ["script"]
        (fun vs H Q _ => ∃ (a : Addr) (ns : List Int), vs = [.ref a] ∧ SqL (K w.params) H a (ns.map V.int) ∧ (ns.length ≤ 63 ∧ ∀ z ∈ ns, Builtin.Int.intBits z ≤ 1048576) ∧ ∀ H', Q (.bl true) H')) :
    PySem.W.WalkO q loose XP YP l.row.toRowW d [] (fun f vs => PySem.call f vs) := by
  refine Att.attach_callB hn hdf fun w st0 sh mg mb fa o pm cd doc a vs ns ground Y ho hd hcd named obj nums many bits gens => ?_
  obtain ⟨fd, bind, good⟩ := F w mg fa _ (hY w _ Y) ground.T.g named
  exact endG (hY w _ Y) ground.T.g ground.T.b ground.T.builtins ground.T.nolimit gens obj nums (Nat.le_trans many (by decide)) hr good bind fun H sq => ⟨a, ns, rfl, sq, ⟨many, bits⟩, fun _ => rfl⟩
end PK
namespace PK
open PySem L2 PySem.Spec PyProof.Rows
/-! ### data that may be shown, by size -/
def Shw (w k : Nat) (d : D) : Prop := ∃ p, toPy d = some p ∧ p.canLay0 = true ∧ p.showable = true ∧ p.intsShort 400 = true ∧ p.weight ≤ w ∧ p.depth ≤ k
theorem shw_int {i : Int} (h : i.natAbs < 2 ^ 390) : Shw 390 0 (.int i) := by
  have hl : i.natAbs.log2 < 390 ∨ i.natAbs = 0 := by
    rcases Nat.eq_zero_or_pos i.natAbs with e | e
    · exact .inr e
    · exact .inl ((Nat.log2_lt (by omega)).mpr h)
  have hl2 : i.natAbs.log2 < 390 := by
    rcases hl with e | e
    · exact e
    · rw [e]; decide
  refine ⟨.int i, rfl, rfl, ?_, ?_, ?_, Nat.zero_le _⟩
  · simp only [PyData.showable, decide_eq_true_eq]
    omega
  · have h2 := int_text_length_le (k := 390) (by decide) hl2
    refine decide_eq_true ?_
    show (Str.ofString (toString i)).length ≤ 400
    rw [PySem.ofString_length]
    omega
  · simp only [PyData.weight]
    split <;> omega
theorem shw_non : Shw 0 0 .non := ⟨.none, rfl, rfl, rfl, rfl, Nat.le_refl _, Nat.le_refl _⟩
theorem shw_str {x : Str} (h : PyData.strOk x = true) : Shw x.cps.size 0 (.str x) := ⟨.str x, rfl, h, rfl, rfl, Nat.le_refl _, Nat.le_refl _⟩
theorem shws {w k : Nat} : ∀ {ds : List D}, (∀ d ∈ ds, Shw w k d) → ∃ ps, toPys ds = some ps ∧ PyData.canLayAll0 ps = true ∧ PyData.showableAll ps = true ∧ PyData.intsShortAll 400 ps = true ∧ PyData.weightAll ps ≤ (w + 1) * ds.length ∧ PyData.depthAll ps ≤ k
  | [], _ => ⟨[], rfl, rfl, rfl, rfl, Nat.zero_le _, Nat.zero_le _⟩
  | d :: ds, h => by
    obtain ⟨p, h1, h2, h3, h4, h5, h6⟩ := h d List.mem_cons_self
    obtain ⟨ps, g1, g2, g3, g4, g5, g6⟩ := shws (ds := ds) fun x hx => h x (List.mem_cons_of_mem _ hx)
    refine ⟨p :: ps, by simp [toPys, h1, g1], by simp [PyData.canLayAll0, h2, g2], by simp [PyData.showableAll, h3, g3], by simp [PyData.intsShortAll, h4, g4], ?_, by rw [PyData.depthAll]; exact Nat.max_le.mpr ⟨h6, g6⟩⟩
    rw [PyData.weightAll, List.length_cons, Nat.mul_succ]
    omega
theorem shw_tup {w k : Nat} {ds : List D} (h : ∀ d ∈ ds, Shw w k d) : Shw ((w + 1) * ds.length) (k + 1) (.tup ds) := by
  obtain ⟨ps, g1, g2, g3, g4, g5, g6⟩ := shws h
  exact ⟨.tuple ps, by simp [toPy, g1], by simp [PyData.canLay0, g2], by simp [PyData.showable, g3], by simp [PyData.intsShort, g4], by simpa [PyData.weight] using g5, by simp [PyData.depth, g6]⟩
theorem shw_lst {w k : Nat} {ds : List D} (h : ∀ d ∈ ds, Shw w k d) : Shw ((w + 1) * ds.length) (k + 1) (.lst ds) := by
  obtain ⟨ps, g1, g2, g3, g4, g5, g6⟩ := shws h
  exact ⟨.list ps, by simp [toPy, g1], by simp [PyData.canLay0, g2], by simp [PyData.showable, g3], by simp [PyData.intsShort, g4], by simpa [PyData.weight] using g5, by simp [PyData.depth, g6]⟩
theorem Shw.up {w k w' k' : Nat} {d : D} (h : Shw w k d) (hw : w ≤ w') (hk : k ≤ k') : Shw w' k' d := by
  obtain ⟨p, h1, h2, h3, h4, h5, h6⟩ := h
  exact ⟨p, h1, h2, h3, h4, Nat.le_trans h5 hw, Nat.le_trans h6 hk⟩
theorem Shw.rp {w k : Nat} {d : D} (h : Shw w k d) (hw : w ≤ 40000) (hk : k ≤ 60) : ∃ t, ∀ δ, reprD δ [d] = some (.fz (.str t), δ) := by
  obtain ⟨p, h1, h2, h3, h4, h5, h6⟩ := h
  have ok : rpOk p = true := by
    have a : p.weight ≤ 40000 := Nat.le_trans h5 hw
    have b : p.depth ≤ 60 := Nat.le_trans h6 hk
    simp [rpOk, h2, h3, h4, a, b]
  exact ⟨p.shown, fun δ => by simp [reprD, PK.g1, h1, ok]⟩
/-! ### reckoning with data functions, by parts -/
theorem cb1_ {g : CF} {f : EF} {δ δ1 : Dl} {r : Vl} {d : D} (e : f δ = some (r, δ1)) (hd : der δ1 r = some d) : dCB g (aCons f aNil) δ = g δ1 [d] := by
  simp [dCB, aCons, aNil, e, ders, hd]
/-- the texts of equal data are equal -/
theorem rp_same {neg : Bool} {w k : Nat} {fa fb : EF} {δ δ1 δ2 : Dl} {r1 r2 : Vl} {d : D} (h : Shw w k d) (hw : w ≤ 40000) (hk : k ≤ 60) (ea : fa δ = some (r1, δ1)) (da : der δ1 r1 = some d) (eb : fb δ1 = some (r2, δ2)) (db : der δ2 r2 = some d) :
    dOp (eqS neg) (dCB reprD (aCons fa aNil)) (dCB reprD (aCons fb aNil)) δ = some (.fz (.bl (!neg)), δ2) := by
  obtain ⟨t, ht⟩ := h.rp hw hk
  have e1 := (cb1_ (g := reprD) ea da).trans (ht δ1)
  have e2 := (cb1_ (g := reprD) eb db).trans (ht δ2)
  simp only [dOp, e1, Option.bind_some, e2, der, eqS]
  cases neg <;> simp
end PK
namespace PK
open PySem L2 PySem.Spec PyProof.Rows
theorem cl0 {G : GF} {m : Bool} {n : Nat} {fa : AF} {δ δ' : Dl} {rs : List Vl} {d : D} (ea : fa δ = some (rs, δ')) (hl : rs.length = n) (hr : refs rs = []) (eG : G (renum 0 rs) [] = some (.val d, [])) :
    dCallN m n G fa δ = some (.fz d, δ') := by
  simp [dCallN, ea, hl, callG, hr, lives, eG, PK.putAll]
theorem cl1 {G : GF} {m : Bool} {n k : Nat} {fa : AF} {δ δ' : Dl} {rs : List Vl} {p p' : List D} {d : D} (ea : fa δ = some (rs, δ')) (hl : rs.length = n) (hr : refs rs = [k]) (ek : δ'.st[k]? = some (some p)) (eG : G (renum 0 rs) [p] = some (.val d, [p'])) :
    dCallN m n G fa δ = some (.fz d, { δ' with st := δ'.st.set k (some p') }) := by
  simp [dCallN, ea, hl, callG, hr, lives, ek, eG, PK.putAll]
theorem cl0f {G : GF} {m : Bool} {n : Nat} {fa : AF} {δ δ' : Dl} {rs : List Vl} {es : List D} (ea : fa δ = some (rs, δ')) (hl : rs.length = n) (hr : refs rs = []) (eG : G (renum 0 rs) [] = some (.fresh es, [])) :
    dCallN m n G fa δ = some (PK.mk m es δ') := by
  simp [dCallN, ea, hl, callG, hr, lives, eG, PK.putAll]
theorem cl1f {G : GF} {m : Bool} {n k : Nat} {fa : AF} {δ δ' : Dl} {rs : List Vl} {p p' es : List D} (ea : fa δ = some (rs, δ')) (hl : rs.length = n) (hr : refs rs = [k]) (ek : δ'.st[k]? = some (some p)) (eG : G (renum 0 rs) [p] = some (.fresh es, [p'])) :
    dCallN m n G fa δ = some (PK.mk m es { δ' with st := δ'.st.set k (some p') }) := by
  simp [dCallN, ea, hl, callG, hr, lives, ek, eG, PK.putAll]
theorem sPar2 {i j : Nat} {fa : AF} {δ δ' : Dl} {x y : Vl} (h : fa δ = some ([x, y], δ')) : sPar [i, j] fa δ = some (.nx, { δ' with sl := (δ'.sl.set i (some x)).set j (some y) }) := by
  rw [sPar, h]
  rfl
theorem aC {f : EF} {g : AF} {δ δ1 δ2 : Dl} {r : Vl} {rs : List Vl} (h : f δ = some (r, δ1)) (h2 : g δ1 = some (rs, δ2)) : aCons f g δ = some (r :: rs, δ2) := by
  simp [aCons, h, h2]
theorem sSet_ {i : Nat} {f : EF} {δ δ1 : Dl} {r : Vl} (h : f δ = some (r, δ1)) : sSet i f δ = some (.nx, { δ1 with sl := δ1.sl.set i (some r) }) := by simp [sSet, h]
theorem sSeq_nx {f g : SF} {δ δ1 : Dl} (h : f δ = some (.nx, δ1)) : sSeq f g δ = g δ1 := by simp [sSeq, h]
theorem eqD_ne {k : Nat} {neg : Bool} {δ : Dl} {acc : List D} (h : acc ≠ []) (hn : ∀ x ∈ acc, Nice k x) (hk : k < 64) : eqD neg δ (.lst acc) (.lst []) = some (.fz (.bl neg), δ) := by
  cases acc with
  | nil => exact absurd rfl h
  | cons d ds => exact eqD_app hn hk
theorem dOp_ {g : OF} {fa fb : EF} {δ δ1 δ2 : Dl} {x y : Vl} {a b : D} (h1 : fa δ = some (x, δ1)) (h2 : fb δ1 = some (y, δ2)) (ha : der δ2 x = some a) (hb : der δ2 y = some b) : dOp g fa fb δ = g δ2 a b := by simp [dOp, h1, h2, ha, hb]
theorem dB_ {f : EF} {δ δ1 : Dl} {b : Bool} (h : f δ = some (.fz (.bl b), δ1)) : dB f δ = some (b, δ1) := by simp [dB, h, der, truD]
theorem sIf_ {t : BF} {f g : SF} {δ δ1 : Dl} {b : Bool} (h : t δ = some (b, δ1)) : sIf t f g δ = if b = true then f δ1 else g δ1 := by simp [sIf, h]
theorem cut_from (xs : List D) (k : Nat) : cutD xs (some (k : Int)) Option.none = xs.drop k := by
  rw [cutD, HT.sIx_nat, HT.sIx_none]
  by_cases h : k ≤ xs.length
  · rw [Nat.min_eq_left h, List.take_of_length_le (by simp)]
  · rw [Nat.min_eq_right (by omega), List.drop_eq_nil_of_le (Nat.le_refl _), List.drop_eq_nil_of_le (by omega)]
    simp
theorem cut_to (xs : List D) (k : Nat) : cutD xs Option.none (some (k : Int)) = xs.take k := by
  rw [cutD, HT.sIx_nat, HT.sIx_none]
  by_cases h : k ≤ xs.length
  · rw [Nat.min_eq_left h]
    simp
  · rw [Nat.min_eq_right (by omega), List.drop_zero, Nat.sub_zero, List.take_of_length_le (Nat.le_refl _), List.take_of_length_le (by omega)]
theorem sl_from {m : Bool} {f fl : EF} {δ δ1 δ2 : Dl} {xs : List D} {k : Nat} (e1 : f δ = some (.fz (.lst xs), δ1)) (e2 : fl δ1 = some (.fz (.int k), δ2)) : dSl m f (oSome fl) oNone δ = some (mk m (xs.drop k) δ2) := by
  simp [dSl, e1, e2, oSome, oNone, der, slD, cut_from]
theorem sl_to {m : Bool} {f fl : EF} {δ δ1 δ2 : Dl} {xs : List D} {k : Nat} (e1 : f δ = some (.fz (.lst xs), δ1)) (e2 : fl δ1 = some (.fz (.int k), δ2)) : dSl m f oNone (oSome fl) δ = some (mk m (xs.take k) δ2) := by
  simp [dSl, e1, e2, oSome, oNone, der, slD, cut_to]
theorem lcGo_fil {α : Type} {ck : List (Nat × List D)} {own : List Nat} {test : BF} {elt : EF} {i : Nat} {sl : List (Option Vl)} {st : List (Option (List D))} {en out : α → D} {keep : α → Bool} (hck : CkOk ck ⟨sl, st⟩) : ∀ (xs : List α) (acc : List D), acc.length + xs.length ≤ small →
    (∀ x ∈ xs, ∃ sl', test ⟨sl.set i (some (.fz (en x))), st⟩ = some (keep x, ⟨sl', st⟩) ∧ (keep x = true → ∃ sl2, elt ⟨sl', st⟩ = some (.fz (out x), ⟨sl2, st⟩))) → lcGo ck (.nm i) own test elt sl (xs.map en) acc ⟨sl, st⟩ = some (acc ++ (xs.filter keep).map out, ⟨sl, st⟩)
  | [], acc, _, _ => by simp [lcGo, hck]
  | x :: xs, acc, hl, h => by
    rw [List.length_cons] at hl
    obtain ⟨sl', e, e2⟩ := h x List.mem_cons_self
    have h1 : acc.length < small := by omega
    cases hk : keep x with
    | true =>
      obtain ⟨sl2, e3⟩ := e2 hk
      have ih := lcGo_fil (own := own) hck xs (acc ++ [out x]) (by simp; omega) fun y hy => h y (List.mem_cons_of_mem _ hy)
      rw [List.append_assoc, List.singleton_append] at ih
      rw [List.map_cons, List.filter_cons, if_pos hk, List.map_cons, ← ih, lcGo]
      rw [hk] at e
      simp [h1, asgT, e, e3, frz, hck]
    | false =>
      have ih := lcGo_fil (own := own) hck xs acc (by omega) fun y hy => h y (List.mem_cons_of_mem _ hy)
      rw [List.map_cons, List.filter_cons, if_neg (by rw [hk]; exact Bool.false_ne_true), ← ih, lcGo]
      rw [hk] at e
      simp [h1, asgT, e, frz, hck]
theorem mt0 {G : GF} {c m : Str} {mm : Bool} {n : Nat} {fo : EF} {fa : AF} {δ δ1 δ2 : Dl} {x : D} {rs : List Vl} {d : D} (e : fo δ = some (.fz x, δ1)) (hr : recvOk c m (.fz x) = true) (ea : fa δ1 = some (rs, δ2)) (hl : (Vl.fz x :: rs).length = n) (hrf : refs (Vl.fz x :: rs) = []) (eG : G (renum 0 (Vl.fz x :: rs)) [] = some (.val d, [])) :
    dMeth mm c m n G fo fa δ = some (.fz d, δ2) := by
  subst hl
  simp only [dMeth, e, Option.bind_some, hr, if_true, ea, if_pos, callG, hrf, List.nodup_nil, lives, eG, List.length_nil, PK.putAll]
theorem mt0f {G : GF} {c m : Str} {mm : Bool} {n : Nat} {fo : EF} {fa : AF} {δ δ1 δ2 : Dl} {x : D} {rs : List Vl} {es : List D} (e : fo δ = some (.fz x, δ1)) (hr : recvOk c m (.fz x) = true) (ea : fa δ1 = some (rs, δ2)) (hl : (Vl.fz x :: rs).length = n) (hrf : refs (Vl.fz x :: rs) = []) (eG : G (renum 0 (Vl.fz x :: rs)) [] = some (.fresh es, [])) :
    dMeth mm c m n G fo fa δ = some (PK.mk mm es δ2) := by
  subst hl
  simp only [dMeth, e, Option.bind_some, hr, if_true, ea, if_pos, callG, hrf, List.nodup_nil, lives, eG, List.length_nil, PK.putAll]
theorem lenI_ {c : Str} {G : GF} {f : EF} {δ δ1 : Dl} {ns : List Str} {ds : List D} {k : Nat} (h : f δ = some (.fz (.ins c ns ds), δ1)) (e : G [.fz (.ins c ns ds)] [] = some (.val (.int k), [])) (hk : k < 1000) : dLenI c G f δ = some (.fz (.int k), δ1) := by
  have h1 : (k : Int) < 2 ^ 62 := by omega
  simp only [dLenI, h, Option.bind_some, if_true, e]
  rw [if_pos ⟨by omega, h1⟩]
theorem bOr_ff {f g : BF} {δ δ1 δ2 : Dl} (h : f δ = some (false, δ1)) (h2 : g δ1 = some (false, δ2)) : bOr f g δ = some (false, δ2) := by simp [bOr, h, h2]
theorem bNot_ {f : BF} {δ δ1 : Dl} {b : Bool} (h : f δ = some (b, δ1)) : bNot f δ = some (!b, δ1) := by simp [bNot, h]
theorem forD_nm {i : Nat} {body : SF} {d : D} {ds : List D} {δ δ2 : Dl} {r : Option (Fl × Dl)} (h : body ⟨δ.sl.set i (some (.fz d)), δ.st⟩ = some (.nx, δ2)) (h2 : forD [] (.nm i) body ds δ2 = r) : forD [] (.nm i) body (d :: ds) δ = r := by
  rw [forD, if_pos (by simp)]
  simp only [asgT, Option.bind_some, h, h2]
theorem forD_nil0 {tg : Tg} {body : SF} {δ : Dl} : forD [] tg body [] δ = some (.nx, δ) := by
  rw [forD, if_pos (by simp)]
theorem lcGo_map {α : Type} {own : List Nat} {elt : EF} {i : Nat} {sl : List (Option Vl)} {st : List (Option (List D))} {en out : α → D} : ∀ (xs : List α) (acc : List D), acc.length + xs.length ≤ small →
    (∀ x ∈ xs, ∃ sl', elt ⟨sl.set i (some (.fz (en x))), st⟩ = some (.fz (out x), ⟨sl', st⟩)) → lcGo [] (.nm i) own bYes elt sl (xs.map en) acc ⟨sl, st⟩ = some (acc ++ xs.map out, ⟨sl, st⟩)
  | [], acc, _, _ => by simp [lcGo]
  | x :: xs, acc, hl, h => by
    rw [List.length_cons] at hl
    obtain ⟨sl', e⟩ := h x List.mem_cons_self
    have ih := lcGo_map (own := own) xs (acc ++ [out x]) (by simp; omega) fun y hy => h y (List.mem_cons_of_mem _ hy)
    have h1 : acc.length < small := by omega
    rw [List.append_assoc, List.singleton_append] at ih
    rw [List.map_cons, List.map_cons, ← ih, lcGo]
    simp [h1, asgT, bYes, e, frz]
end PK
namespace PK
open PySem L2 PySem.Spec PyProof.Rows
/-! ### while, by so many rounds -/
def whileN (t : BF) (f : SF) : Nat → Dl → Option (Fl × Dl)
  | 0, _ => none
  | m + 1, δ => (t δ).bind fun p => if p.1 then (f p.2).bind fun q => match q.1 with
      | .nx => whileN t f m q.2
      | .ct => whileN t f m q.2
      | .bk => some (.nx, q.2)
      | .rt r => some (.rt r, q.2)
    else some (.nx, p.2)
def sWhile (t : BF) (f : SF) : SF := whileN t f 1000000
theorem whileN_up {t : BF} {f : SF} : ∀ {m n : Nat} {δ : Dl} {r : Fl × Dl}, whileN t f m δ = some r → m ≤ n → whileN t f n δ = some r
  | 0, _, _, _, h, _ => by cases h
  | m + 1, 0, _, _, _, hn => absurd hn (by omega)
  | m + 1, n + 1, δ, r, h, hn => by
    rw [whileN] at h ⊢
    obtain ⟨⟨b, δ1⟩, e1, e⟩ := Option.bind_eq_some_iff.mp h
    rw [e1, Option.bind_some]
    cases b with
    | false => exact e
    | true =>
      rw [if_pos rfl] at e ⊢
      obtain ⟨⟨fl, δ2⟩, e2, e3⟩ := Option.bind_eq_some_iff.mp e
      rw [e2, Option.bind_some]
      cases fl with
      | nx => exact whileN_up e3 (by omega)
      | ct => exact whileN_up e3 (by omega)
      | bk => exact e3
      | rt v => exact e3
theorem sWhile_of {t : BF} {f : SF} {m : Nat} {δ : Dl} {r : Fl × Dl} (h : whileN t f m δ = some r) (hm : m ≤ 1000000) : sWhile t f δ = some r := whileN_up h hm
section
variable {X : Cx} {c : Expr} {ft : BF} {g : SF} {body : List Stmt} {pos : Pos}
theorem pds_while (hc : PDT X c ft) (hb : PDSs X body g) (hp : PassesOwn (model X.prog X.w) X.A X.env X.xe) : PDS X (.While c body [] pos) (sWhile ft g) := PS.weak (ps_while hp hc hb) fun D σ H h => by
  obtain ⟨B, F, ad, δ, r, δ', S, e, k⟩ := h
  unfold sWhile at e
  refine ⟨fun m σ2 H2 => ∃ B2 ad2 δ2, Same B B2 ∧ Pre ad ad2 ∧ SRep X.K X.mg B2 F ad2 σ2 δ2 H2 ∧ whileN ft g m δ2 = some (r, δ'), ⟨_, B, ad, δ, Same.refl _, Pre.refl _, S, e⟩, ?_⟩
  rintro m σ2 H2 ⟨B2, ad2, δ2, s2, p2, S2, e2⟩
  cases m with
  | zero => cases e2
  | succ m =>
    rw [whileN] at e2
    obtain ⟨⟨b, δ3⟩, e3, e4⟩ := Option.bind_eq_some_iff.mp e2
    refine ⟨B2, F, ad2, δ2, b, δ3, S2, e3, fun B3 ad3 H3 s3 p3 S3 => ?_⟩
    cases b with
    | false =>
      rw [if_neg Bool.false_ne_true] at e4 ⊢
      cases e4
      exact k B3 ad3 σ2 H3 (s2.trans s3) (p2.trans p3) S3
    | true =>
      rw [if_pos rfl] at e4 ⊢
      obtain ⟨⟨fl, δ4⟩, e5, e6⟩ := Option.bind_eq_some_iff.mp e4
      refine ⟨fun σ4 H4 => ∃ B4 ad4, Same B B4 ∧ Pre ad ad4 ∧ SRep X.K X.mg B4 F ad4 σ4 δ4 H4 ∧ whileN ft g m δ4 = some (r, δ'), fun σ4 H4 q => ?_, B3, F, ad3, δ3, fl, δ4, S3, e5, fun B4 ad4 σ4 H4 s4 p4 S4 => ?_⟩
      · obtain ⟨B4, ad4, s4, p4, S4, e7⟩ := q
        exact ⟨m, Nat.lt_succ_self m, B4, ad4, δ4, s4, p4, S4, e7⟩
      · cases fl with
        | nx => exact ⟨B4, ad4, (s2.trans s3).trans s4, (p2.trans p3).trans p4, S4, e6⟩
        | ct => exact ⟨B4, ad4, (s2.trans s3).trans s4, (p2.trans p3).trans p4, S4, e6⟩
        | bk =>
          cases e6
          exact k B4 ad4 σ4 H4 ((s2.trans s3).trans s4) ((p2.trans p3).trans p4) S4
        | rt v =>
          cases e6
          exact k B4 ad4 σ4 H4 ((s2.trans s3).trans s4) ((p2.trans p3).trans p4) S4
end
/-! ### gcd -/
def gcdD : CF := g2 fun δ x y => match x, y with
  | .int i, .int j => some (.fz (.int (Nat.gcd i.natAbs j.natAbs : Nat)), δ)
  | _, _ => none
section
variable {X : Cx} {e : Expr} {es : List Expr} {fs : AF} {p pos : Pos}
theorem oc_gcd : CallR X (.builtin "math.gcd") (rDC X.K X.mg gcdD) := by
  intro pins s σ H xs us Q I r h
  obtain ⟨v, w, rfl, B, F, ad, σ', δ, d, d2, r', δ', S, vw, vw2, e, k⟩ := rDC2 h
  refine cr_gcd pins s σ H _ us Q I r ?_
  cases d with
  | int i =>
    cases d2 with
    | int j =>
      cases e
      exact ⟨i, j, by rw [show v = .int i from vw, show w = .int j from vw2], here (d := .int _) S rfl k⟩
    | _ => cases e
  | _ => cases e
theorem pd_cbf {g : CF} {id : String} {x : Str} (hc : CallR X (.builtin id) (rDC X.K X.mg g)) (hg : Gl X x) (hm : X.mg x = some (.builtin id)) (ha : PDA X (e :: es) fs) (hdb : (x == ("__debug__" : Str)) = false := by decide)
    (he : starEach (e :: es) X.env = (false, eval e X.env) :: starEach es X.env := by rfl) (hpl : (backTo pos (starEach es X.env)).any (·.1) = false := by rfl) : PD X (.Call (.Name x p) (e :: es) [] pos) (dCB g fs) :=
  PE.weak (pe_callBfun hc hg hm ha hdb he hpl) fun σ H Q h => dCB_w h
end
end PK
namespace PK
open PySem L2 PySem.Spec PyProof.Rows
/-! ### the rest by a divisor of either sign -/
end PK
namespace PK
open PySem PySem.Spec PyProof.Rows L2 RZ
/-! ### two things walked together: each one's iterator by what it keeps and gives -/
structure Itr (P : Program) (w : World) (it l : Addr) (S : Nat → Heap → Prop) (g : Nat → Option Value) : Prop where
  obj : ∀ k h, S k h → ∃ o, h.get? it = some o ∧ ∀ v, o.data ≠ .cell v
  keep : ∀ k h h', S k h → (∀ o, h.get? it = some o → h'.get? it = some o) → (∀ o, h.get? l = some o → h'.get? l = some o) → S k h'
  next : ∀ (A : Around) (E : Value → Shared → Prop) (sh : Shared) (k : Nat) (x : Value) (Q : Value → Shared → Prop), S k sh.heap → g k = some x → (∀ h', S (k + 1) h' → Heap.SameBut it sh.heap h' → Q x { sh with heap := h' }) → wpAny (model P w) A (Builtin.SmallTypes.nextOf (.ref it)) Q E sh
  stop : ∀ (A : Around) (E : Value → Shared → Prop) (sh : Shared) (k : Nat) (Q : Value → Shared → Prop), A.handled = none → S k sh.heap → g k = none → (∀ h' e, Heap.ExtBut it sh.heap h' → (∃ o, h'.get? e = some o ∧ o.cls = .type "StopIteration") → E (.ref e) { sh with heap := h' }) →
    wpAny (model P w) A (Builtin.SmallTypes.nextOf (.ref it)) Q E sh
theorem itr_list {P : Program} {w : World} {it l : Addr} {its : Array Value} (ne : l ≠ it) : Itr P w it l (fun k h => h.IsListIter it l k ∧ h.IsList l its) (fun k => its[k]?) where
  obj := fun k h a => by
    obtain ⟨⟨o, got, _, dat⟩, _⟩ := a
    exact ⟨o, got, fun v e => by rw [dat] at e; cases e⟩
  keep := fun k h h' a k1 k2 => by
    obtain ⟨⟨o, got, more⟩, o2, got2, more2⟩ := a
    exact ⟨⟨o, k1 o got, more⟩, o2, k2 o2 got2, more2⟩
  next := fun A E sh k x Q a e good => wpAny_nextOf_list_item a.1 a.2 e fun h' a1 sb => good h' ⟨a1, a.2.extBut sb.extBut ne⟩ sb
  stop := fun A E sh k Q hd a e good => wpAny_nextOf_list_end hd a.1 a.2 e good
theorem itr_tup {P : Program} {w : World} {it l : Addr} {its : Array Value} (ne : l ≠ it) : Itr P w it l (fun k h => h.IsTupleIter it l k ∧ h.IsTuple l its) (fun k => its[k]?) where
  obj := fun k h a => by
    obtain ⟨⟨o, got, _, dat⟩, _⟩ := a
    exact ⟨o, got, fun v e => by rw [dat] at e; cases e⟩
  keep := fun k h h' a k1 k2 => by
    obtain ⟨⟨o, got, more⟩, o2, got2, more2⟩ := a
    exact ⟨⟨o, k1 o got, more⟩, o2, k2 o2 got2, more2⟩
  next := fun A E sh k x Q a e good => nextOf_tuple_item a.1 a.2 e fun h' a1 sb => good h' ⟨a1, a.2.extBut sb.extBut ne⟩ sb
  stop := fun A E sh k Q hd a e good => nextOf_tuple_end hd a.1 a.2 e good
section
variable {P : Program} {w : World} {A : Around} {E : Value → Shared → Prop} {sh : Shared} {zo pi po ia ib la lb : Addr} {Sa Sb : Nat → Heap → Prop} {ga gb : Nat → Option Value} {ka kb : Nat} {a0 b0 : Value}
theorem zm_next {x y : Value} {Q : Value → Shared → Prop} (Ia : Itr P w ia la Sa ga) (Ib : Itr P w ib lb Sb gb) (D : ZipApart zo pi po ia ib la lb) (zz : IsZip sh.heap zo pi po .none) (pp : IsPair sh.heap pi (.ref ia) (.ref ib)) (qq : IsPair sh.heap po a0 b0)
    (ha : Sa ka sh.heap) (hb : Sb kb sh.heap) (ex : ga ka = some x) (ey : gb kb = some y)
    (good : ∀ h', IsZip h' zo pi po (rawInt sh.heap.objs.size) → IsPair h' po x y → Sa (ka + 1) h' → Sb (kb + 1) h' → IsPair h' sh.heap.objs.size x y → h'.objs.size = sh.heap.objs.size + 1 → (∀ c o, c ≠ zo → c ≠ po → c ≠ ia → c ≠ ib → sh.heap.get? c = some o → h'.get? c = some o) → Q (.ref sh.heap.objs.size) { sh with heap := h' }) :
    wpAny (model P w) A (Builtin.«zip.__next__» ⟨[.ref zo], []⟩) (fun fin sx => ∃ v, fin = .done (.ret v) ∧ Q v sx) E sh := by
  show wpAny _ _ (field (.ref zo) 2 >>= _) _ _ _; refine wpAny_bind (wpAny_field zz rfl (x := .bool false) rfl ?_)
  show wpAny _ _ (field (.ref zo) 3 >>= _) _ _ _; refine wpAny_bind (wpAny_field zz rfl (x := .ref pi) rfl (wpAny_bind (wpAny_seqItems pp rfl ?_)))
  show wpAny _ _ (Builtin.SmallTypes.ownedTupleIsFree (.ref zo) >>= _) _ _ _; refine wpAny_bind ?_; unfold Builtin.SmallTypes.ownedTupleIsFree
  refine wpAny_bind (wpAny_field zz rfl (x := .none) rfl (wpAny_pure ?_)); simp only [if_true]; refine wpAny_bind (wpAny_rule (wpAny_bind (wpAny_field zz rfl (x := .ref po) rfl (wpAny_bind (wpAny_setField_rec zz (by simp) fun m1 z1 c1 => ?_)))))
  replace z1 : IsZip m1 zo pi po .ellipsis := z1
  refine wpAny_bind ?_; simp only [List.forIn_cons, List.forIn_nil, List.zipIdx_cons, List.zipIdx_nil]; refine wpAny_bind (wpAny_bind (wpAny_onRaise ?_)); show wpAny _ _ (Builtin.SmallTypes.nextOf (.ref ia) >>= _) _ _ _
  have ha1 : Sa ka m1 := Ia.keep _ _ _ ha (fun o e => c1.extBut _ _ D.i1z e) fun o e => c1.extBut _ _ D.l1z e
  refine wpAny_bind (Ia.next _ _ _ _ _ _ ha1 ex fun m2 ha2 c2 => wpAny_pure ?_)
  have q2 : IsPair m2 po a0 b0 := c2.extBut _ _ D.TOi1 (c1.extBut _ _ D.TOz qq)
  refine wpAny_bind (wpAny_seqItems q2 rfl (wpAny_bind (wpAny_updateSeq_pair q2 fun m3 q3 c3 => ?_)))
  replace q3 : IsPair m3 po x b0 := q3
  refine wpAny_bind (wpAny_letGo (wpAny_pure ?_)); refine wpAny_bind (wpAny_bind (wpAny_onRaise ?_)); show wpAny _ _ (Builtin.SmallTypes.nextOf (.ref ib) >>= _) _ _ _
  have to3 : ∀ c o, c ≠ zo → c ≠ ia → c ≠ po → sh.heap.get? c = some o → m3.get? c = some o := fun c o n1 n2 n3 e => c3.extBut _ _ n3 (c2.extBut _ _ n2 (c1.extBut _ _ n1 e))
  have hb3 : Sb kb m3 := Ib.keep _ _ _ hb (fun o e => to3 _ o D.i2z D.i12.symm D.TOi2.symm e) fun o e => to3 _ o D.l2z D.l2i1 D.l2TO e
  refine wpAny_bind (Ib.next _ _ _ _ _ _ hb3 ey fun m4 hb4 c4 => wpAny_pure ?_)
  have q4 : IsPair m4 po x b0 := c4.extBut _ _ D.TOi2 q3
  refine wpAny_bind (wpAny_seqItems q4 rfl (wpAny_bind (wpAny_updateSeq_pair q4 fun m5 q5 c5 => ?_)))
  replace q5 : IsPair m5 po x y := q5
  refine wpAny_bind (wpAny_letGo (wpAny_pure (wpAny_pure (wpAny_bind (wpAny_seqItems q5 rfl (wpAny_bind (wpAny_newTuple ?_)))))))
  have same : m5.objs.size = sh.heap.objs.size := by rw [c5.1, c4.1, c3.1, c2.1, c1.1]
  have to5 : ∀ c o, c ≠ po → c ≠ ib → m3.get? c = some o → m5.get? c = some o := fun c o n1 n2 e => c5.extBut _ _ n1 (c4.extBut _ _ n2 e)
  have z3 : IsZip m3 zo pi po .ellipsis := c3.extBut _ _ D.TOz.symm (c2.extBut _ _ D.i1z.symm z1)
  have z5 : IsZip m5 zo pi po .ellipsis := to5 _ _ D.TOz.symm D.i2z.symm z3
  have ha5 : Sa (ka + 1) m5 := Ia.keep _ _ _ ha2 (fun o e => to5 _ o D.TOi1.symm D.i12 (c3.extBut _ _ D.TOi1.symm e)) fun o e => to5 _ o D.l1TO D.l1i2 (c3.extBut _ _ D.l1TO e)
  have hb5 : Sb (kb + 1) m5 := Ib.keep _ _ _ hb4 (fun o e => c5.extBut _ _ D.TOi2.symm e) fun o e => c5.extBut _ _ D.l2TO e
  have zlt : zo < m5.objs.size := Heap.lt_size z5
  show wpAny _ _ (Builtin.SmallTypes.ownedTupleHandOut (.ref zo) (.ref m5.objs.size) >>= _) _ _ _; refine wpAny_bind ?_; unfold Builtin.SmallTypes.ownedTupleHandOut
  have z6 : IsZip (m5.push { cls := .type "tuple", data := .seq #[x, y] }) zo pi po .ellipsis := Heap.get?_push_of_some _ z5
  refine wpAny_bind (wpAny_setField_rec z6 (by simp) fun m7 z7 c7 => ?_)
  replace z7 : IsZip m7 zo pi po (rawInt m5.objs.size) := z7
  refine wpAny_setField_rec z7 (by simp) fun m8 z8 c8 => ?_
  replace z8 : IsZip m8 zo pi po (rawInt m5.objs.size) := z8
  have up : ∀ c o, c ≠ zo → m5.get? c = some o → m8.get? c = some o := fun c o n e => c8.extBut _ _ n (c7.extBut _ _ n (Heap.get?_push_of_some _ e))
  have t8 : IsPair m8 m5.objs.size x y := c8.extBut _ _ (Nat.ne_of_gt zlt) (c7.extBut _ _ (Nat.ne_of_gt zlt) (Heap.get?_push_size _ rfl))
  have s8 : m8.objs.size = m5.objs.size + 1 := by rw [c8.1, c7.1, Heap.size_push]
  rw [same] at z8 t8 s8
  refine wpAny_pure ⟨_, rfl, ?_⟩; show Q (.ref m5.objs.size) _; rw [same]
  exact good m8 z8 (up _ _ D.TOz q5) (Ia.keep _ _ _ ha5 (fun o e => up _ o D.i1z e) fun o e => up _ o D.l1z e) (Ib.keep _ _ _ hb5 (fun o e => up _ o D.i2z e) fun o e => up _ o D.l2z e) t8 s8 fun c o n1 n2 n3 n4 e => up c o n1 (to5 c o n2 n4 (to3 c o n1 n3 n2 e))
theorem zm_stop {Q : Fin → Shared → Prop} (hd : A.handled = none) (Ia : Itr P w ia la Sa ga) (Ib : Itr P w ib lb Sb gb) (D : ZipApart zo pi po ia ib la lb) (zz : IsZip sh.heap zo pi po .none) (pp : IsPair sh.heap pi (.ref ia) (.ref ib)) (qq : IsPair sh.heap po a0 b0)
    (ha : Sa ka sh.heap) (hb : Sb kb sh.heap) (over : ga ka = none ∨ gb kb = none)
    (good : ∀ h' e, (∀ c o, c ≠ zo → c ≠ po → c ≠ ia → c ≠ ib → sh.heap.get? c = some o → h'.get? c = some o) → (∃ o, h'.get? e = some o ∧ o.cls = .type "StopIteration") → E (.ref e) { sh with heap := h' }) : wpAny (model P w) A (Builtin.«zip.__next__» ⟨[.ref zo], []⟩) Q E sh := by
  show wpAny _ _ (field (.ref zo) 2 >>= _) _ _ _; refine wpAny_bind (wpAny_field zz rfl (x := .bool false) rfl ?_)
  show wpAny _ _ (field (.ref zo) 3 >>= _) _ _ _; refine wpAny_bind (wpAny_field zz rfl (x := .ref pi) rfl (wpAny_bind (wpAny_seqItems pp rfl ?_)))
  show wpAny _ _ (Builtin.SmallTypes.ownedTupleIsFree (.ref zo) >>= _) _ _ _; refine wpAny_bind ?_; unfold Builtin.SmallTypes.ownedTupleIsFree
  refine wpAny_bind (wpAny_field zz rfl (x := .none) rfl (wpAny_pure ?_)); simp only [if_true]; refine wpAny_bind (wpAny_rule (wpAny_bind (wpAny_field zz rfl (x := .ref po) rfl (wpAny_bind (wpAny_setField_rec zz (by simp) fun m1 z1 c1 => ?_)))))
  replace z1 : IsZip m1 zo pi po .ellipsis := z1
  refine wpAny_bind ?_; simp only [List.forIn_cons, List.forIn_nil, List.zipIdx_cons, List.zipIdx_nil]; refine wpAny_bind (wpAny_bind (wpAny_onRaise ?_)); show wpAny _ _ (Builtin.SmallTypes.nextOf (.ref ia) >>= _) _ _ _
  have ha1 : Sa ka m1 := Ia.keep _ _ _ ha (fun o e => c1.extBut _ _ D.i1z e) fun o e => c1.extBut _ _ D.l1z e
  cases ex : ga ka with
  | none =>
    refine wpAny_bind (Ia.stop _ _ _ _ _ hd ha1 ex fun m2 e c2 stops => ?_)
    obtain ⟨oe, goe, cle⟩ := stops
    have z2 : IsZip m2 zo pi po .ellipsis := c2 _ _ D.i1z.symm z1
    have other : e ≠ zo := fun q => by subst q; rw [z2] at goe; cases goe; simp at cle
    refine wpAny_setField_rec z2 (by simp) fun m3 _ c3 => good m3 e (fun c o n1 _ n3 _ q => c3.extBut _ _ n1 (c2 _ _ n3 (c1.extBut _ _ n1 q))) ⟨oe, c3.extBut _ _ other goe, cle⟩
  | some x =>
    have ey : gb kb = none := by
      rcases over with q | q
      · rw [ex] at q; cases q
      · exact q
    refine wpAny_bind (Ia.next _ _ _ _ _ _ ha1 ex fun m2 ha2 c2 => wpAny_pure ?_)
    have q2 : IsPair m2 po a0 b0 := c2.extBut _ _ D.TOi1 (c1.extBut _ _ D.TOz qq)
    refine wpAny_bind (wpAny_seqItems q2 rfl (wpAny_bind (wpAny_updateSeq_pair q2 fun m3 q3 c3 => ?_)))
    refine wpAny_bind (wpAny_letGo (wpAny_pure ?_)); refine wpAny_bind (wpAny_bind (wpAny_onRaise ?_)); show wpAny _ _ (Builtin.SmallTypes.nextOf (.ref ib) >>= _) _ _ _
    have to3 : ∀ c o, c ≠ zo → c ≠ ia → c ≠ po → sh.heap.get? c = some o → m3.get? c = some o := fun c o n1 n2 n3 e => c3.extBut _ _ n3 (c2.extBut _ _ n2 (c1.extBut _ _ n1 e))
    have hb3 : Sb kb m3 := Ib.keep _ _ _ hb (fun o e => to3 _ o D.i2z D.i12.symm D.TOi2.symm e) fun o e => to3 _ o D.l2z D.l2i1 D.l2TO e
    refine wpAny_bind (Ib.stop _ _ _ _ _ hd hb3 ey fun m4 e c4 stops => ?_)
    obtain ⟨oe, goe, cle⟩ := stops
    have z4 : IsZip m4 zo pi po .ellipsis := c4 _ _ D.i2z.symm (c3.extBut _ _ D.TOz.symm (c2.extBut _ _ D.i1z.symm z1))
    have other : e ≠ zo := fun q => by subst q; rw [z4] at goe; cases goe; simp at cle
    refine wpAny_setField_rec z4 (by simp) fun m5 _ c5 => good m5 e (fun c o n1 n2 n3 n4 q => c5.extBut _ _ n1 (c4 _ _ n4 (to3 c o n1 n3 n2 q))) ⟨oe, c5.extBut _ _ other goe, cle⟩
theorem zm_item {x y : Value} {Q : Option Value → Shared → Prop} (Ia : Itr P w ia la Sa ga) (Ib : Itr P w ib lb Sb gb) (D : ZipApart zo pi po ia ib la lb) (zz : IsZip sh.heap zo pi po .none) (pp : IsPair sh.heap pi (.ref ia) (.ref ib)) (qq : IsPair sh.heap po a0 b0)
    (ha : Sa ka sh.heap) (hb : Sb kb sh.heap) (ex : ga ka = some x) (ey : gb kb = some y)
    (good : ∀ h', IsZip h' zo pi po (rawInt sh.heap.objs.size) → IsPair h' po x y → Sa (ka + 1) h' → Sb (kb + 1) h' → IsPair h' sh.heap.objs.size x y → h'.objs.size = sh.heap.objs.size + 1 → (∀ c o, c ≠ zo → c ≠ po → c ≠ ia → c ≠ ib → sh.heap.get? c = some o → h'.get? c = some o) → Q (some (.ref sh.heap.objs.size)) { sh with heap := h' }) :
    wpAny (model P w) A (pyNext (.ref zo)) Q E sh := by
  have ty : sh.TypeIs (.ref zo) "zip" := ⟨_, zz, rfl⟩
  unfold pyNext; exact wpAny_bind (wpAny_attempt (wpAny_callSpecial?_slot (name := Str.ofString "__next__") ty F.slot_zip_next (wpAny_call_entry F.slot_zip_next ty F.entry_zip_next (zm_next Ia Ib D zz pp qq ha hb ex ey fun h' r1 r2 r3 r4 r5 r6 r7 => wpAny_pure (good h' r1 r2 r3 r4 r5 r6 r7)) (F.args_zip_next_1 _))))
theorem zm_end {Q : Option Value → Shared → Prop} (hd : A.handled = none) (Ia : Itr P w ia la Sa ga) (Ib : Itr P w ib lb Sb gb) (D : ZipApart zo pi po ia ib la lb) (zz : IsZip sh.heap zo pi po .none) (pp : IsPair sh.heap pi (.ref ia) (.ref ib)) (qq : IsPair sh.heap po a0 b0)
    (ha : Sa ka sh.heap) (hb : Sb kb sh.heap) (over : ga ka = none ∨ gb kb = none) (good : ∀ h', (∀ c o, c ≠ zo → c ≠ po → c ≠ ia → c ≠ ib → sh.heap.get? c = some o → h'.get? c = some o) → Q none { sh with heap := h' }) : wpAny (model P w) A (pyNext (.ref zo)) Q E sh := by
  have ty : sh.TypeIs (.ref zo) "zip" := ⟨_, zz, rfl⟩
  unfold pyNext; refine wpAny_bind (wpAny_attempt (wpAny_callSpecial?_slot (name := Str.ofString "__next__") ty F.slot_zip_next (wpAny_call_entry F.slot_zip_next ty F.entry_zip_next (zm_stop hd Ia Ib D zz pp qq ha hb over fun h' e kept stops => ?_) (F.args_zip_next_1 _))))
  obtain ⟨oe, goe, cle⟩ := stops
  exact wpAny_bind (wpAny_isInstance (T := "StopIteration") (b := true) ⟨oe, goe, cle⟩ isSubtype_stop (wpAny_pure (good _ kept)))
end
end PK
namespace PK
open PySem PySem.Spec PyProof.Rows L2 RZ
/-- a list and a tuple, turn by turn, the items in new pairs -/
def ItM (K : PySem.W.Frag) (la lb : Addr) : It :=
  ⟨fun k hp => ∃ (xs ys : List V) (x y : V), SqL K hp la xs ∧ SqT K hp lb ys ∧ xs[k]? = some x ∧ ys[k]? = some y,
    fun k hp v hq => ∃ T x y, v = .ref T ∧ hp T = none ∧ hq = upd hp T (.tup [x, y]) ∧ (∀ xs, SqL K hp la xs → xs[k]? = some x) ∧ ∀ ys, SqT K hp lb ys → ys[k]? = some y,
    fun k hp => ∃ xs ys : List V, SqL K hp la xs ∧ SqT K hp lb ys ∧ (xs.length ≤ k ∨ ys.length ≤ k)⟩
def TnM (zo pi po ia ib la lb : Addr) (k : Nat) (h : Heap) : Prop := IsZip h zo pi po .none ∧ IsPair h pi (.ref ia) (.ref ib) ∧ (∃ x y, IsPair h po x y) ∧ h.IsListIter ia la k ∧ h.IsTupleIter ib lb k
theorem fiveM {zo pi po ia ib c : Addr} (h : c ∈ [zo, pi, po, ia, ib]) : c = zo ∨ c = pi ∨ c = po ∨ c = ia ∨ c = ib := by simpa using h
theorem TnM.here {zo pi po ia ib la lb : Addr} {k : Nat} {h : Heap} (t : TnM zo pi po ia ib la lb k h) : ∀ c ∈ [zo, pi, po, ia, ib], ∃ o, h.get? c = some o ∧ ∀ v, o.data ≠ .cell v := by
  obtain ⟨t1, t2, ⟨x, y, t3⟩, ⟨o1, t4, _, d1⟩, o2, t5, _, d2⟩ := t
  intro c hc
  rcases fiveM hc with q | q | q | q | q <;> rw [q]
  · exact ⟨_, t1, fun v e => nomatch e⟩
  · exact ⟨_, t2, fun v e => nomatch e⟩
  · exact ⟨_, t3, fun v e => nomatch e⟩
  · exact ⟨o1, t4, fun v e => by rw [d1] at e; cases e⟩
  · exact ⟨o2, t5, fun v e => by rw [d2] at e; cases e⟩
theorem turnM {P : Program} {w : World} {K : PySem.W.Frag} {elts : List Expr} {kk : Nat} {tpos : Pos} {zo pi po ia ib la lb : Addr} (D : ZipApart zo pi po ia ib la lb) : Turn P w K (.Tuple elts kk tpos) (ItM K la lb) [zo, pi, po, ia, ib] zo (TnM zo pi po ia ib la lb) where
  mem := List.mem_cons_self
  obj := fun k h t => t.here
  keep := fun k h h' t kept => by
    obtain ⟨t1, t2, ⟨x, y, t3⟩, ⟨o1, t4, r4⟩, o2, t5, r5⟩ := t
    exact ⟨kept zo (by simp) _ t1, kept pi (by simp) _ t2, ⟨x, y, kept po (by simp) _ t3⟩, ⟨o1, kept ia (by simp) o1 t4, r4⟩, o2, kept ib (by simp) o2 t5, r5⟩
  item := by
    rintro X rfl rfl rfl calm k pins sh σ hp E inv fps t ⟨xs, ys, x, y, q1, q2, g1, g2⟩
    have here := t.here
    obtain ⟨t1, t2, ⟨x0, y0, t3⟩, t4, t5⟩ := t
    obtain ⟨us, r1, p1, _⟩ := inv.list q1
    obtain ⟨vs, r2, p2, _⟩ := inv.tuple q2
    obtain ⟨u, gu, ru⟩ := r1.get g1
    obtain ⟨v, gv, rv⟩ := r2.get g2
    have low : zo < sh.heap.objs.size := Heap.lt_size t1
    refine zm_item (itr_list (its := us.toArray) D.l1i1) (itr_tup (its := vs.toArray) D.l2i2) D t1 t2 t3 ⟨t4, p1.isList⟩ ⟨t5, p2⟩ (x := u) (y := v) (by simpa using gu) (by simpa using gv) fun h' n1 n2 n3 n4 n5 n6 n7 => ⟨_, rfl, wpAny_letOwnedTupleGo_zip (s := { sh with heap := h' }) n1 fun h2 n8 sb => ?_⟩
    have up : ∀ c o, c ≠ zo → c ≠ po → c ≠ ia → c ≠ ib → sh.heap.get? c = some o → h2.get? c = some o := fun c o a1 a2 a3 a4 e => (sb.2 _ a1).trans (n7 c o a1 a2 a3 a4 e)
    have pair : h2.get? sh.heap.objs.size = some { cls := .type "tuple", data := .seq #[u, v] } := (sb.2 _ (Nat.ne_of_gt low)).trans n5
    have made : ObjOk X.prog X.w (upd hp sh.heap.objs.size (.tup [x, y])) h2 sh.heap.objs.size (.tup [x, y]) := ⟨by show 2 ≤ sizeLine; decide, [u, v], .cons ru (.cons rv .nil), ⟨_, pair, rfl, _, rfl⟩⟩
    have inv2 : Inv X pins σ (upd hp sh.heap.objs.size (.tup [x, y])) { sh with heap := h2 } := inv.turnedNew (t' := sh.toks) (ch := [zo, pi, po, ia, ib]) (fun c o out e => up c o (fun a => out (by simp [a])) (fun a => out (by simp [a])) (fun a => out (by simp [a])) (fun a => out (by simp [a])) e) fps (Nat.le_refl _) made
    refine ⟨.ref sh.heap.objs.size, _, inv2, rfl, ⟨_, x, y, rfl, inv.hok.fresh (Nat.le_refl _), rfl, fun l hl => by rw [inv.list_inj hl q1]; exact g1, fun l hl => by rw [inv.tuple_inj hl q2]; exact g2⟩, ⟨n8, up _ _ D.TIz D.TITO D.TIi1 D.TIi2 t2, ⟨u, v, (sb.2 _ D.TOz).trans n2⟩, ?_, ?_⟩, fun c hc => ?_⟩
    · obtain ⟨⟨o1, e1, m1⟩, _⟩ := n3
      exact ⟨o1, (sb.2 _ D.i1z).trans e1, m1⟩
    · obtain ⟨⟨o2, e2, m2⟩, _⟩ := n4
      exact ⟨o2, (sb.2 _ D.i2z).trans e2, m2⟩
    · obtain ⟨o, e, _⟩ := here c hc
      rw [upd_ne (Nat.ne_of_lt (Heap.lt_size e))]
      exact (fps c hc).1
  done := by
    rintro X rfl rfl rfl calm k pins sh σ hp E inv fps ⟨t1, t2, ⟨x0, y0, t3⟩, t4, t5⟩ ⟨xs, ys, q1, q2, over⟩
    obtain ⟨us, r1, p1, _⟩ := inv.list q1
    obtain ⟨vs, r2, p2, _⟩ := inv.tuple q2
    have n1 := r1.length
    have n2 := r2.length
    have out : us.toArray[k]? = none ∨ vs.toArray[k]? = none := by
      rcases over with a | a
      · exact .inl (by simp; omega)
      · exact .inr (by simp; omega)
    exact zm_end (inv.ok.hd calm) (itr_list (its := us.toArray) D.l1i1) (itr_tup (its := vs.toArray) D.l2i2) D t1 t2 t3 ⟨t4, p1.isList⟩ ⟨t5, p2⟩ out fun h' kept => ⟨rfl, inv.turnedL (t' := sh.toks) (ch := [zo, pi, po, ia, ib]) (fun c o no e => kept c o (fun a => no (by simp [a])) (fun a => no (by simp [a])) (fun a => no (by simp [a])) (fun a => no (by simp [a])) e) fps⟩
  self := fun A k sh Q E t good => wpAny_pyIter_zip t.1 good
/-! zip(xs, ys) is called -/
abbrev hM1 (h : Heap) (la : Addr) : Heap := h.push { cls := .type "list_iterator", data := .fields #[.ref la, .int 0 0] }
abbrev hM2 (h : Heap) (la lb : Addr) : Heap := (hM1 h la).push { cls := .type "tuple_iterator", data := .fields #[.ref lb, .int 0 0] }
abbrev hM3 (h : Heap) (la lb : Addr) : Heap := (hM2 h la lb).push { cls := .type "tuple", data := .seq #[.ref h.objs.size, .ref (hM1 h la).objs.size] }
abbrev hM4 (h : Heap) (la lb : Addr) : Heap := (hM3 h la lb).push { cls := .type "tuple", data := .seq #[.none, .none] }
abbrev hM5 (h : Heap) (la lb : Addr) : Heap := (hM4 h la lb).push { cls := .type "zip", data := .fields #[.none, .bool false, .bool false, .ref (hM2 h la lb).objs.size, .ref (hM3 h la lb).objs.size] }
theorem meetsM (la lb : Addr) (xs ys : Array Value) : Meets (Builtin.«zip.__new__» ⟨[.type "zip", .ref la, .ref lb], []⟩) (fun _ R sh => sh.heap.IsList la xs ∧ sh.heap.IsTuple lb ys ∧ R (.ok (.ret (.ref (hM4 sh.heap la lb).objs.size))) { sh with heap := hM5 sh.heap la lb }) :=
  .of_wp fun prog w A R sh h => by
    obtain ⟨m, g, d, tk, os⟩ := sh; obtain ⟨ia, ib, h⟩ := h
    have sub := sub_zip
    have fst : Heap.IsList (Shared.heap ⟨m, g, d, tk, os⟩) la xs := ia
    have snd : Heap.IsTuple (Shared.heap ⟨m.push { cls := .type "list_iterator", data := .fields #[.ref la, .int 0 0] }, g, d, tk, os⟩) lb ys := Heap.IsTuple.push ib _
    wp_walk using wpAny_pyIter_list fst, wpAny_pyIter_tuple snd
    exact ⟨_, rfl, h⟩
section
variable {P : Program} {w : World} {A : Around} {E : Value → Shared → Prop} {sh : Shared}
theorem callM {la lb : Addr} {xs ys : Array Value} {Q : Value → Shared → Prop} (fst : sh.heap.IsList la xs) (snd : sh.heap.IsTuple lb ys)
    (good : ∀ h', TnM (sh.heap.objs.size + 4) (sh.heap.objs.size + 2) (sh.heap.objs.size + 3) sh.heap.objs.size (sh.heap.objs.size + 1) la lb 0 h' → (∀ c o, sh.heap.get? c = some o → h'.get? c = some o) → Q (.ref (sh.heap.objs.size + 4)) { sh with heap := h' }) :
    wpAny (model P w) A (call (.type "zip") [.ref la, .ref lb]) Q E sh := by
  refine callType_new F.called_zip (by decide) (F.typeCall_zip_2 _ _) (F.newCall_zip_2 _ _) (fun ob => F.args_object_init_3 ob _ _) F.entry_zip_new (meetsM la lb xs ys) ⟨fst, snd, ?_⟩
  have n1 : (hM1 sh.heap la).objs.size = sh.heap.objs.size + 1 := Heap.size_push ..
  have n2 : (hM2 sh.heap la lb).objs.size = sh.heap.objs.size + 2 := by rw [Heap.size_push, n1]
  have n3 : (hM3 sh.heap la lb).objs.size = sh.heap.objs.size + 3 := by rw [Heap.size_push, n2]
  have n4 : (hM4 sh.heap la lb).objs.size = sh.heap.objs.size + 4 := by rw [Heap.size_push, n3]
  have up2 : ∀ c o, (hM3 sh.heap la lb).get? c = some o → (hM5 sh.heap la lb).get? c = some o := fun c o e => Heap.get?_push_of_some _ (Heap.get?_push_of_some _ e)
  have w5 : (hM5 sh.heap la lb).get? (hM4 sh.heap la lb).objs.size = some _ := Heap.get?_push_size _ rfl
  have w4 : (hM5 sh.heap la lb).get? (hM3 sh.heap la lb).objs.size = some _ := Heap.get?_push_of_some _ (Heap.get?_push_size _ rfl)
  have w3 : (hM5 sh.heap la lb).get? (hM2 sh.heap la lb).objs.size = some _ := up2 _ _ (Heap.get?_push_size _ rfl)
  have w2 : (hM5 sh.heap la lb).get? (hM1 sh.heap la).objs.size = some _ := up2 _ _ (Heap.get?_push_of_some _ (Heap.get?_push_size _ rfl))
  have w1 : (hM5 sh.heap la lb).get? sh.heap.objs.size = some _ := up2 _ _ (Heap.get?_push_of_some _ (Heap.get?_push_of_some _ (Heap.get?_push_size _ rfl)))
  rw [n2, n3, n4] at w5
  rw [n1, n2] at w3
  rw [n3] at w4
  rw [n1] at w2
  show _ ∧ _
  rw [n4]
  exact ⟨⟨_, w5, rfl⟩, good _ ⟨w5, w3, ⟨_, _, w4⟩, ⟨_, w1, rfl, rfl⟩, _, w2, rfl, rfl⟩ fun c o e => up2 c o (Heap.get?_push_of_some _ (Heap.get?_push_of_some _ (Heap.get?_push_of_some _ e)))⟩
end
theorem walkM {K : PySem.W.Frag} {la lb : Addr} {xs ys : List V} {n : Nat} (hn : n = min xs.length ys.length) : Walk (ItM K la lb) n (fun hp => SqL K hp la xs ∧ SqT K hp lb ys) (YPair (fun k => xs[k]?) (fun k => ys[k]?)) := by
  subst hn
  refine ⟨fun k _ hk q => ?_, fun _ q => ⟨xs, ys, q.1, q.2, by omega⟩, fun k hp v hq _ q y => ?_⟩
  · have a1 : k < xs.length := by omega
    have a2 : k < ys.length := by omega
    exact ⟨xs, ys, xs[k], ys[k], q.1, q.2, by simp [a1], by simp [a2]⟩
  · obtain ⟨T, x, z, b1, b2, b3, b4, b5⟩ := y
    exact ⟨T, x, z, b1, b2, b3, b4 xs q.1, b5 ys q.2⟩
end PK
namespace PK
open PySem PySem.Spec PyProof.Rows L2 RZ
/-! ### zip of two lists, of two tuples, of a list and a tuple -/
def iZipX (K : PySem.W.Frag) (ta : TA) : TI := fun σ hp R => ta σ hp fun vs hq => ∃ la lb xs ys, vs = [.ref la, .ref lb] ∧ ((SqL K hq la xs ∧ SqL K hq lb ys ∧ R (Itz K la lb) hq) ∨ (SqT K hq la xs ∧ SqT K hq lb ys ∧ R (ItzT K la lb) hq) ∨ (SqL K hq la xs ∧ SqT K hq lb ys ∧ R (ItM K la lb) hq))
theorem pi_zipX {X : Cx} {e e2 : Expr} {ta : TA} {p pos tpos : Pos} {elts : List Expr} {kk : Nat} (hg : Gl X "zip") (hm : X.mg "zip" = none) (ha : PA X [e, e2] ta)
    (hs : starEach [e, e2] X.env = (false, eval e X.env) :: starEach [e2] X.env := by rfl) (hpl : (backTo pos (starEach [e2] X.env)).any (·.1) = false := by rfl) : PI X (.Tuple elts kk tpos) (.Call (.Name "zip" p) [e, e2] [] pos) (iZipX X.K ta) :=
  ⟨fun pins sh σ hp R inv asks => Call_ (ld_blt inv hg hm PyProof.Rows.boot_zip (PyProof.Rows.callWith_type1 (thn (ha.run pos pins sh σ hp _ inv asks) fun us s1 got => by
    obtain ⟨vs, hq, inv1, rel, la, lb, xs, ys, rfl, ways⟩ := got
    match us, rel with
    | [_, _], .cons ra (.cons rb .nil) =>
      cases ra
      cases rb
      have far : ∀ c ∈ [s1.heap.objs.size + 4, s1.heap.objs.size + 2, s1.heap.objs.size + 3, s1.heap.objs.size, s1.heap.objs.size + 1], FpOk X pins hq c := fun c hc => by
        have low : s1.heap.objs.size ≤ c := by
          rcases fiveM hc with a | a | a | a | a <;> rw [a] <;> first | exact Nat.le_refl _ | exact Nat.le_add_right _ _
        exact inv1.fpOk low (inv1.hok.fresh low)
      rcases ways with ⟨q1, q2, goes⟩ | ⟨q1, q2, goes⟩ | ⟨q1, q2, goes⟩
      · obtain ⟨us, r1, p1, _⟩ := inv1.list q1
        obtain ⟨ws, r2, p2, _⟩ := inv1.list q2
        exact call_zip_2 p1.isList p2.isList fun h' t1 t2 t3 t4 t5 _ kept => wpAny_pyIter_zip t1 ⟨s1.heap.objs.size + 4, _, _, _, hq, rfl, inv1.kept (t' := s1.toks) kept, turn_zip (PySem.W.ktu_apart s1.heap.objs.size la lb p1.lt p2.lt), ⟨t1, t2, ⟨_, _, t3⟩, t4, t5⟩, far, goes⟩
      · obtain ⟨us, r1, p1, _⟩ := inv1.tuple q1
        obtain ⟨ws, r2, p2, _⟩ := inv1.tuple q2
        obtain ⟨o1, got1, _⟩ := id p1
        obtain ⟨o2, got2, _⟩ := id p2
        exact call_zipT (show s1.heap.IsTuple la us.toArray from p1) (show s1.heap.IsTuple lb ws.toArray from p2) fun h' t1 t2 t3 t4 t5 _ kept => wpAny_pyIter_zip t1 ⟨s1.heap.objs.size + 4, _, _, _, hq, rfl, inv1.kept (t' := s1.toks) kept, turn_zipT (PySem.W.ktu_apart s1.heap.objs.size la lb (Heap.lt_size got1) (Heap.lt_size got2)), ⟨t1, t2, ⟨_, _, t3⟩, t4, t5⟩, far, goes⟩
      · obtain ⟨us, r1, p1, _⟩ := inv1.list q1
        obtain ⟨ws, r2, p2, _⟩ := inv1.tuple q2
        obtain ⟨o2, got2, _⟩ := id p2
        exact callM p1.isList (show s1.heap.IsTuple lb ws.toArray from p2) fun h' t kept => wpAny_pyIter_zip t.1 ⟨s1.heap.objs.size + 4, _, _, _, hq, rfl, inv1.kept (t' := s1.toks) kept, turnM (PySem.W.ktu_apart s1.heap.objs.size la lb p1.lt (Heap.lt_size got2)), t, far, goes⟩) hs hpl))⟩
def iZipXD (f g : EF) : IF := fun δ => (f δ).bind fun p => (g p.2).bind fun q => match p.1, q.1 with
  | .fz (.tup xs), .fz (.tup ys) => some (zipD xs ys, [], q.2)
  | a, .fz (.tup ys) => (srcOf q.2 a).map fun z => (zipD z.1 ys, z.2, q.2)
  | a, b => match srcOf q.2 a, srcOf q.2 b with
    | some (xs, c), some (ys, d) => some (zipD xs ys, c ++ d, q.2)
    | _, _ => none
theorem pdi_zipX {X : Cx} {e e2 : Expr} {f g : EF} {p pos tpos : Pos} {elts : List Expr} {kk : Nat} (hg : Gl X "zip") (hm : X.mg "zip" = none) (ha : PD X e f) (hb : PD X e2 g)
    (hs : starEach [e, e2] X.env = (false, eval e X.env) :: starEach [e2] X.env := by rfl) (hs2 : starEach [e2] X.env = (false, eval e2 X.env) :: starEach [] X.env := by rfl) (hpl : (backTo pos (starEach [e2] X.env)).any (·.1) = false := by rfl) :
    PDI X (.Tuple elts kk tpos) (.Call (.Name "zip" p) [e, e2] [] pos) (iZipXD f g) := PI.weak (pi_zipX hg hm (pa_cons ha (pa_cons hb pa_nil hs2) hs) hs hpl) fun σ H R h => by
  obtain ⟨B, F, ad, δ, it, ck, δ', S, e, hck, k⟩ := h
  unfold iZipXD at e
  obtain ⟨⟨r, δ1⟩, e1, e⟩ := Option.bind_eq_some_iff.mp e
  obtain ⟨⟨q, δ2⟩, e2, e⟩ := Option.bind_eq_some_iff.mp e
  refine ⟨B, F, ad, δ, r, δ1, S, e1, fun B1 ad1 v H1 s1 p1 S1 r1 => ?_⟩
  refine ⟨B1, F, ad1, δ1, q, δ2, S1, e2, fun B2 ad2 w H2 s2 p2 S2 r2 => ?_⟩
  have r1' := r1.mono s2 p2
  simp only at e
  split at e
  · rename_i xs ys
    cases e
    obtain ⟨a, as, h1, h2, h3⟩ := r1'
    obtain ⟨b, bs, g1, g2, g3⟩ := r2
    subst h1 g1
    refine ⟨a, b, as, bs, rfl, .inr (.inl ⟨SqT.of (S2.exB _ _ h2), SqT.of (S2.exB _ _ g2), ?_⟩)⟩
    refine k B2 ad2 H2 (RZ.ItzT X.K a b) (fun H => SqT X.K H a as ∧ SqT X.K H b bs) _ (s1.trans s2) (p1.trans p2) S2 (walk_zipT (by rw [zipD_len, Rps.length h3, Rps.length g3])) ?_ ?_
    · intro B3 F3 ad3 σ3 δ3 H3 s3 p3 S3 c
      exact ⟨SqT.of (S3.exB _ _ (s3 _ _ h2)), SqT.of (S3.exB _ _ (s3 _ _ g2))⟩
    · rintro i x B3 F3 ad3 σ3 δ3 H3 H4 s3 p3 S3 c hi ⟨T, y, z, rfl, hT, rfl, hy, hz⟩
      obtain ⟨d, d1, d2⟩ := Rps.back h3 hy
      obtain ⟨d', d3, d4⟩ := Rps.back g3 hz
      obtain ⟨B4, s4, S4, r4⟩ := pair_new S3 hT (Rp.mono s3 _ _ d2) (Rp.mono s3 _ _ d4)
      exact ⟨B4, s4, S4, _, zipD_get d1 d3, r4⟩
  · rename_i r0 ys hne
    obtain ⟨⟨xs, c⟩, e3, e4⟩ := Option.map_eq_some_iff.mp e
    cases e4
    obtain ⟨a, as, h1, h2, h3, h4, h5⟩ := src_at S2 r1' e3
    obtain ⟨b, bs, g1, g2, g3⟩ := r2
    subst h1 g1
    refine ⟨a, b, as, bs, rfl, .inr (.inr ⟨SqL.of h2, SqT.of (S2.exB _ _ g2), ?_⟩)⟩
    refine k B2 ad2 H2 (ItM X.K a b) (fun H => ∃ as, as.length = xs.length ∧ H a = some (.lst as) ∧ SqT X.K H b bs) (fun i H v H' => ∃ as, as.length = xs.length ∧ (H a = some (.lst as) ∧ SqT X.K H b bs) ∧ YPair (fun i => as[i]?) (fun i => bs[i]?) i H v H') (s1.trans s2) (p1.trans p2) S2 ?_ ?_ ?_
    · have hw : ∀ as : List V, as.length = xs.length → Walk (ItM X.K a b) (zipD xs ys).length (fun H => H a = some (.lst as) ∧ SqT X.K H b bs) (YPair (fun i => as[i]?) (fun i => bs[i]?)) := fun as hl =>
        (walkM (K := X.K) (la := a) (lb := b) (xs := as) (ys := bs) (by rw [zipD_len, hl, Rps.length g3])).mono (fun H q => ⟨SqL.of q.1, q.2⟩) fun _ _ _ _ _ _ y => y
      exact ⟨fun i H hi ⟨as, hl, q⟩ => (hw as hl).goes i H hi q, fun H ⟨as, hl, q⟩ => (hw as hl).stops H q, fun i H x H' hi ⟨as, hl, q⟩ y => ⟨as, hl, q, (hw as hl).yields i H x H' hi q y⟩⟩
    · intro B3 F3 ad3 σ3 δ3 H3 s3 p3 S3 cc
      obtain ⟨as', q1, q2⟩ := h5 B3 F3 ad3 σ3 δ3 H3 s3 p3 S3 cc
      exact ⟨as', Rps.length q2, q1, SqT.of (S3.exB _ _ (s3 _ _ g2))⟩
    · rintro i x B3 F3 ad3 σ3 δ3 H3 H4 s3 p3 S3 cc hi ⟨as1, hl, ⟨w1, w2⟩, T, y, z, rfl, hT, rfl, hy, hz⟩
      obtain ⟨as', q1, q2⟩ := h5 B3 F3 ad3 σ3 δ3 H3 s3 p3 S3 cc
      rw [q1] at w1
      cases w1
      obtain ⟨d, d1, d2⟩ := Rps.back q2 hy
      obtain ⟨d', d3, d4⟩ := Rps.back g3 hz
      obtain ⟨B4, s4, S4, r4⟩ := pair_new S3 hT d2 (Rp.mono s3 _ _ d4)
      exact ⟨B4, s4, S4, _, zipD_get d1 d3, r4⟩
  · split at e
    · rename_i xs c ys d e3 e4
      cases e
      obtain ⟨a, as, h1, h2, h3, h4, h5⟩ := src_at S2 r1' e3
      obtain ⟨b, bs, g1, g2, g3, g4, g5⟩ := src_at S2 r2 e4
      subst h1 g1
      refine ⟨a, b, as, bs, rfl, .inl ⟨SqL.of h2, SqL.of g2, ?_⟩⟩
      refine k B2 ad2 H2 (Itz X.K a b) (fun H => ∃ as bs, (as.length = xs.length ∧ bs.length = ys.length) ∧ H a = some (.lst as) ∧ H b = some (.lst bs)) (fun i H v H' => ∃ as bs, (as.length = xs.length ∧ bs.length = ys.length) ∧ (H a = some (.lst as) ∧ H b = some (.lst bs)) ∧ YPair (fun i => as[i]?) (fun i => bs[i]?) i H v H') (s1.trans s2) (p1.trans p2) S2 ?_ ?_ ?_
      · have hw : ∀ as bs : List V, as.length = xs.length ∧ bs.length = ys.length → Walk (Itz X.K a b) (zipD xs ys).length (fun H => H a = some (.lst as) ∧ H b = some (.lst bs)) (YPair (fun i => as[i]?) (fun i => bs[i]?)) := fun as bs hl =>
          (walk_zip (K := X.K) (a := a) (b := b) (xs := as) (ys := bs) (by rw [zipD_len, hl.1, hl.2])).mono (fun H q => ⟨SqL.of q.1, SqL.of q.2⟩) fun _ _ _ _ _ _ y => y
        exact ⟨fun i H hi ⟨as, bs, hl, q⟩ => (hw as bs hl).goes i H hi q, fun H ⟨as, bs, hl, q⟩ => (hw as bs hl).stops H q, fun i H x H' hi ⟨as, bs, hl, q⟩ y => ⟨as, bs, hl, q, (hw as bs hl).yields i H x H' hi q y⟩⟩
      · intro B3 F3 ad3 σ3 δ3 H3 s3 p3 S3 cc
        obtain ⟨as', q1, q2⟩ := h5 B3 F3 ad3 σ3 δ3 H3 s3 p3 S3 (ck_app cc).1
        obtain ⟨bs', q3, q4⟩ := g5 B3 F3 ad3 σ3 δ3 H3 s3 p3 S3 (ck_app cc).2
        exact ⟨as', bs', ⟨Rps.length q2, Rps.length q4⟩, q1, q3⟩
      · rintro i x B3 F3 ad3 σ3 δ3 H3 H4 s3 p3 S3 cc hi ⟨as1, bs1, hl, ⟨w1, w2⟩, T, y, z, rfl, hT, rfl, hy, hz⟩
        obtain ⟨as', q1, q2⟩ := h5 B3 F3 ad3 σ3 δ3 H3 s3 p3 S3 (ck_app cc).1
        obtain ⟨bs', q3, q4⟩ := g5 B3 F3 ad3 σ3 δ3 H3 s3 p3 S3 (ck_app cc).2
        rw [q1] at w1
        rw [q3] at w2
        cases w1; cases w2
        obtain ⟨d, d1, d2⟩ := Rps.back q2 hy
        obtain ⟨d', d3, d4⟩ := Rps.back q4 hz
        obtain ⟨B4, s4, S4, r4⟩ := pair_new S3 hT d2 d4
        exact ⟨B4, s4, S4, _, zipD_get d1 d3, r4⟩
    · cases e
end PK
namespace PK
open PySem L2 PySem.Spec PyProof.Rows
/-! ### the floor by a divisor of either sign -/
def divF : OF := fun δ x y => match x, y with
  | .int i, .int j => if j ≠ 0 ∧ j.natAbs.log2 < 9000 then some (.fz (.int (i.fdiv j)), δ) else none
  | _, _ => none
def wideF (_ j : Int) : Prop := j ≠ 0 ∧ j.natAbs.log2 < 9000
theorem op_divF {X : Cx} : OpR X (binaryOp .FloorDiv) (rI wideF fun i j => .int (i.fdiv j)) := opI fun i j _ _ _ _ _ hc q => floordiv_int hc.1 q (.inl (PyProof.noPylong_of_log2 hc.2))
theorem od_divF {X : Cx} : OpR X (binaryOp .FloorDiv) (rD X.K X.mg divF) := by
  intro pins s σ H x y v u Q I rx ry h
  obtain ⟨B, F, ad, σ', δ, dx, dy, r, δ', S, vx, vy, e, k⟩ := h
  unfold divF at e
  split at e
  · rename_i i j
    split at e
    · rename_i hm
      cases e
      exact op_divF pins s σ H x y v u Q I rx ry ⟨i, j, vx, vy, hm, here (d := .int (i.fdiv j)) S rfl k⟩
    · cases e
  · cases e
end PK
namespace PK
open PySem L2 PySem.Spec PyProof.Rows
/-! ### names from a list -/
def hUnl (n : Nat) (g : HsF) : HF := fun d δ => match d with
  | .lst ds => if ds.length = n then g ds δ else none
  | _ => none
section
variable {X : Cx} {es : List Expr} {pos : Pos} {g : HsF}
theorem pgd_unl {k n : Nat} (hc : X.calm = true) (hg : PGs X es (gDs X.K X.mg g)) (hn : (assignEach es X.env).length = n := by rfl) (hst : (assignEach es X.env).findIdx? (·.1) = none := by rfl) : PG X (.Tuple es k pos) (gD X.K X.mg (hUnl n g)) :=
  PG.weak (pg_unl hc hg hn hst) fun v σ H Q h => by
  obtain ⟨B, F, ad, δ, d, δ', S, r, e, k⟩ := h
  cases d with
  | lst ds =>
    have e' : (if ds.length = n then g ds δ else none) = some δ' := e
    split at e'
    · rename_i hl
      obtain ⟨a, xs, rfl, h2, h3⟩ := r
      exact ⟨a, xs, rfl, SqL.of (S.exB _ _ h2), by rw [Rps.length h3]; exact hl, B, F, ad, δ, ds, δ', S, h3, e', k⟩
    · cases e'
  | _ => cases e
end
end PK
namespace PK
open PySem L2 PySem.Spec PyProof.Rows
/-! ### defs called with names, in any order -/
def pick {α : Type} (ix : List Nat) (xs : List α) : List α := ix.filterMap fun i => xs[i]?
theorem vals_get : ∀ {vs : List V} {us : List Value} (i : Nat), Vals vs us → (∃ v u, vs[i]? = some v ∧ us[i]? = some u ∧ RelV v u) ∨ (vs[i]? = none ∧ us[i]? = none) := fun {vs us} i r => by
  cases e : vs[i]? with
  | none => exact .inr ⟨rfl, r.none_of e⟩
  | some v =>
    obtain ⟨u, hu, ru⟩ := r.get e
    exact .inl ⟨v, u, rfl, hu, ru⟩
theorem pick_vals {vs : List V} {us : List Value} (r : Vals vs us) : ∀ ix : List Nat, Vals (pick ix vs) (pick ix us)
  | [] => .nil
  | i :: ix => by
    unfold pick
    rcases vals_get i r with ⟨v, u, e1, e2, ru⟩ | ⟨e1, e2⟩
    · rw [List.filterMap_cons_some e1, List.filterMap_cons_some e2]
      exact .cons ru (pick_vals r ix)
    · rw [List.filterMap_cons_none e1, List.filterMap_cons_none e2]
      exact pick_vals r ix
section
variable {K : PySem.W.Frag} {mg : Str → Option Value} {B : Hp} {ad : List Addr}
theorem rpvs_get : ∀ {rs : List Vl} {vs : List V} (i : Nat), RpVs K mg B ad rs vs → (∃ r v, rs[i]? = some r ∧ vs[i]? = some v ∧ RpV K mg B ad r v) ∨ (rs[i]? = none ∧ vs[i]? = none)
  | [], vs, i, h => by
    have h' : vs = [] := h
    subst h'
    exact .inr ⟨by simp, by simp⟩
  | r :: rs, vs, i, h => by
    obtain ⟨v, ws, rfl, h2, h3⟩ := h
    cases i with
    | zero => exact .inl ⟨r, v, rfl, rfl, h2⟩
    | succ i => simpa using rpvs_get i h3
theorem pick_rpvs {rs : List Vl} {vs : List V} (h : RpVs K mg B ad rs vs) : ∀ ix : List Nat, RpVs K mg B ad (pick ix rs) (pick ix vs)
  | [] => rfl
  | i :: ix => by
    unfold pick
    rcases rpvs_get i h with ⟨r, v, e1, e2, h2⟩ | ⟨e1, e2⟩
    · rw [List.filterMap_cons_some e1, List.filterMap_cons_some e2]
      exact ⟨v, _, rfl, h2, pick_rpvs h ix⟩
    · rw [List.filterMap_cons_none e1, List.filterMap_cons_none e2]
      exact pick_rpvs h ix
end
abbrev pk2 {α : Type} (ix : List Nat) : List α → List α → List α := fun us ws => pick ix (us ++ ws)
/-! ### an item of a displayed dict of written texts -/
section
variable {X : Cx} {pos : Pos}
inductive RKv (K : PySem.W.Frag) (mg : Str → Option Value) (B : Hp) : List (Str × D) → List (Key × V) → Prop
  | nil : RKv K mg B [] []
  | cons {x : Str} {d : D} {v : V} {r : List (Str × D)} {s : List (Key × V)} (h : Rp K mg B d v) (t : RKv K mg B r s) : RKv K mg B ((x, d) :: r) ((.inr x, v) :: s)
theorem RKv.mono {K : PySem.W.Frag} {mg : Str → Option Value} {B B' : Hp} (e : Same B B') {r : List (Str × D)} {s : List (Key × V)} (h : RKv K mg B r s) : RKv K mg B' r s := by
  induction h with
  | nil => exact .nil
  | cons h t ih => exact .cons (Rp.mono e _ _ h) ih
theorem RKv.length {K : PySem.W.Frag} {mg : Str → Option Value} {B : Hp} {r : List (Str × D)} {s : List (Key × V)} (h : RKv K mg B r s) : s.length = r.length := by
  induction h with
  | nil => rfl
  | cons h t ih => rw [List.length_cons, List.length_cons, ih]
theorem RKv.get {K : PySem.W.Frag} {mg : Str → Option Value} {B : Hp} {r : List (Str × D)} {s : List (Key × V)} {x : Str} {d : D} (h : RKv K mg B r s) (e : r.lookup x = some d) : ∃ v, valV s (Sum.inr x : Key) = some v ∧ Rp K mg B d v := by
  induction h with
  | nil => cases e
  | @cons y d2 v r s h t ih =>
    rw [List.lookup_cons] at e
    by_cases q : x = y
    · subst q
      simp at e
      subst e
      exact ⟨v, valV_pos rfl, h⟩
    · have q2 : (x == y) = false := by simpa using q
      rw [q2] at e
      obtain ⟨w, h1, h2⟩ := ih e
      refine ⟨w, ?_, h2⟩
      unfold valV at h1 ⊢
      rw [List.find?_cons]
      have : decide ((Sum.inr y : Key) = Sum.inr x) = false := by
        simp
        exact fun z => q z.symm
      simp only [this]
      exact h1
end
end PK
namespace PK
open PySem PySem.Spec PyProof.Rows L2 RZ
/-! ### zip of any number of things: its call -/
/-! ### a loop over a list, within the model -/
/-! ### the things that are walked -/
structure Ent (P : Program) (w : World) where
  it : Nat
  l : Nat
  S : Nat → Heap → Prop
  g : Nat → Option Value
  I : Itr P w it l S g
section
variable {P : Program} {w : World} {A : Around} {E : Value → Shared → Prop} {sh : Shared} {z TI TO : Nat} {es : List (Ent P w)} {k : Nat} {f0 : Value} {f1 : Bool}
abbrev zObj (TI TO : Nat) (f0 : Value) (f1 : Bool) : Obj := { cls := .type "zip", dict := none, data := .fields #[f0, .bool f1, .bool false, .ref TI, .ref TO], slots := #[] }
abbrev tObj (xs : List Value) : Obj := { cls := .type "tuple", data := .seq xs.toArray }
abbrev refsE (es : List (Ent P w)) : List Value := es.map fun e => .ref e.it
structure ZAp (z TI TO : Nat) (es : List (Ent P w)) : Prop where
  nd : (z :: TI :: TO :: es.map (·.it)).Nodup
  ls : ∀ e ∈ es, e.l ∉ (z :: TI :: TO :: es.map (·.it))
/-- the items of the turn -/
def ItemsOf (es : List (Ent P w)) (k : Nat) (xs : List Value) : Prop := es.map (fun e => e.g k) = xs.map some
theorem ItemsOf.len {xs : List Value} (h : ItemsOf es k xs) : xs.length = es.length := by
  have := congrArg List.length h
  simpa using this.symm
/-- what one thing keeps while another place turns -/
theorem ZAp.keepS (D : ZAp z TI TO es) {e : Ent P w} (he : e ∈ es) {j : Nat} {h h' : Heap} {a : Nat} (ha : a ∈ (z :: TI :: TO :: es.map (·.it))) (hne : e.it ≠ a) (hk : ∀ c o, c ≠ a → h.get? c = some o → h'.get? c = some o) (hS : e.S j h) : e.S j h' :=
  e.I.keep _ _ _ hS (fun o q => hk _ o hne q) fun o q => hk _ o (fun y => D.ls e he (by rw [y]; exact ha)) q
/-- in the middle of a turn -/
structure Mid (es done todo : List (Ent P w)) (k : Nat) (ys zs : List Value) (ex : Nat → Prop) (h₁ h : Heap) : Prop where
  eq : es = done ++ todo
  yd : ItemsOf done k ys
  zd : ItemsOf todo k zs
  sd : ∀ e ∈ done, e.S (k + 1) h
  st : ∀ e ∈ todo, e.S k h
  sz : h.objs.size = h₁.objs.size
  kp : ∀ c o, ¬ ex c → c ∉ es.map (·.it) → h₁.get? c = some o → h.get? c = some o
theorem Mid.next {ex : Nat → Prop} {done todo : List (Ent P w)} {e : Ent P w} {ys zs : List Value} {h₁ h h' : Heap} {x : Value} (D : ZAp z TI TO es) (m : Mid es done (e :: todo) k ys zs ex h₁ h) (hx : e.g k = some x) (hS : e.S (k + 1) h') (sb : Heap.SameBut e.it h h') : Mid es (done ++ [e]) todo k (ys ++ [x]) zs.tail ex h₁ h' := by
  have hnd : (done.map (·.it) ++ e.it :: todo.map (·.it)).Nodup := by
    have h1 := D.nd
    rw [m.eq] at h1
    simp only [List.map_append, List.map_cons, List.nodup_cons] at h1
    exact h1.2.2.2
  rw [List.nodup_append] at hnd
  obtain ⟨_, n2, n3⟩ := hnd
  have he : e ∈ es := by rw [m.eq]; simp
  have hfp : e.it ∈ (z :: TI :: TO :: es.map (·.it)) := by
    have : e.it ∈ es.map (·.it) := List.mem_map_of_mem he
    simp [this]
  have hkp : ∀ c o, c ≠ e.it → h.get? c = some o → h'.get? c = some o := fun c o hc q => sb.extBut _ _ hc q
  refine ⟨by rw [m.eq]; simp, ?_, ?_, fun e' h1 => ?_, fun e' h1 => ?_, sb.1.trans m.sz, fun c o hx hc q => hkp c o (fun y => hc (y ▸ List.mem_map_of_mem he)) (m.kp c o hx hc q)⟩
  · have := m.yd
    unfold ItemsOf at this ⊢
    rw [List.map_append, this, List.map_append]
    simp [hx]
  · have := m.zd
    unfold ItemsOf at this ⊢
    cases zs with
    | nil => simp at this
    | cons a b =>
      simp at this
      simpa using this.2
  · rcases List.mem_append.mp h1 with h2 | h2
    · exact D.keepS (by rw [m.eq]; exact List.mem_append_left _ h2) hfp (fun y => n3 _ (List.mem_map_of_mem h2) _ List.mem_cons_self y) hkp (m.sd e' h2)
    · rw [List.mem_singleton.mp h2]; exact hS
  · refine D.keepS (by rw [m.eq]; exact List.mem_append_right _ (List.mem_cons_of_mem _ h1)) hfp (fun y => ?_) hkp (m.st e' (List.mem_cons_of_mem _ h1))
    rw [List.nodup_cons] at n2
    exact n2.1 (y ▸ List.mem_map_of_mem h1)
end
end PK
namespace PK
open PySem PySem.Spec PyProof.Rows L2 RZ
section
variable {P : Program} {w : World} {A : Around} {E : Value → Shared → Prop} {sh : Shared} {z TI TO : Nat} {es : List (Ent P w)} {k : Nat}
structure ZSt (z TI TO : Nat) (es : List (Ent P w)) (k : Nat) (h : Heap) : Prop where
  zz : ∃ f0 f1, h.get? z = some (zObj TI TO f0 f1) ∧ (f0 = .none ∨ ∃ T : Nat, f0 = rawInt T)
  ti : h.get? TI = some (tObj (refsE es))
  to : ∃ us, us.length = es.length ∧ h.get? TO = some (tObj us)
  ss : ∀ e ∈ es, e.S k h
end
/-! ### the things that are zipped: lists and tuples -/
structure Src where
  l : Nat
  tp : Bool
  its : Array Value
def SrcOk (s : Src) (h : Heap) : Prop := if s.tp = true then h.IsTuple s.l s.its else h.IsList s.l s.its
def srcS (s : Src) (it : Nat) (k : Nat) (h : Heap) : Prop := s.l ≠ it ∧ SrcOk s h ∧ (if s.tp = true then h.IsTupleIter it s.l k else h.IsListIter it s.l k)
theorem src_itr {P : Program} {w : World} (s : Src) (it : Nat) : Itr P w it s.l (srcS s it) (fun k => s.its[k]?) := by
  obtain ⟨l, tp, its⟩ := s
  cases tp with
  | true =>
    exact ⟨fun k h a => (itr_tup (P := P) (w := w) (its := its) a.1).obj k h ⟨a.2.2, a.2.1⟩, fun k h h' a k1 k2 => by
        have := (itr_tup (P := P) (w := w) (its := its) a.1).keep k h h' ⟨a.2.2, a.2.1⟩ k1 k2
        exact ⟨a.1, this.2, this.1⟩,
      fun A E sh k x Q a e good => (itr_tup (P := P) (w := w) (its := its) a.1).next A E sh k x Q ⟨a.2.2, a.2.1⟩ e fun h' b sb => good h' ⟨a.1, b.2, b.1⟩ sb,
      fun A E sh k Q hd a e good => (itr_tup (P := P) (w := w) (its := its) a.1).stop A E sh k Q hd ⟨a.2.2, a.2.1⟩ e good⟩
  | false =>
    exact ⟨fun k h a => (itr_list (P := P) (w := w) (its := its) a.1).obj k h ⟨a.2.2, a.2.1⟩, fun k h h' a k1 k2 => by
        have := (itr_list (P := P) (w := w) (its := its) a.1).keep k h h' ⟨a.2.2, a.2.1⟩ k1 k2
        exact ⟨a.1, this.2, this.1⟩,
      fun A E sh k x Q a e good => (itr_list (P := P) (w := w) (its := its) a.1).next A E sh k x Q ⟨a.2.2, a.2.1⟩ e fun h' b sb => good h' ⟨a.1, b.2, b.1⟩ sb,
      fun A E sh k Q hd a e good => (itr_list (P := P) (w := w) (its := its) a.1).stop A E sh k Q hd ⟨a.2.2, a.2.1⟩ e good⟩
def entOf (P : Program) (w : World) (s : Src) (it : Nat) : Ent P w := ⟨it, s.l, srcS s it, fun k => s.its[k]?, src_itr s it⟩
def entsOf (P : Program) (w : World) : List Src → Nat → List (Ent P w)
  | [], _ => []
  | s :: r, a => entOf P w s a :: entsOf P w r (a + 1)
theorem entsOf_len {P : Program} {w : World} : ∀ (ss : List Src) (a : Nat), (entsOf P w ss a).length = ss.length
  | [], _ => rfl
  | _ :: r, a => by rw [entsOf, List.length_cons, List.length_cons, entsOf_len r]
theorem SrcOk.lt {s : Src} {h : Heap} (a : SrcOk s h) : s.l < h.objs.size := by
  unfold SrcOk at a
  split at a
  · obtain ⟨o, e, _⟩ := a
    exact Heap.lt_size e
  · obtain ⟨o, e, _⟩ := a
    exact Heap.lt_size e
theorem SrcOk.keep {s : Src} {h h' : Heap} (a : SrcOk s h) (k : ∀ c o, h.get? c = some o → h'.get? c = some o) : SrcOk s h' := by
  unfold SrcOk at a ⊢
  split at a
  · rename_i q
    rw [if_pos q]
    obtain ⟨o, e, m⟩ := a
    exact ⟨o, k _ _ e, m⟩
  · rename_i q
    rw [if_neg q]
    obtain ⟨o, e, m⟩ := a
    exact ⟨o, k _ _ e, m⟩
end PK
namespace PK
open PySem PySem.Spec PyProof.Rows L2 RZ
/-! ### zip of any number of things: its turns -/
def itsN : Nat → Nat → List Nat
  | 0, _ => []
  | n + 1, a => a :: itsN n (a + 1)
theorem entsOf_its {P : Program} {w : World} : ∀ (ss : List Src) (a : Nat), (entsOf P w ss a).map (·.it) = itsN ss.length a
  | [], _ => rfl
  | s :: r, a => by
    rw [entsOf, List.map_cons, entsOf_its r]
    rfl
def posOk : List (Nat × Bool) → Nat → Nat → Heap → Prop
  | [], _, _, _ => True
  | k :: r, a, i, h => (k.1 ≠ a ∧ (if k.2 = true then h.IsTupleIter a k.1 i else h.IsListIter a k.1 i)) ∧ posOk r (a + 1) i h
theorem posOk_to {P : Program} {w : World} : ∀ (ss : List Src) (a i : Nat) (h : Heap), (∀ s ∈ ss, SrcOk s h) → posOk (ss.map fun s => (s.l, s.tp)) a i h → ∀ e ∈ entsOf P w ss a, e.S i h
  | [], _, _, _, _, _, e, he => by cases he
  | s :: r, a, i, h, hs, hp, e, he => by
    rcases List.mem_cons.mp he with q | q
    · subst q
      exact ⟨hp.1.1, hs s List.mem_cons_self, hp.1.2⟩
    · exact posOk_to r (a + 1) i h (fun x hx => hs x (List.mem_cons_of_mem _ hx)) hp.2 e q
theorem posOk_of {P : Program} {w : World} : ∀ (ss : List Src) (a i : Nat) (h : Heap), (∀ e ∈ entsOf P w ss a, e.S i h) → posOk (ss.map fun s => (s.l, s.tp)) a i h
  | [], _, _, _, _ => trivial
  | s :: r, a, i, h, hs => by
    have h1 : srcS s a i h := hs _ List.mem_cons_self
    exact ⟨⟨h1.1, h1.2.2⟩, posOk_of r (a + 1) i h fun e he => hs e (List.mem_cons_of_mem _ he)⟩
theorem posOk_obj : ∀ (ks : List (Nat × Bool)) (a i : Nat) (h : Heap), posOk ks a i h → ∀ c ∈ itsN ks.length a, ∃ o, h.get? c = some o ∧ ∀ v, o.data ≠ .cell v
  | [], _, _, _, _, c, hc => by cases hc
  | k :: r, a, i, h, hp, c, hc => by
    rcases List.mem_cons.mp hc with q | q
    · subst q
      have h2 := hp.1.2
      split at h2
      · obtain ⟨o, e, _, d⟩ := h2
        exact ⟨o, e, fun v z => by rw [d] at z; cases z⟩
      · obtain ⟨o, e, _, d⟩ := h2
        exact ⟨o, e, fun v z => by rw [d] at z; cases z⟩
    · exact posOk_obj r (a + 1) i h hp.2 c q
def TnN (ks : List (Nat × Bool)) (a : Nat) (i : Nat) (h : Heap) : Prop :=
  (∃ f0 f1, h.get? (a + ks.length + 2) = some (zObj (a + ks.length) (a + ks.length + 1) f0 f1) ∧ (f0 = .none ∨ ∃ T : Nat, f0 = rawInt T)) ∧ h.get? (a + ks.length) = some (tObj ((itsN ks.length a).map Value.ref)) ∧
    (∃ us, us.length = ks.length ∧ h.get? (a + ks.length + 1) = some (tObj us)) ∧ posOk ks a i h
abbrev fpN (n a : Nat) : List Nat := (a + n + 2) :: (a + n) :: (a + n + 1) :: itsN n a
theorem refs_its {P : Program} {w : World} (ss : List Src) (a : Nat) : refsE (entsOf P w ss a) = (itsN ss.length a).map Value.ref := by
  rw [← entsOf_its (P := P) (w := w), List.map_map]
  rfl
theorem TnN.st {P : Program} {w : World} {ss : List Src} {a i : Nat} {h : Heap} (t : TnN (ss.map fun s => (s.l, s.tp)) a i h) (hs : ∀ s ∈ ss, SrcOk s h) : ZSt (a + ss.length + 2) (a + ss.length) (a + ss.length + 1) (entsOf P w ss a) i h := by
  obtain ⟨t1, t2, ⟨us, u1, t3⟩, t4⟩ := t
  rw [List.length_map] at t1 t2 t3 u1
  exact ⟨t1, by rw [refs_its]; exact t2, ⟨us, by rw [entsOf_len]; exact u1, t3⟩, posOk_to ss a i h hs t4⟩
theorem TnN.of {P : Program} {w : World} {ss : List Src} {a i : Nat} {h : Heap} (st : ZSt (a + ss.length + 2) (a + ss.length) (a + ss.length + 1) (entsOf P w ss a) i h) : TnN (ss.map fun s => (s.l, s.tp)) a i h := by
  unfold TnN
  rw [List.length_map]
  obtain ⟨us, u1, u2⟩ := st.to
  exact ⟨st.zz, by rw [← refs_its (P := P) (w := w)]; exact st.ti, ⟨us, by rw [← entsOf_len (P := P) (w := w) ss a]; exact u1, u2⟩, posOk_of ss a i h st.ss⟩
theorem TnN.here {ks : List (Nat × Bool)} {a i : Nat} {h : Heap} (t : TnN ks a i h) : ∀ c ∈ fpN ks.length a, ∃ o, h.get? c = some o ∧ ∀ v, o.data ≠ .cell v := by
  obtain ⟨⟨f0, f1, t1, _⟩, t2, ⟨us, _, t3⟩, t4⟩ := t
  intro c hc
  rcases List.mem_cons.mp hc with q | hc
  · rw [q]; exact ⟨_, t1, fun v e => nomatch e⟩
  · rcases List.mem_cons.mp hc with q | hc
    · rw [q]; exact ⟨_, t2, fun v e => nomatch e⟩
    · rcases List.mem_cons.mp hc with q | hc
      · rw [q]; exact ⟨_, t3, fun v e => nomatch e⟩
      · exact posOk_obj ks a i h t4 c hc
end PK
namespace PK
open PySem PySem.Spec PyProof.Rows L2 RZ
/-! ### .. for data -/
end PK
namespace PK
open PySem PySem.Spec PyProof.Rows L2 RZ
def TnY (zo pi po ia ib la lb : Addr) (k : Nat) (h : Heap) : Prop := IsZip h zo pi po .none ∧ IsPair h pi (.ref ia) (.ref ib) ∧ (∃ x y, IsPair h po x y) ∧ h.IsTupleIter ia la k ∧ h.IsListIter ib lb k
theorem TnY.here {zo pi po ia ib la lb : Addr} {k : Nat} {h : Heap} (t : TnY zo pi po ia ib la lb k h) : ∀ c ∈ [zo, pi, po, ia, ib], ∃ o, h.get? c = some o ∧ ∀ v, o.data ≠ .cell v := by
  obtain ⟨t1, t2, ⟨x, y, t3⟩, ⟨o1, t4, _, d1⟩, o2, t5, _, d2⟩ := t
  intro c hc
  rcases fiveM hc with q | q | q | q | q <;> rw [q]
  · exact ⟨_, t1, fun v e => nomatch e⟩
  · exact ⟨_, t2, fun v e => nomatch e⟩
  · exact ⟨_, t3, fun v e => nomatch e⟩
  · exact ⟨o1, t4, fun v e => by rw [d1] at e; cases e⟩
  · exact ⟨o2, t5, fun v e => by rw [d2] at e; cases e⟩
/-! zip(xs, ys) is called -/
/-! ### zip of two lists, of two tuples, of a list and a tuple, of a tuple and a list -/
end PK
namespace PK
open PySem PySem.Spec PyProof.Rows L2
/-! ### a comprehension of two clauses -/
end PK
namespace PK
open PySem PySem.Spec PyProof.Rows L2
/-! ### reversed(range(n)), list(range(a, b)) -/
end PK
set_option maxHeartbeats 2000000
namespace PK
open PySem PySem.Spec PyProof.Rows L2
open Sem (wp)
/-! ### a tuple times 0 or 1 -/
end PK
namespace PK
open PySem PySem.Spec PyProof.Rows L2
/-! ### in a list of data of any depth -/
end PK
namespace PK
open PySem L2 PySem.Spec PyProof.Rows
/-! ### results with exceptions -/
inductive Fx where
  | ok (r : Fl) | ex (c : Str) (d : D)
inductive Rx where
  | ok (r : Res) | ex (c : Str) (d : D)
inductive Vx where
  | ok (r : Vl) | ex (c : Str) (d : D)
abbrev XF := Dl → Option (Fx × Dl)
abbrev EX := Dl → Option (Vx × Dl)
abbrev GX := List Vl → List (List D) → Option (Rx × List (List D))
/-- what is in the air: an exception of the class named c that was told d -/
def Fly (K : PySem.W.Frag) (mg : Str → Option Value) (B : Hp) (c : Str) (d : D) (cls : Value) (dd : Option Addr) : Prop :=
  ∃ (C a : Addr) (w : V), cls = .ref C ∧ dd = some a ∧ mg c = some (.ref C) ∧ B a = some (.xd [(("value" : Str), w)]) ∧ Rp K mg B d w
def FxOk (K : PySem.W.Frag) (mg : Str → Option Value) (B : Hp) (ad : List Addr) (D : Ends) (W : WX) (σ : L2.St) (H : Hp) : Fx → Prop
  | .ok fl => FlOk K mg B ad D σ H fl
  | .ex c d => ∀ cls dd, Fly K mg B c d cls dd → W cls dd σ H
def xD (K : PySem.W.Frag) (mg : Str → Option Value) (W : WX) (f : XF) : TS := fun D σ H => ∃ B F ad δ fx δ', SRep K mg B F ad σ δ H ∧ f δ = some (fx, δ') ∧
  ∀ B' ad' σ' H', Same B B' → Pre ad ad' → SRep K mg B' F ad' σ' δ' H' → FxOk K mg B' ad' D W σ' H' fx
def VxOk (K : PySem.W.Frag) (mg : Str → Option Value) (B : Hp) (ad : List Addr) (Q : VK) (W : WX) (σ : L2.St) (H : Hp) : Vx → Prop
  | .ok r => ∀ v, RpV K mg B ad r v → Q v H
  | .ex c d => ∀ cls dd, Fly K mg B c d cls dd → W cls dd σ H
def txD (K : PySem.W.Frag) (mg : Str → Option Value) (W : WX) (f : EX) : TE := fun σ H Q => ∃ B F ad δ r δ', SRep K mg B F ad σ δ H ∧ f δ = some (r, δ') ∧
  ∀ B' ad' H', Same B B' → Pre ad ad' → SRep K mg B' F ad' σ δ' H' → VxOk K mg B' ad' Q W σ H' r
abbrev PXS (X : Cx) (W : WX) (st : Stmt) (f : XF) := PS X st (xD X.K X.mg W f)
abbrev PXSs (X : Cx) (W : WX) (st : List Stmt) (f : XF) := PSs X st (xD X.K X.mg W f)
abbrev PX (X : Cx) (W : WX) (e : Expr) (f : EX) := PE X e (txD X.K X.mg W f)
def xOk (f : SF) : XF := fun δ => (f δ).map fun p => (.ok p.1, p.2)
def xSeq (f g : XF) : XF := fun δ => (f δ).bind fun p => match p.1 with
  | .ok .nx => g p.2
  | fx => some (fx, p.2)
def xIf (t : BF) (f g : XF) : XF := fun δ => (t δ).bind fun p => if p.1 then f p.2 else g p.2
def xDrop (f : EX) : XF := fun δ => (f δ).map fun p => match p.1 with
  | .ok _ => (.ok .nx, p.2)
  | .ex c d => (.ex c d, p.2)
def xRet (f : EX) : XF := fun δ => (f δ).map fun p => match p.1 with
  | .ok r => (.ok (.rt r), p.2)
  | .ex c d => (.ex c d, p.2)
def xRaise (c : Str) (f : EF) : XF := fun δ => (f δ).bind fun p => (frz p.2 p.1).map fun q => (.ex c q.1, q.2)
open Classical in
noncomputable def forX (ck : List (Nat × List D)) (tg : Tg) (body : XF) : List D → Dl → Option (Fx × Dl)
  | [], δ => if CkOk ck δ then some (.ok .nx, δ) else none
  | d :: ds, δ => if CkOk ck δ then (asgT δ tg d).bind fun δ1 => (body δ1).bind fun p => match p.1 with
      | .ok .nx => forX ck tg body ds p.2
      | .ok .ct => forX ck tg body ds p.2
      | .ok .bk => some (.ok .nx, p.2)
      | .ok (.rt r) => some (.ok (.rt r), p.2)
      | .ex c x => some (.ex c x, p.2)
    else none
noncomputable def xFor (fi : IF) (tg : Tg) (body : XF) : XF := fun δ => (fi δ).bind fun p => forX p.2.1 tg body p.1 p.2.2
theorem PS.nox {X : Cx} {st : Stmt} {t : TS} (h : PS X.nox st t) : PS X st t := ⟨fun pins s σ H D I hw =>
  wpAny_mono (h.run pins s σ H D (I.wish _) hw) (fun _ _ q => q.unwish) fun _ _ z => z.elim⟩
section
variable {X : Cx} {W : WX} {e c : Expr} {f : EX} {ft : BF} {st : Stmt} {rest s1 s2 : List Stmt} {g h : XF} {pos : Pos}
theorem px_ok {u : SF} (h1 : PDS X.nox st u) : PXS X W st (xOk u) := PS.weak (PS.nox h1) fun D σ H hh => by
  obtain ⟨B, F, ad, δ, r, δ', S, e, k⟩ := hh
  unfold xOk at e
  obtain ⟨⟨x, δ1⟩, e1, e2⟩ := Option.map_eq_some_iff.mp e
  cases e2
  exact ⟨B, F, ad, δ, x, _, S, e1, k⟩
theorem pxs_ok {u : SF} (h1 : PDSs X.nox rest u) : PXSs X W rest (xOk u) := PSs.weak h1.nox fun D σ H hh => by
  obtain ⟨B, F, ad, δ, r, δ', S, e, k⟩ := hh
  unfold xOk at e
  obtain ⟨⟨x, δ1⟩, e1, e2⟩ := Option.map_eq_some_iff.mp e
  cases e2
  exact ⟨B, F, ad, δ, x, _, S, e1, k⟩
theorem pxs_cons (h1 : PXS X W st g) (h2 : PXSs X W rest h) : PXSs X W (st :: rest) (xSeq g h) := PSs.weak (pss_cons h1 h2) fun D σ H hh => by
  obtain ⟨B, F, ad, δ, r, δ', S, e, k⟩ := hh
  unfold xSeq at e
  obtain ⟨⟨fx, δ1⟩, e1, e⟩ := Option.bind_eq_some_iff.mp e
  refine ⟨B, F, ad, δ, fx, δ1, S, e1, fun B1 ad1 σ1 H1 q1 p1 S1 => ?_⟩
  cases fx with
  | ex cc dd =>
    cases e
    exact k B1 ad1 σ1 H1 q1 p1 S1
  | ok fl =>
    cases fl with
    | nx => exact ⟨B1, F, ad1, δ1, r, δ', S1, e, fun B2 ad2 σ2 H2 q2 p2 S2 => k B2 ad2 σ2 H2 (q1.trans q2) (p1.trans p2) S2⟩
    | bk =>
      cases e
      exact k B1 ad1 σ1 H1 q1 p1 S1
    | ct =>
      cases e
      exact k B1 ad1 σ1 H1 q1 p1 S1
    | rt v =>
      cases e
      exact k B1 ad1 σ1 H1 q1 p1 S1
theorem pxs_one (h1 : PXS X W st g) : PXSs X W [st] g := pss_one h1
theorem px_if (ht : PDT X c ft) (h1 : PXSs X W s1 g) (h2 : PXSs X W s2 h) : PXS X W (.If c s1 s2 pos) (xIf ft g h) := PS.weak (ps_if ht h1 h2) fun D σ H hh => by
  obtain ⟨B, F, ad, δ, r, δ', S, e, k⟩ := hh
  unfold xIf at e
  obtain ⟨⟨x, δ1⟩, e1, e⟩ := Option.bind_eq_some_iff.mp e
  refine ⟨B, F, ad, δ, x, δ1, S, e1, fun B1 ad1 H1 q1 p1 S1 => ?_⟩
  cases x with
  | true =>
    rw [if_pos rfl]
    exact ⟨B1, F, ad1, δ1, r, δ', S1, e, fun B2 ad2 σ2 H2 q2 p2 S2 => k B2 ad2 σ2 H2 (q1.trans q2) (p1.trans p2) S2⟩
  | false =>
    rw [if_neg Bool.false_ne_true]
    exact ⟨B1, F, ad1, δ1, r, δ', S1, e, fun B2 ad2 σ2 H2 q2 p2 S2 => k B2 ad2 σ2 H2 (q1.trans q2) (p1.trans p2) S2⟩
theorem px_drop (he : PX X W e f) (hs : swapsWith e none pos.line X.env = pure false := by rfl) : PXS X W (.Expr e pos) (xDrop f) := PS.weak (ps_expr he hs) fun D σ H hh => by
  obtain ⟨B, F, ad, δ, r, δ', S, e, k⟩ := hh
  unfold xDrop at e
  obtain ⟨⟨x, δ1⟩, e1, e⟩ := Option.map_eq_some_iff.mp e
  refine ⟨B, F, ad, δ, x, δ1, S, e1, fun B1 ad1 H1 q1 p1 S1 => ?_⟩
  cases x with
  | ok v =>
    cases e
    exact fun v r1 => k B1 ad1 _ H1 q1 p1 S1
  | ex cc dd =>
    cases e
    exact k B1 ad1 _ H1 q1 p1 S1
theorem px_ret (he : PX X W e f) : PXS X W (.Return (some e) pos) (xRet f) := PS.weak (ps_ret he) fun D σ H hh => by
  obtain ⟨B, F, ad, δ, r, δ', S, e, k⟩ := hh
  unfold xRet at e
  obtain ⟨⟨x, δ1⟩, e1, e⟩ := Option.map_eq_some_iff.mp e
  refine ⟨B, F, ad, δ, x, δ1, S, e1, fun B1 ad1 H1 q1 p1 S1 => ?_⟩
  cases x with
  | ok v =>
    cases e
    exact k B1 ad1 _ H1 q1 p1 S1
  | ex cc dd =>
    cases e
    exact k B1 ad1 _ H1 q1 p1 S1
theorem forX_ck {ck : List (Nat × List D)} {tg : Tg} {body : XF} {ds : List D} {δ : Dl} {r : Fx × Dl} (h : forX ck tg body ds δ = some r) : CkOk ck δ := by
  cases ds with
  | nil =>
    rw [forX] at h
    split at h
    · assumption
    · cases h
  | cons d ds =>
    rw [forX] at h
    split at h
    · assumption
    · cases h
theorem px_for {tgE iter : Expr} {body : List Stmt} {fi : IF} (tg : Tg) (hi : PDI X tgE iter fi) (hg : PG X tgE (gTg X.K tg)) (hb : PXSs X W body g) (hp : PassesOwn (model X.prog X.w) X.A X.env X.xe) (hc : X.calm = true)
    (hs : ∀ x, foldedSetIterable iter X.env x = pure x := by intro _; rfl) : PXS X W (.For tgE iter body [] pos) (xFor fi tg g) := PS.weak (ps_for hp hc hi hg hb hs) fun D σ H hh => by
  obtain ⟨B, F, ad, δ, r, δ', S, e, k⟩ := hh
  unfold xFor at e
  obtain ⟨⟨it, ck, δ1⟩, e1, e⟩ := Option.bind_eq_some_iff.mp e
  refine ⟨B, F, ad, δ, it, ck, δ1, S, e1, forX_ck e, fun B1 ad1 H1 J G Y s1 p1 S1 Wk hG hY => ?_⟩
  refine for_it Wk (fun i σ' H' => ∃ B2 ad2 δ2, Same B1 B2 ∧ Pre ad1 ad2 ∧ SRep X.K X.mg B2 F ad2 σ' δ2 H' ∧ forX ck tg g (it.drop i) δ2 = some (r, δ')) ⟨B1, ad1, δ1, Same.refl _, Pre.refl _, S1, e⟩ ?_ ?_ ?_
  · rintro i σ' H' hi ⟨B2, ad2, δ2, s2, p2, S2, e2⟩
    exact hG B2 F ad2 σ' δ2 H' s2 p2 S2 (forX_ck e2)
  · rintro i x σ' H2 H3 hi ⟨B2, ad2, δ2, s2, p2, S2, e2⟩ hy
    obtain ⟨B3, s3, S3, d, hd, rd⟩ := hY i x B2 F ad2 σ' δ2 H2 H3 s2 p2 S2 (forX_ck e2) hi hy
    have hdr : it.drop i = d :: it.drop (i + 1) := by
      obtain ⟨hl, he⟩ := List.getElem?_eq_some_iff.mp hd
      rw [List.drop_eq_getElem_cons hl, he]
    have hck2 := forX_ck e2
    rw [hdr, forX, if_pos hck2] at e2
    obtain ⟨δ4, e4, e3⟩ := Option.bind_eq_some_iff.mp e2
    obtain ⟨⟨fx, δ5⟩, e5, e3⟩ := Option.bind_eq_some_iff.mp e3
    refine tg_w S3 rd e4 fun vs S4 => ?_
    refine ⟨B3, F, ad2, δ4, fx, δ5, S4, e5, fun B5 ad5 σ5 H5 s5 p5 S5 => ?_⟩
    have sA := (s2.trans s3).trans s5
    cases fx with
    | ex cc dd =>
      cases e3
      exact k B5 ad5 σ5 H5 (s1.trans sA) (p1.trans (p2.trans p5)) S5
    | ok fl =>
      cases fl with
      | nx => exact ⟨B5, ad5, δ5, sA, p2.trans p5, S5, e3⟩
      | ct => exact ⟨B5, ad5, δ5, sA, p2.trans p5, S5, e3⟩
      | bk =>
        cases e3
        exact k B5 ad5 σ5 H5 (s1.trans sA) (p1.trans (p2.trans p5)) S5
      | rt v =>
        cases e3
        exact k B5 ad5 σ5 H5 (s1.trans sA) (p1.trans (p2.trans p5)) S5
  · rintro σ' H2 ⟨B2, ad2, δ2, s2, p2, S2, e2⟩
    rw [List.drop_length] at e2
    have hck := forX_ck e2
    rw [forX, if_pos hck] at e2
    cases e2
    exact k B2 ad2 σ' H2 (s1.trans s2) (p1.trans p2) S2
end
/-! ### an exception is made -/
/-- the facts of a class whose instances are raised: C over fI, the __init__ of the class above -/
structure ExR (K : PySem.W.Frag) (mg : Str → Option Value) (c : Str) (C fI : Addr) : Prop where
  g : mg c = some (.ref C)
  ox : OexC K C
  noN : PySem.W.findIn K (.ref C) "value" = some none
  iC : PySem.W.findIn K (.ref C) "__init__" = some (some (.ref fI))
  tI : PySem.W.typeIn K (.ref fI) = some (.type "function")
def spLift (K : PySem.W.Frag) : Sp := fun vs H Q _ => ∃ (a C : Addr) (v : V), vs = [.ref a, v] ∧ OexC K C ∧ PySem.W.findIn K (.ref C) "value" = some none ∧ H a = some (exo a C none) ∧
  ∀ dx, H dx = none → dx ≠ a → Q .non (upd (upd H dx (exd dx [(("value" : Str), v)])) a (exo a C (some dx)))
theorem raise_heap {H : Hp} {a C d : Addr} {v : V} {o : HO} {fs : List (Str × V)} (ha : H a = none) (hne : d ≠ a) : upd (L2.del (upd (upd (upd H a o) d (exd d fs)) a (exo a C (some d))) a) d (.xd fs) = upd H d (.xd fs) := by
  funext b
  by_cases h1 : b = d
  · subst h1
    rw [upd_same, upd_same]
  · rw [upd_ne h1, upd_ne h1]
    by_cases h2 : b = a
    · subst h2
      rw [del_same, ha]
    · rw [del_ne h2, upd_ne h2, upd_ne h1, upd_ne h2]
section
variable {X : Cx} {W : WX} {e : Expr} {f : EF} {pos p pos2 : Pos} {c : Str} {C fI : Addr}
theorem px_raise {k : Nat} {fd : FuncData} (hc : X.calm = true) (tk : Takes X W) (T : ExR X.K X.mg c C fI) (F1 : FnOk X.prog X.w X.K X.mg X.base CX0 k fI fd ["self", "value"] (spLift X.K)) (hr : Room (k + 1) X.A) (hb : Binds X.K fd ["self", "value"] [])
    (hg : Gl X c) (he : PD X e f) (hdb : (c == ("__debug__" : Str)) = false := by decide) (hst : starEach [e] X.env = (false, eval e X.env) :: starEach [] X.env := by rfl) (hpl : (backTo pos (starEach [] X.env)).any (·.1) = false := by rfl) :
    PXS X W (.Raise (some (.Call (.Name c p) [e] [] pos)) none pos2) (xRaise c f) :=
  PS.weak (ps_raise hc tk (pmk_oex T.ox T.iC T.tI F1 hr hb .nil pass0 hg T.g (pa_cons he pa_nil hst) hdb hst hpl)) fun D σ H hh => by
    obtain ⟨B, F, ad, δ, r, δ', S, e, k⟩ := hh
    unfold xRaise at e
    obtain ⟨⟨x, δ1⟩, e1, e⟩ := Option.bind_eq_some_iff.mp e
    obtain ⟨⟨d, δ2⟩, e2, e⟩ := Option.map_eq_some_iff.mp e
    cases e
    refine ⟨B, F, ad, δ, x, δ1, S, e1, fun B1 ad1 v H1 s1 p1 S1 r1 => ⟨by simp, fun a ha => ?_⟩⟩
    obtain ⟨B2, s2, S2, r2⟩ := S1.frz r1 e2
    refine ⟨a, C, v, rfl, T.ox, T.noN, upd_same, fun dx hd hne => ⟨rfl, dx, [(("value" : Str), v)], upd_same, ?_, ?_, ?_⟩⟩
    · rw [upd_ne hne, upd_same]
    · rw [upd_ne hne] at hd; exact hd
    · rw [upd_ne hne] at hd
      rw [raise_heap ha hne (v := v)]
      have s3 : Same B2 (upd B2 dx (.xd [(("value" : Str), v)])) := same_new (S2.exB.free hd)
      exact k _ ad1 σ _ ((s1.trans s2).trans s3) p1 (S2.alloc hd) _ _ ⟨C, dx, v, rfl, rfl, T.g, upd_same, Rp.mono s3 _ _ r2⟩
end
section
variable {P : Program} {w : World} {K : PySem.W.Frag} {mg : Str → Option Value} {base : Heap}
/-- an __init__ that hands its one argument to ValueError's, and keeps it -/
def tLift (K : PySem.W.Frag) : TS := tSeq (tDrop (tVeI K (tCons (tVar 0) (tCons (tVar 1) tNil)))) (tOst K "value" (tVar 0) (tVar 1))
theorem lift_ok {qual : Str} {st : Stmt} {f : Addr} {fd : FuncData} (F : Fun K "__init__" qual st f fd) (S : FnScope ["self", "value"] ["self", "value"] (defScope st))
    (hbody : ∀ (cdv : Value) (A : Around) (outer : List Env) (s : Shared) (H : Hp) (E : XK), PSs (cxOf CX0 P w K mg base ["self", "value"] qual (defScope st) f cdv A outer s H E).nox (defBody st) (tLift K)) :
    FnOk P w K mg base CX0 1 f fd ["self", "value"] (spLift K) := by
  refine F.ok S (fun vs H Q E h => ?_) (fun cdv A outer s H vs Q E hr h => ⟨_, hbody cdv A outer s H E, ?_⟩)
  · obtain ⟨a, C, v, rfl, _⟩ := h
    rfl
  · obtain ⟨a, C, v, rfl, T, noN, ha, k⟩ := h
    refine ⟨_, rfl, _, rfl, a, C, [v], rfl, by simp, T, ha, ?_⟩
    exact ⟨_, rfl, _, rfl, a, C, rfl, T, noN, .inl ⟨ha, fun dx hd hne => k dx hd hne⟩⟩
end
end PK
namespace PK
open PySem L2 PySem.Spec PyProof.Rows
/-! ### defs that may raise -/
def okG (G : GX) : GF := fun rs cs => match G rs cs with
  | some (.ok r, cs') => some (r, cs')
  | _ => none
def spDX (K : PySem.W.Frag) (mg : Str → Option Value) (n : Nat) (G : GX) : Sp := fun vs H Q E => vs.length = n ∧ ∃ B F ad rs cs r cs', SRep K mg B F ad [] ⟨[], cs.map some⟩ H ∧ RpVs K mg B ad rs vs ∧ G rs cs = some (r, cs') ∧ cs'.length = cs.length ∧
  match r with
  | .ok r => ∀ B' v H', Same B B' → ResOk K mg B' F ad cs' H' v r → Q v H'
  | .ex c d => ∀ B' H' cls dd, Same B B' → SRep K mg B' F ad [] ⟨[], cs'.map some⟩ H' → Fly K mg B' c d cls dd → E cls dd H'
section
variable {K : PySem.W.Frag} {mg : Str → Option Value} {B B' F : Hp} {ad ad' : List Addr} {σ : L2.St} {δ δ' : Dl} {H H' : Hp}
theorem spDX_ok {n : Nat} {G : GX} {vs : List V} {Q : VK} {E : XK} (h : spD K mg n (okG G) vs H Q E) {E' : XK} : spDX K mg n G vs H Q E' := by
  obtain ⟨hn, B, F, ad, rs, cs, r, cs', S, rv, e, hl, k⟩ := h
  unfold okG at e
  split at e
  · rename_i r' cs2 e2
    cases e
    exact ⟨hn, B, F, ad, rs, cs, .ok r, cs', S, rv, e2, hl, k⟩
  · cases e
noncomputable def callX (m : Bool) (G : GX) (rs : List Vl) (δ : Dl) : Option (Vx × Dl) := match callG m (okG G) rs δ with
  | some (r, δ') => some (.ok r, δ')
  | none => if (refs rs).Nodup then (lives δ (refs rs)).bind fun cs => match G (renum 0 rs) cs with
      | some (.ex c d, cs') => if cs'.length = cs.length then some (.ex c d, { δ with st := putAll δ.st (refs rs) cs' }) else none
      | _ => none
    else none
theorem call_wX {m : Bool} {G : GX} {rs : List Vl} {vs : List V} {r : Vx} {n : Nat} {Q : VK} {W : WX} (S : SRep K mg B F ad σ δ H) (hv : RpVs K mg B ad rs vs) (hn : vs.length = n) (e : callX m G rs δ = some (r, δ'))
    (k : ∀ B' ad' H', Same B B' → Pre ad ad' → SRep K mg B' F ad' σ δ' H' → VxOk K mg B' ad' Q W σ H' r) : spDX K mg n G vs H Q (WE W σ) := by
  unfold callX at e
  split at e
  · rename_i r0 δ0 e0
    cases e
    exact spDX_ok (E := E0) (call_w S hv hn e0 fun B1 ad1 v H1 s1 p1 S1 r1 => k B1 ad1 H1 s1 p1 S1 v r1)
  · split at e
    · rename_i hnd
      obtain ⟨cs, e1, e⟩ := Option.bind_eq_some_iff.mp e
      split at e
      · rename_i c d cs' e2
        split at e
        · rename_i hl
          cases e
          have hlt := S.live_lt e1
          refine ⟨hn, B, frameOf F ad δ (refs rs) H, addrs ad (refs rs), renum 0 rs, cs, .ex c d, cs', S.down e1 hnd, renum_ok (ks := []) hnd (by simpa using hlt) hv, e2, hl, ?_⟩
          intro B1 H1 cls dd sB S1 fly
          have S2 := S.up (m := []) (ms := []) e1 hnd hl sB (by simpa using S1)
          simp only [List.append_nil, List.map_nil] at S2
          exact k B1 ad H1 sB (Pre.refl _) S2 cls dd fly
        · cases e
      · cases e
    · cases e
end
section
variable {P : Program} {w : World} {K : PySem.W.Frag} {mg : Str → Option Value} {base : Heap}
def fnX (n : Nat) (f : XF) : GX := fun rs cs => (f ⟨rs.map some ++ List.replicate (n - rs.length) none, cs.map some⟩).bind fun p => (lives p.2 (List.range cs.length)).bind fun cs' => match p.1 with
  | .ok (.rt (.fz d)) => some (.ok (.val d), cs')
  | .ok (.rt (.rf k)) => if cs.length ≤ k then match p.2.st[k]? with
      | some (some es) => some (.ok (.fresh es), cs')
      | _ => none
    else none
  | .ok .nx => some (.ok (.val .non), cs')
  | .ok _ => none
  | .ex c d => some (.ex c d, cs')
theorem fn_okX {x qual : Str} {st : Stmt} {f : Addr} {fd : FuncData} {N ps : List Str} {k : Nat} {fs : XF} (F : Fun K x qual st f fd) (S : FnScope N ps (defScope st))
    (hbody : ∀ (cdv : Value) (A : Around) (outer : List Env) (s : Shared) (H : Hp) (E : XK), Room k (A.deeper (envOfC qual (defScope st) s.heap.objs.size f cdv)) →
      Takes (cxOf (L2.CX P w) P w K mg base N qual (defScope st) f cdv A outer s H E) (fun cls d _ H => E cls d H) →
      PXSs (cxOf (L2.CX P w) P w K mg base N qual (defScope st) f cdv A outer s H E) (fun cls d _ H => E cls d H) (defBody st) fs) :
    FnOk P w K mg base (L2.CX P w) (k + 1) f fd ps (spDX K mg ps.length (fnX N.length fs)) := by
  refine F.okX S (fun vs H Q E h => h.1) (fun cdv A outer s H vs Q E hr h => ?_)
  refine ⟨_, hbody cdv A outer s H E hr (takes_of rfl rfl rfl rfl), ?_⟩
  obtain ⟨hlen, B, Fr, ad, rs, cs, r, cs', S0, rv, e, hl, kk⟩ := h
  unfold fnX at e
  obtain ⟨⟨fx, δ'⟩, e1, e⟩ := Option.bind_eq_some_iff.mp e
  obtain ⟨cs2, e2, e⟩ := Option.bind_eq_some_iff.mp e
  have S1 : SRep K mg B Fr ad (start N vs) ⟨rs.map some ++ List.replicate (N.length - rs.length) none, cs.map some⟩ H := rps_start (δ := ⟨[], cs.map some⟩) S0 rv
  have hadl : ad.length = cs.length := by
    have := S0.len
    simpa using this
  refine ⟨B, Fr, ad, _, fx, δ', S1, e1, fun B' ad' σ' H' sB pA S' => ?_⟩
  obtain ⟨m, rfl⟩ := pA
  have base : SRep K mg B' Fr ad [] ⟨[], cs2.map some⟩ H' := by
    have := S'.pick e2 List.nodup_range
    rw [← hadl, addrs_range] at this
    exact this
  cases fx with
  | ex c d =>
    cases e
    exact fun cls dd fly => kk B' H' cls dd sB base fly
  | ok fl =>
    cases fl with
    | nx =>
      cases e
      exact kk B' .non H' sB ⟨base, rfl⟩
    | bk => cases e
    | ct => cases e
    | rt v =>
      intro u hu
      cases v with
      | nl _ => first | (cases e; done) | (cases e3; done) | (cases e4; done) | (cases h; done) | (cases e2; done) | (simp at e; done)
      | fz d =>
        cases e
        exact kk B' u H' sB ⟨base, hu⟩
      | rf j =>
        simp only at e
        split at e
        · rename_i hj
          split at e
          · rename_i es hes
            cases e
            obtain ⟨a, rfl, ha⟩ := hu
            refine kk B' _ H' sB ⟨a, rfl, ?_⟩
            have hnd : (List.range cs.length ++ [j]).Nodup := by
              rw [List.nodup_append]
              refine ⟨List.nodup_range, by simp, fun x hx y hy => ?_⟩
              have hy' : y = j := by simpa using hy
              have hx' : x < cs.length := by simpa using hx
              omega
            have := S'.pick (lives_app e2 hes) hnd
            rw [addrs_app _ _ _ _ ha, ← hadl, addrs_range] at this
            exact this
          · cases e
        · cases e
end
/-! ### calls that may raise -/
section
variable {X : Cx} {W : WX} {x : Str} {p pos apos : Pos} {e o : Expr} {es : List Expr} {kws : List Keyword} {fa fk : AF} {fo : EF} {c m : Str} {C : Addr} {k n np nk : Nat} {f : Addr} {fd : FuncData} {ps ks : List Str} {ix : List Nat} {G : GX}
/-- what a raising callee leaves -/
theorem leftX {pins : List (Addr × Obj)} {σ : L2.St} {H : Hp} {s s' : Shared} {Q : VK} {r : Result} (tk : Takes X W) (I : Inv X pins σ H s) (hq : CR (L2.CX X.prog X.w) X.stack X.prog X.w H s Q (WE W σ) r s') :
    match r with | .ok (.ret u) => EP X pins σ Q u s' | .ok _ => False | .error u => X.xe u s' := by
  cases r with
  | error u => exact passAt tk σ pins H s u s' I hq
  | ok fl =>
    cases fl with
    | ret u => exact I.after hq
    | next => exact hq
    | brk => exact hq
    | cont => exact hq
theorem runXK {pins : List (Addr × Obj)} {σ : L2.St} {H : Hp} {s : Shared} {Q : VK} {pa : List Value} {kw : List (Str × Value)} {us : List Value} {vs : List V} {sp : Sp} (F : FnOk X.prog X.w X.K X.mg X.base (L2.CX X.prog X.w) k f fd ps sp) (hr : Room k X.A)
    (b : BindsTo s fd ⟨pa, kw⟩ (ps.zip us)) (tk : Takes X W) (I : Inv X pins σ H s) (r : Vals vs us) (h : sp vs H Q (WE W σ)) : wpAny (model X.prog X.w) X.A (call (.ref f) pa kw) (EP X pins σ Q) X.xe s :=
  wpAny_call (codeAny_mono (F.run X.A X.stack s H ⟨pa, kw⟩ us vs Q (WE W σ) hr I.env0 b r h) fun rr s' hq => by
    have z := leftX tk I hq
    cases rr with
    | error u => exact z
    | ok fl =>
      cases fl with
      | ret u => exact z
      | next => exact z.elim
      | brk => exact z.elim
      | cont => exact z.elim)
noncomputable def xCallN (m : Bool) (n : Nat) (G : GX) (fa : AF) : EX := fun δ => (fa δ).bind fun p => if p.1.length = n then callX m G p.1 p.2 else none
theorem px_call (mm : Bool) (tk : Takes X W) (Fk : FnOk X.prog X.w X.K X.mg X.base (L2.CX X.prog X.w) k f fd ps (spDX X.K X.mg n G)) (hr : Room k X.A) (hg : Gl X x) (hm : X.mg x = some (.ref f)) (hk : PySem.W.keepIn X.K (.ref f) = true)
    (hb : Binds X.K fd ps []) (ha : PDA X (e :: es) fa) (hdb : (x == ("__debug__" : Str)) = false := by decide) (he : starEach (e :: es) X.env = (false, eval e X.env) :: starEach es X.env := by rfl)
    (hpl : (backTo pos (starEach es X.env)).any (·.1) = false := by rfl) : PX X W (.Call (.Name x p) (e :: es) [] pos) (xCallN mm n G fa) :=
  PE.weak (pe_callS Fk hr hg hm hk hb (fun σ => passAt tk σ) ha hdb he hpl) fun σ H Q hh => by
    obtain ⟨B, F, ad, δ, r, δ', S, e, kk⟩ := hh
    unfold xCallN at e
    obtain ⟨⟨rs, δ1⟩, e1, e⟩ := Option.bind_eq_some_iff.mp e
    split at e
    · rename_i hl
      refine ⟨B, F, ad, δ, rs, δ1, S, e1, fun B1 ad1 vs H1 s1 p1 S1 r1 => ?_⟩
      exact call_wX S1 r1 (by rw [r1.length]; exact hl) e fun B' ad' H' s2 p2 S' => kk B' ad' H' (s1.trans s2) (p1.trans p2) S'
    · cases e
/-! o.m(..) -/
noncomputable def xMeth (mm : Bool) (c m : Str) (n : Nat) (G : GX) (fo : EF) (fa : AF) : EX := fun δ => (fo δ).bind fun p => if recvOk c m p.1 then (fa p.2).bind fun q => if (p.1 :: q.1).length = n then callX mm G (p.1 :: q.1) q.2 else none else none
/-- what an own method asks, at the slots -/
def tMethX (C : Addr) (m : Str) (l : Nat) (W : WX) (sp : Sp) (gV : List V → List V → List V) (ta : TE) (tz : TA) : TE := fun σ H Q => ta σ H fun x H1 => ∃ a dx fs, x = .ref a ∧ H1 a = some (.ins C dx fs) ∧ fs.lookup m = none ∧ tz σ H1 fun zs H2 => zs.length = l ∧ sp (gV [.ref a] zs) H2 Q (WE W σ)
theorem pe_methXK {pl : Sem Bool} {sp : Sp} {g : List Value → List Value → List Value} {gV : List V → List V → List V} {ta : TE} {tz : TA} (tk : Takes X W) (ho : PE X o ta) (cl : Cls X.K C) (hm : Meth X.K C m f) (Fk : FnOk X.prog X.w X.K X.mg X.base (L2.CX X.prog X.w) k f fd ps sp) (hr : Room k X.A)
    (hb : KBn X.K fd ps 1 ks g gV) (ha : L2.PK X kws tz) (hall : (backToKw pos (keywordEach kws X.env)).all (·.1.isSome) = true) (hks : (backToKw pos (keywordEach kws X.env)).filterMap (·.1) = ks)
    (hpl : ((backTo pos (starEach [] X.env)).any (·.1) || (backToKw pos (keywordEach kws X.env)).any (·.1.isNone)) = false)
    (ht : eval (.Call (.Attribute o m apos) [] kws pos) X.env = (do
      let ov ← eval o X.env
      standAt apos.atName
      let (f, first) ← holding [ov] (getMethod ov m pl)
      callWith pos f first (backTo pos (starEach [] X.env)) (backToKw pos (keywordEach kws X.env)))) :
    PE X (.Call (.Attribute o m apos) [] kws pos) (tMethX C m ks.length W sp gV ta tz) := ⟨fun pins s σ H Q I h => by
  refine PySem.W.methodCall_KW (pl := pl) (thn (ho.run pins s σ H _ I h) fun v s1 hx => ?_) ht
  obtain ⟨x, H1, I1, rx, a, dx, fs, ex, ea, hlk, q⟩ := hx
  subst ex
  obtain rfl : v = Value.ref a := rx
  refine getmeth_ok I1 ea cl hm hlk (PySem.W.callWith_KW0 (first := [.ref a]) (h₀ := X.base) I1.ok.mod.kin hm.kp hall ?_ hpl)
  refine thn (ha.run pos pins s1 σ H1 _ I1 q) fun ws s2 hz => ?_
  obtain ⟨zs, H2, I2, rz, l2, q2⟩ := hz
  refine ⟨I2.kIn, ?_⟩
  rw [hks]
  exact runXK Fk hr (hb.to s2 [.ref a] ws I2.kIn rfl (rz.length.symm.trans l2)) tk I2 (hb.rel (vs := [V.ref a]) (us := [Value.ref a]) (.cons rfl .nil) rz) q2⟩
noncomputable def xMethK (mm : Bool) (c m : Str) (n nk : Nat) (ix : List Nat) (G : GX) (fo : EF) (fk : AF) : EX := fun δ => (fo δ).bind fun p => if recvOk c m p.1 then (fk p.2).bind fun q => if q.1.length = nk ∧ (pick ix ([p.1] ++ q.1)).length = n then callX mm G (pick ix ([p.1] ++ q.1)) q.2 else none else none
theorem px_methK {pl : Sem Bool} (mm : Bool) (tk : Takes X W) (ho : PD X o fo) (hC : X.mg c = some (.ref C)) (cl : Cls X.K C) (hm : Meth X.K C m f) (Fk : FnOk X.prog X.w X.K X.mg X.base (L2.CX X.prog X.w) k f fd ps (spDX X.K X.mg n G)) (hr : Room k X.A)
    (hb : KBn X.K fd ps 1 ks (pk2 ix) (pk2 ix)) (hlk : ks.length = nk) (ha : PDK X kws fk)
    (hall : (backToKw pos (keywordEach kws X.env)).all (·.1.isSome) = true := by rfl) (hks : (backToKw pos (keywordEach kws X.env)).filterMap (·.1) = ks := by rfl)
    (hpl : ((backTo pos (starEach [] X.env)).any (·.1) || (backToKw pos (keywordEach kws X.env)).any (·.1.isNone)) = false := by rfl)
    (ht : eval (.Call (.Attribute o m apos) [] kws pos) X.env = (do
      let ov ← eval o X.env
      standAt apos.atName
      let (f, first) ← holding [ov] (getMethod ov m pl)
      callWith pos f first (backTo pos (starEach [] X.env)) (backToKw pos (keywordEach kws X.env))) := by rfl) :
    PX X W (.Call (.Attribute o m apos) [] kws pos) (xMethK mm c m n nk ix G fo fk) :=
  PE.weak (pe_methXK tk ho cl hm Fk hr hb ha hall hks hpl ht) fun σ H Q hh => by
  obtain ⟨B, F, ad, δ, r, δ', S, e, kk⟩ := hh
  unfold xMethK at e
  obtain ⟨⟨x, δ1⟩, e1, e⟩ := Option.bind_eq_some_iff.mp e
  split at e
  · rename_i hx
    obtain ⟨⟨rs, δ2⟩, e2, e⟩ := Option.bind_eq_some_iff.mp e
    split at e
    · rename_i hl
      refine ⟨B, F, ad, δ, x, δ1, S, e1, fun B1 ad1 v1 H1 s1 p1 S1 r1 => ?_⟩
      obtain ⟨a, dx, fs, h1, h2, h3⟩ := recv_of hC S1.exB r1 hx
      subst h1
      refine ⟨a, dx, fs, rfl, h2, h3, B1, F, ad1, δ1, rs, δ2, S1, e2, fun B2 ad2 vs H2 s2 p2 S2 r2 => ?_⟩
      have rr : RpVs X.K X.mg B2 ad2 (x :: rs) (V.ref a :: vs) := ⟨_, vs, rfl, r1.mono s2 p2, r2⟩
      have rp := pick_rpvs rr ix
      refine ⟨r2.length.trans (hl.1.trans hlk.symm), ?_⟩
      exact call_wX S2 rp (rp.length.trans hl.2) e fun B' ad' H' s3 p3 S' => kk B' ad' H' ((s1.trans s2).trans s3) ((p1.trans p2).trans p3) S'
    · cases e
  · cases e
theorem px_meth0 {pl : Sem Bool} (mm : Bool) (tk : Takes X W) (ho : PD X o fo) (hC : X.mg c = some (.ref C)) (cl : Cls X.K C) (hm : Meth X.K C m f) (Fk : FnOk X.prog X.w X.K X.mg X.base (L2.CX X.prog X.w) k f fd ps (spDX X.K X.mg n G)) (hr : Room k X.A)
    (hb : Binds X.K fd ps [])
    (ht : eval (.Call (.Attribute o m apos) [] [] pos) X.env = (do
      let ov ← eval o X.env
      standAt apos.atName
      let (f, first) ← holding [ov] (getMethod ov m pl)
      callWith pos f first (backTo pos (starEach [] X.env)) (backToKw pos (keywordEach [] X.env))) := by rfl) :
    PX X W (.Call (.Attribute o m apos) [] [] pos) (xMeth mm c m n G fo aNil) := ⟨fun pins s σ H Q I hh => by
  obtain ⟨B, F, ad, δ, r, δ', S, e, kk⟩ := hh
  unfold xMeth at e
  obtain ⟨⟨x, δ1⟩, e1, e⟩ := Option.bind_eq_some_iff.mp e
  split at e
  · rename_i hx
    unfold aNil at e
    rw [Option.bind_some] at e
    split at e
    · rename_i hl
      have go : ∀ B1 ad1 v1 H1, Same B B1 → Pre ad ad1 → SRep X.K X.mg B1 F ad1 σ δ1 H1 → RpV X.K X.mg B1 ad1 x v1 → ∃ a dx fs, v1 = .ref a ∧ H1 a = some (.ins C dx fs) ∧ fs.lookup m = none ∧
          spDX X.K X.mg n G [V.ref a] H1 Q (WE W σ) := fun B1 ad1 v1 H1 s1 p1 S1 r1 => by
        obtain ⟨a, dx, fs, h1, h2, h3⟩ := recv_of hC S1.exB r1 hx
        subst h1
        refine ⟨a, dx, fs, rfl, h2, h3, ?_⟩
        have rr : RpVs X.K X.mg B1 ad1 [x] [V.ref a] := ⟨_, [], rfl, r1, rfl⟩
        exact call_wX S1 rr hl e fun B' ad' H' s3 p3 S' => kk B' ad' H' (s1.trans s3) (p1.trans p3) S'
      refine PySem.W.methodCall_KW (pl := pl) (thn (ho.run pins s σ H _ I ⟨B, F, ad, δ, x, δ1, S, e1, go⟩) fun v s1 hz => ?_) ht
      obtain ⟨y, H1, I1, rx, a, dx, fs, ex, ea, hlk, q⟩ := hz
      subst ex
      obtain rfl : v = Value.ref a := rx
      refine getmeth_ok I1 ea cl hm hlk ?_
      exact PySem.W.callWith_K0 (first := [.ref a]) I1.kIn hm.kp (run_fnS (E := WE W) (us := [.ref a]) (vs := [.ref a]) Fk hr hb (passAt tk σ) I1 (.cons rfl .nil) q)
    · cases e
  · cases e⟩
end
end PK
namespace PK
open PySem L2 PySem.Spec PyProof.Rows
/-! ### an __init__ that may raise -/
inductive Jl where
  | ok (i : Il) | ex (c : Str) (d : D) (dl : Dl)
inductive Iy where
  | ok (ns : List Str) (ds : List D) | ex (c : Str) (d : D)
abbrev JFn := Il → Option Jl
abbrev GIX := List Vl → List (List D) → Option (Iy × List (List D))
def tInX (K : PySem.W.Frag) (mg : Str → Option Value) (W : WX) (c : Str) (f : JFn) : TS := fun D σ H => ∃ B F ad i j x C dx xs, mg c = some (.ref C) ∧ σ[0]? = some (some (.ref x)) ∧ x ≠ dx ∧ F x = none ∧ F dx = none ∧
  SRep K mg B (upd (upd F dx (.own x)) x (.ins C dx (i.ns.zip xs))) ad σ i.dl H ∧ i.ns.length = xs.length ∧ Rps K mg B i.ds xs ∧ f i = some j ∧
  match j with
  | .ok i' => ∀ B' ad' σ' H' ys, Same B B' → Pre ad ad' → σ'[0]? = some (some (.ref x)) → SRep K mg B' (upd (upd F dx (.own x)) x (.ins C dx (i'.ns.zip ys))) ad' σ' i'.dl H' → i'.ns.length = ys.length → Rps K mg B' i'.ds ys → D.nx σ' H'
  | .ex cc d dl => ∀ B' ad' σ' H' ys cls dd, Same B B' → Pre ad ad' → SRep K mg B' (upd (upd F dx (.own x)) x (.ins C dx ys)) ad' σ' dl H' → Fly K mg B' cc d cls dd → W cls dd σ' H'
def jOk (f : IFn) : JFn := fun i => (f i).map .ok
def jSeq (f g : JFn) : JFn := fun i => (f i).bind fun j => match j with
  | .ok i' => g i'
  | j => some j
def jDrop (f : EX) : JFn := fun i => (f i.dl).map fun p => match p.1 with
  | .ok _ => .ok { i with dl := p.2 }
  | .ex c d => .ex c d p.2
section
variable {X : Cx} {W : WX} {e : Expr} {f : EX} {pos : Pos} {st : Stmt} {rest : List Stmt} {c : Str} {C : Addr} {g h : JFn}
theorem pjn_ok {u : IFn} (h1 : PS X.nox st (tIn X.K X.mg c u)) : PS X st (tInX X.K X.mg W c (jOk u)) := PS.weak (PS.nox h1) fun D σ H hh => by
  obtain ⟨B, F, ad, i, j, x, C, dx, xs, hC, h0, hne, hF1, hF2, S, hl, r, e, k⟩ := hh
  unfold jOk at e
  obtain ⟨i', e1, e2⟩ := Option.map_eq_some_iff.mp e
  subst e2
  exact ⟨B, F, ad, i, i', x, C, dx, xs, hC, h0, hne, hF1, hF2, S, hl, r, e1, k⟩
theorem pjn_one (h1 : PS X st (tInX X.K X.mg W c g)) : PSs X [st] (tInX X.K X.mg W c g) := pss_one h1
theorem pjn_cons (h1 : PS X st (tInX X.K X.mg W c g)) (h2 : PSs X rest (tInX X.K X.mg W c h)) : PSs X (st :: rest) (tInX X.K X.mg W c (jSeq g h)) := PSs.weak (pss_cons h1 h2) fun D σ H hh => by
  obtain ⟨B, F, ad, i, j, x, C, dx, xs, hC, h0, hne, hF1, hF2, S, hl, r, e, k⟩ := hh
  unfold jSeq at e
  obtain ⟨j1, e1, e2⟩ := Option.bind_eq_some_iff.mp e
  refine ⟨B, F, ad, i, j1, x, C, dx, xs, hC, h0, hne, hF1, hF2, S, hl, r, e1, ?_⟩
  cases j1 with
  | ok i1 =>
    intro B1 ad1 σ1 H1 ys s1 p1 z1 S1 l1 r1
    refine ⟨B1, F, ad1, i1, j, x, C, dx, ys, hC, z1, hne, hF1, hF2, S1, l1, r1, e2, ?_⟩
    cases j with
    | ok i2 => exact fun B2 ad2 σ2 H2 ws s2 p2 z2 S2 l2 r2 => k B2 ad2 σ2 H2 ws (s1.trans s2) (p1.trans p2) z2 S2 l2 r2
    | ex cc d dl => exact fun B2 ad2 σ2 H2 ws cls dd s2 p2 S2 fly => k B2 ad2 σ2 H2 ws cls dd (s1.trans s2) (p1.trans p2) S2 fly
  | ex cc d dl =>
    cases e2
    exact k
theorem pjn_drop (he : PX X W e f) (hs : swapsWith e none pos.line X.env = pure false := by rfl) : PS X (.Expr e pos) (tInX X.K X.mg W c (jDrop f)) := PS.weak (ps_expr he hs) fun D σ H hh => by
  obtain ⟨B, F, ad, i, j, x, C, dx, xs, hC, h0, hne, hF1, hF2, S, hl, r, e, k⟩ := hh
  unfold jDrop at e
  obtain ⟨⟨y, δ1⟩, e1, e2⟩ := Option.map_eq_some_iff.mp e
  refine ⟨B, _, ad, i.dl, y, δ1, S, e1, fun B1 ad1 H1 s1 p1 S1 => ?_⟩
  cases y with
  | ok v =>
    cases e2
    exact fun u hu => k B1 ad1 σ H1 xs s1 p1 h0 S1 hl (Rps.mono s1 _ _ r)
  | ex cc d =>
    cases e2
    exact fun cls dd fly => k B1 ad1 σ H1 (i.ns.zip xs) cls dd s1 p1 S1 fly
end
/-- the promise of such an __init__ -/
def spIX (K : PySem.W.Frag) (mg : Str → Option Value) (c : Str) (n : Nat) (G : GIX) : Sp := fun vs H Q E => vs.length = n ∧ ∃ B F ad rs cs y cs' x C dx ws, vs = .ref x :: ws ∧ mg c = some (.ref C) ∧ x ≠ dx ∧ F x = none ∧ F dx = none ∧
  SRep K mg B (upd (upd F dx (.own x)) x (.ins C dx [])) ad [] ⟨[], cs.map some⟩ H ∧ RpVs K mg B ad rs ws ∧ G rs cs = some (y, cs') ∧ cs'.length = cs.length ∧
  match y with
  | .ok ns ds => ∀ B' H' xs, Same B B' → SRep K mg B' (upd (upd F dx (.own x)) x (.ins C dx (ns.zip xs))) ad [] ⟨[], cs'.map some⟩ H' → ns.length = xs.length → Rps K mg B' ds xs → Q .non H'
  | .ex cc d => ∀ B' H' ys cls dd, Same B B' → SRep K mg B' (upd (upd F dx (.own x)) x (.ins C dx ys)) ad [] ⟨[], cs'.map some⟩ H' → Fly K mg B' cc d cls dd → E cls dd H'
def okI (G : GIX) : GIF := fun rs cs => match G rs cs with
  | some (.ok ns ds, cs') => some (ns, ds, cs')
  | _ => none
def initX (n : Nat) (f : JFn) : GIX := fun rs cs => (f ⟨⟨none :: rs.map some ++ List.replicate (n - rs.length) none, cs.map some⟩, [], []⟩).bind fun j => match j with
  | .ok i => (lives i.dl (List.range cs.length)).map fun cs' => (.ok i.ns i.ds, cs')
  | .ex c d dl => (lives dl (List.range cs.length)).map fun cs' => (.ex c d, cs')
theorem spIX_ok {K : PySem.W.Frag} {mg : Str → Option Value} {c : Str} {n : Nat} {G : GIX} {vs : List V} {H : Hp} {Q : VK} {E E' : XK} (h : spI K mg c n (okI G) vs H Q E) : spIX K mg c n G vs H Q E' := by
  obtain ⟨hn, B, F, ad, rs, cs, ns, ds, cs', x, C, dx, ws, h1, hC, hne, hF1, hF2, S, rv, e, hl, k⟩ := h
  unfold okI at e
  split at e
  · rename_i ns2 ds2 cs2 e2
    cases e
    exact ⟨hn, B, F, ad, rs, cs, .ok ns ds, cs', x, C, dx, ws, h1, hC, hne, hF1, hF2, S, rv, e2, hl, k⟩
  · cases e
section
variable {P : Program} {w : World} {K : PySem.W.Frag} {mg : Str → Option Value} {base : Heap}
theorem calmI {k n : Nat} {c : Str} {f : Addr} {fd : FuncData} {ps : List Str} {G : GIX} (F : FnOk P w K mg base (L2.CX P w) k f fd ps (spIX K mg c n G)) : FnOk P w K mg base CX0 k f fd ps (spI K mg c n (okI G)) :=
  ⟨fun vs H Q E h => F.len vs H Q E (spIX_ok h), fun A outer s H args us vs Q E hr he hb hv h =>
    codeAny_mono (F.run A outer s H args us vs Q (fun _ _ _ => False) hr he hb hv (spIX_ok h)) fun r s' hq => by
      cases r with
      | ok fl =>
        cases fl with
        | ret u => exact hq
        | next => exact hq
        | brk => exact hq
        | cont => exact hq
      | error e =>
        obtain ⟨_, _, _, _, _, _, _, _, _, _, _, _, z⟩ := hq
        exact z.elim⟩
theorem init_okX {c qual : Str} {st : Stmt} {f : Addr} {fd : FuncData} {N ps : List Str} {k : Nat} {fi : JFn} (F : Fun K "__init__" qual st f fd) (S : FnScope N ps (defScope st)) (hp : 0 < ps.length) (hNp : ps.length ≤ N.length)
    (hbody : ∀ (cdv : Value) (A : Around) (outer : List Env) (s : Shared) (H : Hp) (E : XK), Room k (A.deeper (envOfC qual (defScope st) s.heap.objs.size f cdv)) →
      Takes (cxOf (L2.CX P w) P w K mg base N qual (defScope st) f cdv A outer s H E) (fun cls d _ H => E cls d H) →
      PSs (cxOf (L2.CX P w) P w K mg base N qual (defScope st) f cdv A outer s H E) (defBody st) (tInX K mg (fun cls d _ H => E cls d H) c fi)) :
    FnOk P w K mg base (L2.CX P w) (k + 1) f fd ps (spIX K mg c ps.length (PK.initX (N.length - 1) fi)) := by
  refine F.okX S (fun vs H Q E h => h.1) (fun cdv A outer s H vs Q E hr h => ?_)
  refine ⟨_, hbody cdv A outer s H E hr (takes_of rfl rfl rfl rfl), ?_⟩
  obtain ⟨hlen, B, Fr, ad, rs, cs, y, cs', x, C, dx, ws, rfl, hC, hne, hF1, hF2, S0, rv, e, hl, kk⟩ := h
  unfold PK.initX at e
  obtain ⟨j, e1, e⟩ := Option.bind_eq_some_iff.mp e
  have hadl : ad.length = cs.length := by
    have := S0.len
    simpa using this
  have hwl := RpVs.length rv
  have S1 := rps_start (δ := ⟨[], cs.map some⟩) (n := N.length - 1) S0 rv
  have hst : start N (.ref x :: ws) = some (.ref x) :: (ws.map some ++ List.replicate (N.length - 1 - ws.length) none) := by
    unfold L2.start
    rw [List.map_cons, List.cons_append, List.length_cons]
    congr 3
    omega
  have S2 : SRep K mg B (upd (upd Fr dx (.own x)) x (.ins C dx [])) ad (start N (.ref x :: ws)) ⟨none :: rs.map some ++ List.replicate (N.length - 1 - rs.length) none, cs.map some⟩ H := by
    rw [hst]
    refine ⟨S1.exB, S1.exF, S1.dis, S1.nd, S1.len, by simp [hwl], S1.cell, S1.dead, fun j d ej => ?_⟩
    cases j with
    | zero => simp at ej
    | succ j =>
      obtain ⟨v, h1, h2⟩ := S1.slot j d (by simpa using ej)
      exact ⟨v, by simpa using h1, h2⟩
  refine ⟨B, Fr, ad, (⟨⟨none :: rs.map some ++ List.replicate (N.length - 1 - rs.length) none, cs.map some⟩, [], []⟩ : Il), j, x, C, dx, [], hC, by rw [hst]; rfl, hne, hF1, hF2, S2, rfl, rfl, e1, ?_⟩
  cases j with
  | ok i' =>
    obtain ⟨cs2, e2, e3⟩ := Option.map_eq_some_iff.mp e
    cases e3
    intro B' ad' σ' H' ys sB pA h0 S' hl' r'
    obtain ⟨m, rfl⟩ := pA
    have base : SRep K mg B' (upd (upd Fr dx (.own x)) x (.ins C dx (i'.ns.zip ys))) ad [] ⟨[], cs'.map some⟩ H' := by
      have := S'.pick e2 List.nodup_range
      rw [← hadl, addrs_range] at this
      exact this
    exact kk B' H' ys sB base hl' r'
  | ex cc d dl =>
    obtain ⟨cs2, e2, e3⟩ := Option.map_eq_some_iff.mp e
    cases e3
    intro B' ad' σ' H' ys cls dd sB pA S' fly
    obtain ⟨m, rfl⟩ := pA
    have base : SRep K mg B' (upd (upd Fr dx (.own x)) x (.ins C dx ys)) ad [] ⟨[], cs'.map some⟩ H' := by
      have := S'.pick e2 List.nodup_range
      rw [← hadl, addrs_range] at this
      exact this
    exact kk B' H' ys cls dd sB base fly
end
noncomputable def makeX (c : Str) (G : GIX) (rs : List Vl) (δ : Dl) : Option (Vx × Dl) := match makeG c (okI G) rs δ with
  | some (r, δ') => some (.ok r, δ')
  | none => if (refs rs).Nodup then (lives δ (refs rs)).bind fun cs => match G (renum 0 rs) cs with
      | some (.ex c d, cs') => if cs'.length = cs.length then some (.ex c d, { δ with st := putAll δ.st (refs rs) cs' }) else none
      | _ => none
    else none
noncomputable def xMake (c : Str) (n : Nat) (G : GIX) (fa : AF) : EX := fun δ => (fa δ).bind fun p => if p.1.length + 1 = n then makeX c G p.1 p.2 else none
section
variable {K : PySem.W.Frag} {mg : Str → Option Value} {B B' F : Hp} {ad ad' : List Addr} {σ : L2.St} {δ δ' : Dl} {H H' : Hp}
theorem make_wX {c : Str} {C : Addr} {G : GIX} {rs : List Vl} {vs : List V} {r : Vx} {n : Nat} {Q : VK} {W : WX} {x dx : Addr} (hC : mg c = some (.ref C)) (S : SRep K mg B F ad σ δ H) (hv : RpVs K mg B ad rs vs) (hn : vs.length + 1 = n) (e : makeX c G rs δ = some (r, δ')) (hx : H x = none) (hd : H dx = none) (hne : dx ≠ x)
    (k : ∀ B' ad' H', Same B B' → Pre ad ad' → SRep K mg B' F ad' σ δ' H' → VxOk K mg B' ad' Q W σ H' r) : spIX K mg c n G (.ref x :: vs) (upd (upd H dx (.own x)) x (.ins C dx [])) (fun v H2 => v = .non ∧ Q (.ref x) H2) (WE W σ) := by
  unfold makeX at e
  split at e
  · rename_i r0 δ0 e0
    cases e
    exact spIX_ok (E := E0) (make_w hC S hv hn e0 hx hd hne fun B1 ad1 v H1 s1 p1 S1 r1 => k B1 ad1 H1 s1 p1 S1 v r1)
  · split at e
    · rename_i hnd
      obtain ⟨cs, e1, e⟩ := Option.bind_eq_some_iff.mp e
      split at e
      · rename_i cc d cs' e2
        split at e
        · rename_i hl
          cases e
          have hlt := S.live_lt e1
          have Sd := (S.down e1 hnd).own2 (o := .ins C dx []) (u := .own x) hx hd hne
          have fx : frameOf F ad δ (refs rs) H x = none := (S.down e1 hnd).exF.free hx
          have fd : frameOf F ad δ (refs rs) H dx = none := (S.down e1 hnd).exF.free hd
          refine ⟨hn, B, frameOf F ad δ (refs rs) H, addrs ad (refs rs), renum 0 rs, cs, .ex cc d, cs', x, C, dx, vs, rfl, hC, Ne.symm hne, fx, fd, Sd, renum_ok (ks := []) hnd (by simpa using hlt) hv, e2, hl, ?_⟩
          intro B1 H1 ys cls dd sB S1 fly
          have S1' := S1.weakF (F' := frameOf F ad δ (refs rs) H) fun a o e => by
            rw [upd_ne (ne_of_none e fx), upd_ne (ne_of_none e fd)]
            exact e
          have S2 := S.up (m := []) (ms := []) e1 hnd hl sB (by simpa using S1')
          simp only [List.append_nil, List.map_nil] at S2
          exact k B1 ad H1 sB (Pre.refl _) S2 cls dd fly
        · cases e
      · cases e
    · cases e
end
section
variable {X : Cx} {W : WX} {e : Expr} {pos p : Pos} {es : List Expr} {fs : AF} {c : Str} {C : Addr}
/-- C(e, ..), at the slots -/
theorem pe_makeX {k : Nat} {f : Addr} {fd : FuncData} {ps : List Str} {sp : Sp} {t : TA} (tk : Takes X W) (M : Mk X.K C f) (Fk : FnOk X.prog X.w X.K X.mg X.base (L2.CX X.prog X.w) k f fd ps sp) (hr : Room (k + 1) X.A) (hg : Gl X c) (hm : X.mg c = some (.ref C)) (hb : Binds X.K fd ps [])
    (ha : PA X (e :: es) t) (hdb : (c == ("__debug__" : Str)) = false) (he : starEach (e :: es) X.env = (false, eval e X.env) :: starEach es X.env) (hpl : (backTo pos (starEach es X.env)).any (·.1) = false) :
    PE X (.Call (.Name c p) (e :: es) [] pos) (fun σ H Q => t σ H fun vs H1 => ∀ x dx, H1 x = none → H1 dx = none → dx ≠ x → sp (.ref x :: vs) (upd (upd H1 dx (.own x)) x (.ins C dx [])) (fun v H2 => v = .non ∧ Q (.ref x) H2) (WE W σ)) := ⟨fun pins s σ H Q I h => by
  refine wpAny_Call_Name_kw (ld_glob I hg hm ?_ hdb)
  refine PySem.W.callWith_K (h₀ := X.base) I.ok.mod.kin M.kp (thn (ha.run pos pins s σ H _ I h) fun us s1 hv => ?_) he hpl
  obtain ⟨vs, H1, I1, r, q⟩ := hv
  refine ⟨I1.kIn, ?_⟩
  show wpAny (model X.prog X.w) X.A (call (.ref C) us) _ _ _
  have n1 : H1 (s1.heap.objs.size + 1) = none := I1.hok.fresh (Nat.le_succ _)
  have n2 : H1 s1.heap.objs.size = none := I1.hok.fresh (Nat.le_refl _)
  have hq := q (s1.heap.objs.size + 1) s1.heap.objs.size n1 n2 (Nat.ne_of_lt (Nat.lt_succ_self _))
  have I2 := Inv.made (C := C) I1
  have r2 : Vals (V.ref (s1.heap.objs.size + 1) :: vs) (Value.ref (s1.heap.objs.size + 1) :: us) := .cons rfl r
  have hl : (Value.ref (s1.heap.objs.size + 1) :: us).length = ps.length := r2.length.symm.trans (Fk.len _ _ _ _ hq)
  have hb2 := hb _ (Value.ref (s1.heap.objs.size + 1) :: us) I2.kIn (by rw [List.append_nil]; exact hl)
  rw [List.append_nil] at hb2
  refine wpAny_call (make_map (f := f) I1.kIn M.makes M.init (beq_iff_eq.mp M.fn) (codeAny_mono (Fk.run _ X.stack _ _ ⟨Value.ref (s1.heap.objs.size + 1) :: us, []⟩ _ _ _ _ (hr.make C us []) (I2.env0.make C us []) hb2 r2 hq) fun rr s' hz => ?_))
  have z := leftX tk I2 hz
  cases rr with
  | error u => exact z
  | ok fl =>
    cases fl with
    | ret u =>
      obtain ⟨v, H', I3, rv, ev, q3⟩ := z
      subst ev
      exact ⟨rv, ⟨V.ref (s1.heap.objs.size + 1), H', I3, rfl, q3⟩⟩
    | next => exact z.elim
    | brk => exact z.elim
    | cont => exact z.elim⟩
theorem px_make {k n : Nat} {f : Addr} {fd : FuncData} {ps : List Str} {G : GIX} (tk : Takes X W) (M : Mk X.K C f) (Fk : FnOk X.prog X.w X.K X.mg X.base (L2.CX X.prog X.w) k f fd ps (spIX X.K X.mg c n G)) (hr : Room (k + 1) X.A) (hg : Gl X c) (hm : X.mg c = some (.ref C)) (hb : Binds X.K fd ps [])
    (ha : PDA X (e :: es) fs) (hdb : (c == ("__debug__" : Str)) = false := by decide) (he : starEach (e :: es) X.env = (false, eval e X.env) :: starEach es X.env := by rfl) (hpl : (backTo pos (starEach es X.env)).any (·.1) = false := by rfl) :
    PX X W (.Call (.Name c p) (e :: es) [] pos) (xMake c n G fs) := PE.weak (pe_makeX tk M Fk hr hg hm hb ha hdb he hpl) fun σ H Q hh => by
  obtain ⟨B, F, ad, δ, r, δ', S, e, k⟩ := hh
  unfold xMake at e
  obtain ⟨⟨rs, δ1⟩, e1, e⟩ := Option.bind_eq_some_iff.mp e
  split at e
  · rename_i hl
    refine ⟨B, F, ad, δ, rs, δ1, S, e1, fun B1 ad1 vs H1 s1 p1 S1 r1 => fun x dx hx hd hne => ?_⟩
    exact make_wX hm S1 r1 (by rw [RpVs.length r1]; exact hl) e hx hd hne fun B' ad' H' s2 p2 S' => k B' ad' H' (s1.trans s2) (p1.trans p2) S'
  · cases e
end
end PK
namespace PK
open PySem L2 PySem.Spec PyProof.Rows
/-! ### the exceptions' classes -/
def veT : List Value := [.type "ValueError", .type "Exception", .type "BaseException", .type "object"]
/-- what an own exception class is: the one below ValueError ("LiftError", at L), or one below that -/
def bmOf (L : Addr) (c : Str) : List Value := if c = ("LiftError" : Str) then veT else .ref L :: veT
structure ExK (K : PySem.W.Frag) (mg : Str → Option Value) (L : Addr) (c : Str) (C : Addr) : Prop where
  g : mg c = some (.ref C)
  lk : ∃ q N bs sn sub ab col dd k0 k1 k2 k3 k5, K.lookup C = some (excClassObj c q C N bs (bmOf L c) true sn sub ab col dd k0 k1 k2 k3 k5 "ValueError.__new__")
/-- what its instances' fields and their class ask -/
structure ExH (K : PySem.W.Frag) (C : Addr) : Prop where
  ga : PySem.W.findIn K (.ref C) "__getattribute__" = some (some (.builtin "BaseException.__getattribute__"))
  gg : PySem.W.findIn K (.ref C) "__getattr__" = some none
  ha : PySem.W.findIn K (.ref C) "__class__" = some (some (.builtin "object.__class__"))
  noN : PySem.W.findIn K (.ref C) "value" = some none
structure ExG (K : PySem.W.Frag) : Prop where
  hn : PySem.W.specialIn K (.builtin "object.__class__") "__get__" = some (some (.builtin "getset_descriptor.__get__"))
  ht : PySem.W.takesIn K (.builtin "object.__class__") = some true
section
variable {K : PySem.W.Frag} {mg : Str → Option Value} {L C C' : Addr} {c c' : Str}
theorem ExK.cls (T : ExK K mg L c C) : ∃ cd, PySem.W.clsIn K C = some cd ∧ cd.mro = .ref C :: bmOf L c ∧ cd.hasDict = true := by
  obtain ⟨q, N, bs, sn, sub, ab, col, dd, k0, k1, k2, k3, k5, h⟩ := T.lk
  refine ⟨{ name := c, bases := bs, mro := .ref C :: bmOf L c, ns := N, qualname := q, hasDict := true, slotNames := sn, subclasses := sub, abstract := ab, collection := col, hasDel := false }, ?_, rfl, rfl⟩
  unfold PySem.W.clsIn
  rw [h]
theorem ExK.ty (T : ExK K mg L c C) : PySem.W.typeIn K (.ref C) = some (.type "type") := by
  obtain ⟨q, N, bs, sn, sub, ab, col, dd, k0, k1, k2, k3, k5, h⟩ := T.lk
  show (K.lookup C).map _ = _
  rw [h]
  rfl
theorem ExK.sub (T : ExK K mg L c C) (b : Value) : PySem.W.subIn K (.ref C) b = some ((Value.ref C :: bmOf L c).contains b) := by
  obtain ⟨cd, h1, h2, _⟩ := T.cls
  show PySem.W.mroIn K C b = _
  unfold PySem.W.mroIn
  rw [h1, Option.bind_some, h2]
  rfl
theorem bm_base {L : Addr} {c : Str} {X : String} (h : veT.contains (.type X) = true) : (bmOf L c).contains (.type X) = true := by
  unfold bmOf
  split
  · exact h
  · rw [List.contains_cons, h, Bool.or_true]
theorem ExK.base (T : ExK K mg L c C) : PySem.W.subIn K (.ref C) (.type "BaseException") = some true := by
  rw [T.sub, List.contains_cons, bm_base (by decide), Bool.or_true]
theorem ExK.obj (T : ExK K mg L c C) : PySem.W.mroIn K C (.type "object") = some true := by
  have h := T.sub (.type "object")
  rw [List.contains_cons, bm_base (by decide), Bool.or_true] at h
  exact h
theorem ExK.hd (T : ExK K mg L c C) : PySem.W.hasDictIn K C = true := by
  obtain ⟨cd, h1, _, h3⟩ := T.cls
  show (PySem.W.clsIn K C).any (·.hasDict) = true
  rw [h1]
  exact h3
theorem ExK.ne (T : ExK K mg L c C) (T' : ExK K mg L c' C') (h : c ≠ c') : C ≠ C' := fun e => by
  obtain ⟨q, N, bs, sn, sub, ab, col, dd, k0, k1, k2, k3, k5, h1⟩ := T.lk
  obtain ⟨q', N', bs', sn', sub', ab', col', dd', k0', k1', k2', k3', k5', h2⟩ := T'.lk
  subst e
  rw [h1] at h2
  have := congrArg (fun o : Option Obj => o.map (fun o => match o.data with | .cls cd => cd.name | _ => c)) h2
  exact h (Option.some.inj this)
theorem bm_ve : ∀ (L : Addr) (c : Str), HandSPX.refsVE (bmOf L c) = true := fun L c => by
  unfold bmOf
  split
  · decide +kernel
  · rfl
/-- the class c is below the class n -/
def isE (c n : Str) : Bool := n = c || n = ("LiftError" : Str) || n = ("ValueError" : Str)
/-- a named class as a value -/
def clE (mg : Str → Option Value) (n : Str) (u : Value) : Prop := (mg n = some u ∧ n ≠ ("ValueError" : Str)) ∨ (n = ("ValueError" : Str) ∧ u = .type "ValueError")
theorem ExK.one (T : ExK K mg L c C) (TL : ExK K mg L "LiftError" L) {n : Str} {u : Value} (hn : clE mg n u) (ho : n ≠ ("ValueError" : Str) → ∃ C', ExK K mg L n C') : PySem.W.kitOne K (.ref C) u = some (isE c n) := by
  have hm : PySem.W.kitMeta "ValueError" = true := by decide +kernel
  rcases hn with ⟨hu, hv⟩ | ⟨hv, rfl⟩
  · obtain ⟨C', T'⟩ := ho hv
    rw [T'.g] at hu
    cases hu
    unfold PySem.W.kitOne
    by_cases hc : n = c
    · subst hc
      have e : C' = C := Value.ref.inj (Option.some.inj (T'.g.symm.trans T.g))
      subst e
      rw [if_pos (by simp)]
      simp [isE]
    · have hne : C ≠ C' := T.ne T' fun z => hc z.symm
      rw [if_neg (by simpa using hne)]
      have h1 : PySem.W.kitCls K (.ref C) (.ref C') = PySem.W.subIn K (.ref C) (.ref C') := by
        obtain ⟨cd, hcd, _⟩ := T'.cls
        show (if ((PySem.W.clsIn K C').isSome && PySem.W.typeIn K (.ref C') == some (.type "type")) = true then _ else none) = _
        rw [hcd, T'.ty]
        rfl
      rw [h1, T.sub]
      congr 1
      unfold isE bmOf
      by_cases hL : n = ("LiftError" : Str)
      · subst hL
        have e : C' = L := Value.ref.inj (Option.some.inj (T'.g.symm.trans TL.g))
        subst e
        rw [if_neg (fun z => hc z.symm)]
        simp
      · have hCL : C' ≠ L := T'.ne TL hL
        split
        · simp [veT, hc, hL, hv, Ne.symm hne]
        · simp [veT, hc, hL, hv, Ne.symm hne, hCL]
  · subst hv
    unfold PySem.W.kitOne
    rw [if_neg (by simp)]
    show (if PySem.W.kitMeta "ValueError" = true then PySem.W.subIn K (.ref C) (.type "ValueError") else none) = _
    rw [if_pos hm, T.sub, List.contains_cons, bm_base (by decide), Bool.or_true]
    simp [isE]
end
end PK
namespace PK
open PySem L2 PySem.Spec PyProof.Rows
/-! ### isinstance of an exception, its value -/
structure ExAll (K : PySem.W.Frag) (mg : Str → Option Value) (L : Addr) (own rs : List Str) : Prop where
  gen : ExG K
  top : ExK K mg L "LiftError" L
  all : ∀ n ∈ own, ∃ C, ExK K mg L n C
  held : ∀ c ∈ rs, ∃ C, ExK K mg L c C ∧ ExH K C
inductive ClsL (mg : Str → Option Value) : List Str → List V → List Value → Prop where
  | nil : ClsL mg [] [] []
  | cons {n : Str} {c : V} {u : Value} {ns : List Str} {cs : List V} {us : List Value} (h1 : ClsV c u) (h2 : clE mg n u) (h3 : ClsL mg ns cs us) : ClsL mg (n :: ns) (c :: cs) (u :: us)
theorem ClsL.vs {mg : Str → Option Value} {ns : List Str} {cs : List V} {us : List Value} (h : ClsL mg ns cs us) : Paired ClsV cs us := by
  induction h with
  | nil => exact .nil
  | cons h1 _ _ ih => exact .cons h1 ih
theorem ClsL.len {mg : Str → Option Value} {ns : List Str} {cs : List V} {us : List Value} (h : ClsL mg ns cs us) : cs.length = ns.length := by
  induction h with
  | nil => rfl
  | cons _ _ _ ih => simp [ih]
section
variable {K : PySem.W.Frag} {mg : Str → Option Value} {L C : Addr} {c : Str} {own rs : List Str}
theorem ExAll.any (A : ExAll K mg L own rs) (T : ExK K mg L c C) {ns : List Str} {cs : List V} {us : List Value} (h : ClsL mg ns cs us) (ho : ∀ n ∈ ns, n ∈ own ∨ n = ("ValueError" : Str)) : PySem.W.kitAny K (.ref C) us = some (ns.any (isE c)) := by
  induction h with
  | nil => rfl
  | @cons n cv u ns cs us h1 h2 h3 ih =>
    have e := T.one A.top h2 fun hv => by
      rcases ho n List.mem_cons_self with z | z
      · exact A.all n z
      · exact absurd z hv
    have ih' := ih fun m hm => ho m (List.mem_cons_of_mem _ hm)
    unfold PySem.W.kitAny
    rw [e]
    cases hb : isE c n with
    | true => simp [hb]
    | false =>
      show PySem.W.kitAny K (.ref C) us = _
      rw [ih']
      simp [hb]
end
def isD (rs : List Str) (ns : List Str) (f : EF) : EF := fun δ => (f δ).bind fun p => match p.1 with
  | .fz (.exc c _) => if c ∈ rs then some (.fz (.bl (ns.any (isE c))), p.2) else none
  | _ => none
def exvD (rs : List Str) (f : EF) : EF := fun δ => (f δ).bind fun p => match p.1 with
  | .fz (.exc c d) => if c ∈ rs then some (.fz d, p.2) else none
  | _ => none
section
variable {X : Cx} {L : Addr} {own rs : List Str} {e : Expr} {f : EF} {pos p1 p2 : Pos} {n : Str} {ns : List Str} {es : List Expr}
/-- an exception that is held, as the library's rules want it -/
theorem exc_at {pins : List (Addr × Obj)} {σ : L2.St} {H : Hp} {s : Shared} {a C dd : Addr} {fs : List (Str × V)} (I : Inv X pins σ H s) (ha : H a = some (exk a C dd)) (hd : H dd = some (.xd fs)) :
    ∃ (oe od : Obj) (mA : Str → Option Value), PySem.W.InstAt s.heap a oe C (some od) ∧ (∀ name, PySem.W.lookIn name od = some (mA name)) ∧ ∀ f, RelO (fs.lookup f) (mA f) := by
  have x : ObjOk X.prog X.w H s.heap a (.ext fun h => ∃ (oe : Obj) (vs : Array Value), h.get? a = some oe ∧ oe.cls = .ref C ∧ oe.dict = some dd ∧ oe.data = .fields vs) := I.hok a _ ha
  obtain ⟨⟨oe, vs, h1, h2, h3, h4⟩, _, _⟩ := x
  have y : ObjOk X.prog X.w H s.heap dd (.xd fs) := I.hok dd _ hd
  obtain ⟨mA, hns, hr⟩ := y
  obtain ⟨od, ho, hl⟩ := lookIn_ns hns
  exact ⟨oe, od, mA, ⟨h1, h2, by unfold PySem.W.notCls; rw [h4] <;> rfl, by rw [h3]; exact ho⟩, hl, hr⟩
theorem exc_kit {a C : Addr} {oe od : Obj} {c : Str} (A : ExAll X.K X.mg L own rs) (T : ExK X.K X.mg L c C) (h : ExH X.K C) : PySem.W.KitX X.K (.ref a) (.ref C) (fun hp => PySem.W.InstAt hp a oe C (some od)) := by
  obtain ⟨cd, h1, _⟩ := T.cls
  exact PySem.W.kitx_exc (by rw [h1]; rfl) h.ga h.gg T.base h.ha A.gen.hn A.gen.ht T.obj
/-- isinstance(e, C), e held -/
def rIsE1 (K : PySem.W.Frag) (mg : Str → Option Value) (L : Addr) (n : Str) : List V → Hp → VK → Prop := fun xs H Q => ∃ (a C dd : Addr) (c : Str) (fs : List (Str × V)) (cv : V) (u : Value), xs = [.ref a, cv] ∧ H a = some (exk a C dd) ∧ H dd = some (.xd fs) ∧ ExK K mg L c C ∧ ExH K C ∧ ClsV cv u ∧ clE mg n u ∧ Q (.bl (isE c n)) H
theorem oc_isE1 (A : ExAll X.K X.mg L own rs) (ho : n ∈ own ∨ n = ("ValueError" : Str)) : CallR X (.builtin "isinstance") (rIsE1 X.K X.mg L n) := by
  intro pins s σ H xs us Q I r h
  obtain ⟨a, C, dd, c, fs, cv, u, rfl, ha, hd, T, hh, kc, hn, q⟩ := h
  obtain ⟨u1, u2, rfl, r1, r2⟩ := vals2 r
  obtain rfl : u1 = Value.ref a := r1
  have e2 := kc.eq r2
  subst e2
  obtain ⟨oe, od, mA, J, _, _⟩ := exc_at I ha hd
  refine PySem.W.kia_one (exc_kit A T hh) I.kIn J (T.one A.top hn fun hv => ?_) (fun z => nomatch z) fun tk => ⟨.bl (isE c n), H, I.tok tk, rfl, q⟩
  rcases ho with z | z
  · exact A.all n z
  · exact absurd z hv
/-- isinstance(e, (C, ..)), the tuple just laid -/
def rIsET (K : PySem.W.Frag) (mg : Str → Option Value) (L : Addr) (ns : List Str) : List V → Hp → VK → Prop := fun xs H Q => ∃ (a C dd tp : Addr) (c : Str) (fs : List (Str × V)) (cs : List V) (us : List Value), xs = [.ref a, .ref tp] ∧ H a = some (exk a C dd) ∧ H dd = some (.xd fs) ∧ ExK K mg L c C ∧ ExH K C ∧
  H tp = some (.tup cs) ∧ ClsL mg ns cs us ∧ Q (.bl (ns.any (isE c))) H
theorem oc_isET (A : ExAll X.K X.mg L own rs) (ho : ∀ n ∈ ns, n ∈ own ∨ n = ("ValueError" : Str)) : CallR X (.builtin "isinstance") (rIsET X.K X.mg L ns) := by
  intro pins s σ H xs us Q I r h
  obtain ⟨a, C, dd, tp, c, fs, cs, ws, rfl, ha, hd, T, hh, hT, kc, q⟩ := h
  obtain ⟨u1, u2, rfl, r1, r2⟩ := vals2 r
  obtain rfl : u1 = Value.ref a := r1
  obtain rfl : u2 = Value.ref tp := r2
  obtain ⟨oe, od, mA, J, _, _⟩ := exc_at I ha hd
  have z : ObjOk X.prog X.w H s.heap tp (.tup cs) := I.hok tp _ hT
  obtain ⟨_, its, rv, o, h1, h2, m, h3⟩ := z
  have e3 := ClsV.all kc.vs rv
  subst e3
  obtain ⟨oc, od', dt, sl⟩ := o
  simp only at h2 h3
  subst h2 h3
  exact PySem.W.kia_tup (exc_kit A T hh) I.kIn J h1 (A.any T kc ho) (fun z => nomatch z) fun tk => ⟨.bl (ns.any (isE c)), H, I.tok tk, rfl, q⟩
def tCn (mg : Str → Option Value) (n : Str) : TE := fun σ H Q => ∀ cv u, ClsV cv u → clE mg n u → Q cv H
def tCns (mg : Str → Option Value) (ns : List Str) : TA := fun σ H Q => ∀ cs us, ClsL mg ns cs us → Q cs H
theorem pcn_own {C : Addr} (hg : Gl X n) (hm : X.mg n = some (.ref C)) (hv : n ≠ ("ValueError" : Str) := by decide) (hdb : (n == ("__debug__" : Str)) = false := by decide) : PE X (.Name n p1) (tCn X.mg n) :=
  PE.weak (pe_glob (v := .ref C) hg hm rfl hdb) fun σ H Q h => h _ _ (.own C) (.inl ⟨hm, hv⟩)
theorem pcn_ve (hg : Gl X "ValueError") (hm : X.mg "ValueError" = none) : PE X (.Name "ValueError" p1) (tCn X.mg "ValueError") :=
  PE.weak (pe_bltn (v := .ty "ValueError") hg hm PyProof.Rows.Boot.«ValueError» rfl (by decide) (by decide)) fun σ H Q h => h _ _ (.ty "ValueError") (.inr ⟨rfl, rfl⟩)
theorem pcs_nil : PA X [] (tCns X.mg []) := PA.weak pa_nil fun σ H Q h => h [] [] .nil
theorem pcs_cons (h1 : PE X e (tCn X.mg n)) (h2 : PA X es (tCns X.mg ns)) (hs : starEach (e :: es) X.env = (false, eval e X.env) :: starEach es X.env := by rfl) : PA X (e :: es) (tCns X.mg (n :: ns)) :=
  PA.weak (pa_cons h1 h2 hs) fun σ H Q h => fun cv u k1 k2 => fun cs us k3 => h _ _ (.cons k1 k2 k3)
theorem isD_ex {rs ns : List Str} {f : EF} {δ δ' : Dl} {r : Vl} (e : isD rs ns f δ = some (r, δ')) : ∃ c d, f δ = some (.fz (.exc c d), δ') ∧ c ∈ rs ∧ r = .fz (.bl (ns.any (isE c))) := by
  unfold isD at e
  obtain ⟨⟨x, δ1⟩, e1, e⟩ := Option.bind_eq_some_iff.mp e
  split at e
  · rename_i c d hx
    have hx' : x = .fz (.exc c d) := hx
    subst hx'
    split at e
    · rename_i hc
      cases e
      exact ⟨c, d, e1, hc, rfl⟩
    · cases e
  · cases e
theorem pd_isE1 (A : ExAll X.K X.mg L own rs) (ho : n ∈ own ∨ n = ("ValueError" : Str)) (hg : Gl X "isinstance") (hm : X.mg "isinstance" = none) (he : PD X e f) (hn : PE X (.Name n p1) (tCn X.mg n))
    (hs : starEach [e, .Name n p1] X.env = (false, eval e X.env) :: starEach [.Name n p1] X.env := by rfl) (hs2 : starEach [.Name n p1] X.env = (false, eval (.Name n p1) X.env) :: starEach [] X.env := by rfl)
    (hpl : (backTo pos (starEach [.Name n p1] X.env)).any (·.1) = false := by rfl) : PD X (.Call (.Name "isinstance" p2) [e, .Name n p1] [] pos) (isD rs [n] f) :=
  PE.weak (pe_callB (oc_isE1 A ho) hg hm (by decide +kernel) (pa_cons he (pa_cons hn pa_nil hs2) hs) (by decide) (by decide) hs hpl) fun σ H Q h => by
    obtain ⟨B, F, ad, δ, r, δ', S, e1, k⟩ := h
    obtain ⟨c, d, e2, hc, rfl⟩ := isD_ex e1
    refine ⟨B, F, ad, δ, _, δ', S, e2, fun B1 ad1 v H1 s1 p1 S1 r1 => ?_⟩
    intro cv u k1 k2
    obtain ⟨a, C, dd, w, h1, h2, h3, h4, h5⟩ := r1
    subst h1
    obtain ⟨C', T, hh⟩ := A.held c hc
    have eC : C' = C := Value.ref.inj (Option.some.inj (T.g.symm.trans h2))
    subst eC
    refine ⟨a, C', dd, c, _, cv, u, rfl, S1.exB _ _ h3, S1.exB _ _ h4, T, hh, k1, k2, ?_⟩
    have := k B1 ad1 (.bl ([n].any (isE c))) H1 s1 p1 S1 rfl
    simpa using this
theorem pd_isET {kt : Nat} {pt : Pos} (A : ExAll X.K X.mg L own rs) (ho : ∀ n ∈ ns, n ∈ own ∨ n = ("ValueError" : Str)) (hl : ns.length ≤ small) (hg : Gl X "isinstance") (hm : X.mg "isinstance" = none) (he : PD X e f) (hn : PA X es (tCns X.mg ns))
    (hs : starEach [e, .Tuple es kt pt] X.env = (false, eval e X.env) :: starEach [.Tuple es kt pt] X.env := by rfl) (hs2 : starEach [.Tuple es kt pt] X.env = (false, eval (.Tuple es kt pt) X.env) :: starEach [] X.env := by rfl)
    (hpl : (backTo pos (starEach [.Tuple es kt pt] X.env)).any (·.1) = false := by rfl) : PD X (.Call (.Name "isinstance" p2) [e, .Tuple es kt pt] [] pos) (isD rs ns f) :=
  PE.weak (pe_callB (oc_isET A ho) hg hm (by decide +kernel) (pa_cons he (pa_cons (pe_tup hn) pa_nil hs2) hs) (by decide) (by decide) hs hpl) fun σ H Q h => by
    obtain ⟨B, F, ad, δ, r, δ', S, e1, k⟩ := h
    obtain ⟨c, d, e2, hc, rfl⟩ := isD_ex e1
    refine ⟨B, F, ad, δ, _, δ', S, e2, fun B1 ad1 v H1 s1 p1 S1 r1 => ?_⟩
    intro cs us k1
    refine ⟨by rw [k1.len]; exact small_sz hl, fun tp htp => ?_⟩
    obtain ⟨a, C, dd, w, h1, h2, h3, h4, h5⟩ := r1
    subst h1
    obtain ⟨C', T, hh⟩ := A.held c hc
    have eC : C' = C := Value.ref.inj (Option.some.inj (T.g.symm.trans h2))
    subst eC
    have S2 := S1.alloc (o := .tup cs) htp
    have s2 : Same B1 (upd B1 tp (.tup cs)) := same_new (S1.exB.free htp)
    exact ⟨a, C', dd, tp, c, _, cs, us, rfl, S2.exB _ _ (s2 _ _ h3), S2.exB _ _ (s2 _ _ h4), T, hh, upd_same, k1, k _ ad1 _ _ (s1.trans s2) p1 S2 rfl⟩
/-- e.value -/
theorem pd_exv (A : ExAll X.K X.mg L own rs) (he : PD X e f) (hb : attributeBase e "value" X.env (eval e X.env) = eval e X.env := by rfl) : PD X (.Attribute e "value" pos) (exvD rs f) := ⟨fun pins s σ H Q I hh => by
  obtain ⟨B, F, ad, δ, r, δ', S, e1, k⟩ := hh
  unfold exvD at e1
  obtain ⟨⟨x, δ1⟩, e2, e3⟩ := Option.bind_eq_some_iff.mp e1
  refine attr_of hb (thn (he.run pins s σ H (fun v H1 => ∃ (a C dd : Addr) (w : V) (c : Str), v = .ref a ∧ ExK X.K X.mg L c C ∧ ExH X.K C ∧ H1 a = some (exk a C dd) ∧ H1 dd = some (.xd [(("value" : Str), w)]) ∧ Q w H1) I ⟨B, F, ad, δ, x, δ1, S, e2, fun B1 ad1 v H1 s1 p1 S1 r1 => ?_⟩) fun u s1 hv => ?_)
  · split at e3
    · rename_i c d hx0
      have hx' : x = .fz (.exc c d) := hx0
      subst hx'
      split at e3
      · rename_i hc
        cases e3
        obtain ⟨a, C, dd, w, h1, h2, h3, h4, h5⟩ := r1
        obtain ⟨C', T, hx⟩ := A.held c hc
        have eC : C' = C := Value.ref.inj (Option.some.inj (T.g.symm.trans h2))
        subst eC
        exact ⟨a, C', dd, w, c, h1, T, hx, S1.exB _ _ h3, S1.exB _ _ h4, k B1 ad1 w H1 s1 p1 S1 h5⟩
      · cases e3
    · cases e3
  · obtain ⟨v, H1, I1, rv, a, C, dd, w, c, hva, T, hx, ha, hd, q⟩ := hv
    subst hva
    obtain rfl : u = Value.ref a := rv
    obtain ⟨oe, od, mA, J, hl, hr⟩ := exc_at I1 ha hd
    have l : List.lookup ("value" : Str) [(("value" : Str), w)] = some w := by simp [List.lookup]
    obtain ⟨u, hu, ru⟩ := RelO.some_of (v := w) (o := mA "value") (by rw [← l]; exact hr "value")
    exact HandSPX.exc_get I1.kIn J hx.ga hx.gg T.base (PySem.W.findObj_own T.hd hx.noN rfl (by rw [hl, hu])) (handed_of ru) ⟨w, H1, I1.tok _, ru, q⟩⟩
end
end PK
namespace PK
open PySem L2 PySem.Spec PyProof.Rows
/-! ### try: .. except C as n: .., the exception known to all rules -/
section
variable {X : Cx} {pins : List (Addr × Obj)} {σ : L2.St} {H : Hp} {s : Shared}
theorem exk_ok {P : Program} {w : World} {H : Hp} {h : Heap} {a C dd : Addr} {oe : Obj} {vs : Array Value} (h1 : h.get? a = some oe) (h2 : oe.cls = .ref C) (h3 : oe.dict = some dd) (h4 : oe.data = .fields vs) : ObjOk P w H h a (exk a C dd) :=
  ⟨⟨oe, vs, h1, h2, h3, h4⟩, ⟨oe, h1⟩, fun _ _ ⟨o, v, q1, q2⟩ k => ⟨o, v, k o q1, q2⟩⟩
theorem inv_hold {a C dd : Addr} {oe : Obj} {vs : Array Value} (I : Inv X pins σ H s) (h1 : s.heap.get? a = some oe) (h2 : oe.cls = .ref C) (h3 : oe.dict = some dd) (h4 : oe.data = .fields vs) (na : H a = none) (nL : a ≠ X.env.locals) (n0 : X.s_0.heap.get? a = none)
    (np : ∀ p ∈ X.pn ++ pins, p.1 ≠ a) : Inv (X.suite a (X.pn ++ pins)) [] σ (upd H a (exk a C dd)) s := by
  refine ⟨I.ok.suite _ _, I.os, I.bare, ⟨I.base.keep, I.base.slot, fun b o e n hb => ?_, I.base.there, fun b xs e => ?_, fun b o u e => ?_, fun b ps e => ?_⟩, I.loc, I.cell, ?_, fun y c e => ?_, fun p hp => ?_, fun b ob e => ?_, I.len⟩
  · rw [upd_ne (fun z => by rw [z, n0] at e; cases e)]
    exact I.base.free b o e n hb
  · have q := I.base.tups b xs e
    rw [upd_ne (ne_of_none q na)]; exact q
  · have q := I.base.frzs b o u e
    rw [upd_ne (ne_of_none q na)]; exact q
  · obtain ⟨m, q⟩ := I.base.tbls b ps e
    exact ⟨m, by rw [upd_ne (ne_of_none q na)]; exact q⟩
  · show upd H a (exk a C dd) X.env.locals = none
    rw [upd_ne (Ne.symm nL)]; exact I.free
  · have hc : c ≠ a := fun z => by
      obtain ⟨v, ob, e1, e2⟩ := I.cell y c e
      rw [z, h1] at e1
      cases e1
      rw [h4] at e2
      cases e2
    rw [upd_ne hc]; exact I.freeC y c e
  · have hp' : p ∈ X.pn ++ pins := by rw [List.append_nil] at hp; exact hp
    obtain ⟨q1, q2, q3, q4, q5⟩ := I.pin p hp'
    exact ⟨q1, by rw [upd_ne (np p hp')]; exact q2, q3, q4, q5⟩
  · by_cases hb : b = a
    · subst hb
      rw [upd_same] at e
      cases e
      exact exk_ok h1 h2 h3 h4
    · rw [upd_ne hb] at e
      exact (I.hok b ob e).stay (fun _ _ _ q => q) (fun c q => by rw [upd_ne (ne_of_none q na)]; exact q) fun c xs q => by rw [upd_ne (ne_of_none q na)]; exact q
theorem inv_freed {a : Addr} (I : Inv (X.suite a (X.pn ++ pins)) [] σ H s) (ok : X.Ok) : Inv X pins σ H s :=
  ⟨ok, I.os, I.bare, I.base, I.loc, I.cell, I.free, I.freeC, fun p hp => I.pin p (List.mem_append_left _ hp), I.hok, I.len⟩
end
/-- the clause's wish of an exception of the body -/
def wHold (K : PySem.W.Frag) (c : Value) (i : Nat) (ts : TS) (D : Ends) : WX := fun cls d σ H => PySem.W.exmOne K cls c = some true ∧ ∃ C dd, cls = .ref C ∧ d = some dd ∧
  ∀ a, H a = none → ts { nx := fun σ' H' => D.nx (σ'.set i none) H', rt := D.rt, bk := fun σ' H' => D.bk (σ'.set i none) H', ct := fun σ' H' => D.ct (σ'.set i none) H' } (σ.set i (some (.ref a))) (upd H a (exk a C dd))
section
variable {X : Cx} {x n : Str} {c : Value} {i : Nat} {body suite : List Stmt} {b₀ : Stmt} {np pos pos' : Pos} {tb : WX → TS} {ts : TS}
theorem ps_tryHold (hs : X.stack = X.env :: X.outer) (hf : X.env.frame = some X.env.locals) (hex : X.ex = []) (hN : X.N.Nodup) (hi : X.N[i]? = some n) (hln : X.env.kindOf n = some .local) (hc : Names X x c)
    (hb : ∀ (W : WX) (pn : List (Addr × Obj)) (xe : Value → Shared → Prop), Takes (X.tr pn xe) W → PSs (X.tr pn xe) body (tb W))
    (hsu : ∀ (a : Addr) (pn : List (Addr × Obj)), PSs (X.suite a pn) (b₀ :: suite) ts) :
    PS X (.Try body [.ExceptHandler (some (.Name x np)) (some n) (b₀ :: suite) pos'] [] [] pos) (fun D σ H => tb (wHold X.K c i ts D) D σ H) := by
  refine ⟨fun pins s σ H D I h => wpAny_Try_except ?_⟩
  have ok := I.ok
  have hfr : X.A.frames = some (X.env :: X.outer) := ok.frames.trans (congrArg some hs)
  let hd : List ExceptHandler := [.ExceptHandler (some (.Name x np)) (some n) (b₀ :: suite) pos']
  let xe : Value → Shared → Prop := fun e t1 => wpAny (model X.prog X.w) X.A (noteFrame e X.env) (fun _ t2 => wpAny (model X.prog X.w) X.A (setFlight e none) (fun _ t3 => wpAny (model X.prog X.w) X.A (handleBy e X.env hd) (SP X pins D) X.xe t3) X.xe t2) X.xe t1
  have tk : Takes (X.tr (X.pn ++ pins) xe) (wHold X.K c i ts D) := by
    rintro u t ⟨a, B, sI, pins', σ', H', cls, d, rfl, J', nb, up, sky, na, os, ag, hm, C, dd, hcls, hdd, hw⟩
    have J : Inv X pins σ' H' sI := J'.ofTry ok
    have fresh : ∀ {o : Obj}, a ∉ frs X.stack → sI.heap.get? a = some o → B.get? a = none → False := fun {o} q e z => by
      have y := nb a o e q
      rw [z] at y
      cases y
    show wpAny (model X.prog X.w) X.A (noteFrame (.ref a) X.env) _ X.xe t
    refine Sky.land (env := X.env) (outer := X.outer) Zc.steady hfr hf (by rw [← hs]; exact sky) fun h3 fl3 up3 => ?_
    have J3 : Inv X pins σ' H' { t with heap := h3 } := J.landed nb fl3.1 (up.trans up3) os ag
    obtain ⟨oe3, vs3, he3, hz3, hd3⟩ := fl3.there
    have out : a ∉ frs (X.env :: X.outer) := fun hm => by
      obtain ⟨_, o', e', hnf⟩ := fl3.2.2.1.mem hm
      rw [he3] at e'
      cases e'
      exact hnf _ hd3
    have out' : a ∉ frs X.stack := by rw [hs]; exact out
    have hB : B.get? a = none := fl3.2.1
    have nL : a ≠ X.env.locals := fun z => out (List.mem_filterMap.mpr ⟨X.env, List.mem_cons_self, by rw [hf, z]⟩)
    have n0 : X.s_0.heap.get? a = none := by
      cases e : X.s_0.heap.get? a with
      | none => rfl
      | some o =>
        obtain ⟨o', e'⟩ := J.base.there a o e (by rw [hex]; exact fun z => nomatch z)
        exact (fresh out' e' hB).elim
    have npn : ∀ p ∈ X.pn ++ pins, p.1 ≠ a := fun p hp z => by
      obtain ⟨q1, _⟩ := J.pin p hp
      rw [z] at q1
      exact fresh out' q1 hB
    refine wpAny_handleBy_cons (codeAny_handlers_test ?_) (by intro q; cases q)
    have LT : PySem.W.Looks (model X.prog X.w) h3 (typeOf (.ref a)) cls := fun A Q E t k q => wpAny_typeOf_ref (k _ _ he3) (by rw [hz3.1]; exact q)
    have look : ∀ {Q : Value → Shared → Prop} {E : Value → Shared → Prop}, Q c { t with heap := h3 } → wpAny (model X.prog X.w) (X.A.mark (some (.ref a))) (eval (.Name x np) X.env) Q E { t with heap := h3 } := fun {Q E} q => by
      have T3 := inv_hold J3 he3 (hz3.1.trans hcls) (hz3.2.trans hdd) hd3 na nL n0 npn
      obtain ⟨hg, hdbg, hmm | ⟨hmm, hv, hnn⟩⟩ := hc
      · exact ld_glob (X := X.suite a (X.pn ++ pins)) T3 hg hmm q hdbg
      · exact ld_blt (X := X.suite a (X.pn ++ pins)) T3 hg hmm hv q hnn hdbg
    refine look ((PySem.W.exm_one J3.kIn LT hm).here (codeAny_handlers_suite_as ?_))
    refine HandSPX.lands_againZ fl3 fun h4 fl4 up4 => ?_
    have J4 : Inv X pins σ' H' { t with heap := h4 } := J.landed nb fl4.1 ((up.trans up3).trans up4) os ag
    obtain ⟨oe4, vs4, he4, hz4, hd4⟩ := fl4.there
    have T4 := inv_hold J4 he4 (hz4.1.trans hcls) (hz4.2.trans hdd) hd4 na nL n0 npn
    refine store_ok (X := X.suite a (X.pn ++ pins)) (v := .ref a) T4 hN hi (.inl hln) rfl (fun s5 T5 => ?_) (.inr hln)
    refine wpAny_mono ((hsu a (X.pn ++ pins)).run [] s5 _ _ _ T5 (hw a na)) (fun f s6 hsp => ?_) fun _ _ z => False.elim z
    have last : ∀ {σ6 : L2.St} {H6 : Hp} {Q : Shared → Prop}, Inv (X.suite a (X.pn ++ pins)) [] σ6 H6 s6 → (∀ s7, Inv X pins (σ6.set i none) H6 s7 → Q s7) →
        wpAny (model X.prog X.w) X.A (do bindName X.env n .none; unbindBehindTheSuite X.env n pos') (fun _ s7 => Q s7) X.xe s6 := fun {σ6 H6 Q} S6 hq => gone_ok (inv_freed S6 ok) hN hi hln hq
    cases f with
    | next =>
      obtain ⟨σ6, H6, S6, q6⟩ := hsp
      exact last S6 fun s7 J7 => ⟨_, _, J7, q6⟩
    | brk =>
      obtain ⟨σ6, H6, S6, q6⟩ := hsp
      exact last S6 fun s7 J7 => ⟨_, _, J7, q6⟩
    | cont =>
      obtain ⟨σ6, H6, S6, q6⟩ := hsp
      exact last S6 fun s7 J7 => ⟨_, _, J7, q6⟩
    | ret u =>
      obtain ⟨v6, σ6, H6, S6, r6, q6⟩ := hsp
      exact last S6 fun s7 J7 => ⟨_, _, _, J7, r6, q6⟩
  refine wpAny_mono ((hb (wHold X.K c i ts D) (X.pn ++ pins) xe tk).run [] s σ H D (I.toTry _) h) (fun f s1 hsp => ?_) fun e s1 he => he
  cases f with
  | next =>
    obtain ⟨σ', H', J', q⟩ := hsp
    exact wpAny_execs_nil ⟨σ', H', J'.ofTry ok, q⟩
  | brk =>
    obtain ⟨σ', H', J', q⟩ := hsp
    exact ⟨σ', H', J'.ofTry ok, q⟩
  | cont =>
    obtain ⟨σ', H', J', q⟩ := hsp
    exact ⟨σ', H', J'.ofTry ok, q⟩
  | ret u =>
    obtain ⟨v, σ', H', J', r, q⟩ := hsp
    exact ⟨v, σ', H', J'.ofTry ok, r, q⟩
end
/-- try: body except C as n (at slot i): suite -/
def sTry (i : Nat) (cs : List Str) (fb : XF) (fs : SF) : SF := fun δ => (fb δ).bind fun p => match p.1 with
  | .ok fl => some (fl, p.2)
  | .ex c d => if c ∈ cs then (fs { p.2 with sl := p.2.sl.set i (some (.fz (.exc c d))) }).map fun q => (q.1, match q.1 with
      | .rt _ => q.2
      | _ => { q.2 with sl := q.2.sl.set i none }) else none
section
variable {X : Cx} {x n : Str} {C : Addr} {i : Nat} {body suite : List Stmt} {b₀ : Stmt} {np pos pos' : Pos} {fb : XF} {fs : SF} {cs : List Str}
theorem pds_try (hs : X.stack = X.env :: X.outer) (hf : X.env.frame = some X.env.locals) (hex : X.ex = []) (hN : X.N.Nodup) (hi : X.N[i]? = some n) (hln : X.env.kindOf n = some .local) (hg : Gl X x) (hm : X.mg x = some (.ref C)) (hdb : (x == ("__debug__" : Str)) = false)
    (hcs : ∀ c ∈ cs, ∀ C', X.mg c = some (.ref C') → PySem.W.exmOne X.K (.ref C') (.ref C) = some true)
    (hb : ∀ (W : WX) (pn : List (Addr × Obj)) (xe : Value → Shared → Prop), Takes (X.tr pn xe) W → PXSs (X.tr pn xe) W body fb)
    (hsu : ∀ (a : Addr) (pn : List (Addr × Obj)), PDSs (X.suite a pn) (b₀ :: suite) fs) :
    PDS X (.Try body [.ExceptHandler (some (.Name x np)) (some n) (b₀ :: suite) pos'] [] [] pos) (sTry i cs fb fs) :=
  PS.weak (ps_tryHold (tb := fun W => xD X.K X.mg W fb) (ts := sD X.K X.mg fs) hs hf hex hN hi hln ⟨hg, hdb, .inl hm⟩ hb hsu) fun D σ H hh => by
    obtain ⟨B, F, ad, δ, r, δ', S, e, k⟩ := hh
    unfold sTry at e
    obtain ⟨⟨fx, δ1⟩, e1, e⟩ := Option.bind_eq_some_iff.mp e
    refine ⟨B, F, ad, δ, fx, δ1, S, e1, fun B1 ad1 σ1 H1 s1 p1 S1 => ?_⟩
    cases fx with
    | ok fl =>
      cases e
      exact k B1 ad1 σ1 H1 s1 p1 S1
    | ex c d =>
      intro cls dd fly
      obtain ⟨C', a1, w, rfl, rfl, hC', h4, h5⟩ := fly
      simp only at e
      split at e
      · rename_i hc
        obtain ⟨⟨fl, δ2⟩, e2, e3⟩ := Option.map_eq_some_iff.mp e
        refine ⟨hcs c hc C' hC', C', a1, rfl, rfl, fun a na => ?_⟩
        have S2 := S1.alloc (o := exk a C' a1) na
        have s2 : Same B1 (upd B1 a (exk a C' a1)) := same_new (S1.exB.free na)
        have S3 := S2.setS (i := i) (d := .fz (.exc c d)) (v := .ref a) ⟨a, C', a1, w, rfl, hC', upd_same, s2 _ _ h4, Rp.mono s2 _ _ h5⟩
        refine ⟨_, F, ad1, _, fl, δ2, S3, e2, fun B4 ad4 σ4 H4 s4 p4 S4 => ?_⟩
        have sA := (s1.trans s2).trans s4
        have pA := p1.trans p4
        cases fl with
        | nx =>
          cases e3
          exact k B4 ad4 _ H4 sA pA (S4.dropS (i := i) (x := none))
        | bk =>
          cases e3
          exact k B4 ad4 _ H4 sA pA (S4.dropS (i := i) (x := none))
        | ct =>
          cases e3
          exact k B4 ad4 _ H4 sA pA (S4.dropS (i := i) (x := none))
        | rt v =>
          cases e3
          exact k B4 ad4 _ H4 sA pA S4
      · cases e
end
/-! ### defs called where an exception is handled; they raise nothing -/
structure RmQ (k : Nat) (A : Around) : Prop where
  dp : A.depth + 3 * k + 5 < recursionLimit
  un : A.units + 16 * k + 200 < cLine
theorem RmQ.mono {j k : Nat} {A : Around} (r : RmQ k A) (h : j ≤ k) : RmQ j A := ⟨by have := r.dp; omega, by have := r.un; omega⟩
theorem RmQ.units {k : Nat} {A : Around} (r : RmQ k A) : A.units + 64 < cLine := by have := r.un; omega
theorem rmq_of {k : Nat} {A : Around} (r : Room k A) (h : Option Value) : RmQ k (A.mark h) := ⟨r.dp, r.un⟩
/-- the context of such a def's body -/
def cxQ (P : Program) (w : World) (K : PySem.W.Frag) (mg : Str → Option Value) (base : Heap) (N : List Str) (qual : Str) (scope : Scope) (f : Addr) (cd : Value) (A : Around) (outer : List Env) (s : Shared) (H : Hp) : Cx :=
  { cxOf CX0 P w K mg base N qual scope f cd A outer s H E0 with calm := false, xe := fun _ _ => False }
structure FnQ (P : Program) (w : World) (K : PySem.W.Frag) (mg : Str → Option Value) (base : Heap) (k : Nat) (f : Addr) (fd : FuncData) (ps : List Str) (sp : Sp) : Prop where
  len : ∀ vs H Q E, sp vs H Q E → vs.length = ps.length
  run : ∀ (A : Around) (outer : List Env) (s : Shared) (H : Hp) (args : Args) (us : List Value) (vs : List V) (Q : VK), RmQ k A → Env0 P w K mg base A outer s H → BindsTo s fd args (ps.zip us) → Vals vs us → sp vs H Q E0 →
    codeAny (model P w) A (.call (.ref f) args) (CR CX0 outer P w H s Q E0) s
section
variable {P : Program} {w : World} {K : PySem.W.Frag} {mg : Str → Option Value} {base : Heap}
theorem fn_okQ {x qual : Str} {st : Stmt} {f : Addr} {fd : FuncData} {N ps : List Str} {k : Nat} {fs : SF} (F : Fun K x qual st f fd) (S : FnScope N ps (defScope st))
    (hbody : ∀ (cdv : Value) (A : Around) (outer : List Env) (s : Shared) (H : Hp), RmQ k (A.deeper (envOfC qual (defScope st) s.heap.objs.size f cdv)) → PDSs (cxQ P w K mg base N qual (defScope st) f cdv A outer s H) (defBody st) fs) :
    FnQ P w K mg base (k + 1) f fd ps (spD K mg ps.length (fnD N.length fs)) := by
  obtain ⟨oc, od, kV, doc, pm, an, cdv, ct, osl, rfl, lk, hcd⟩ := F.ex
  refine ⟨fun vs H Q E h => h.1, fun A outer s H args us vs Q hr e0 hb r hsp => ?_⟩
  have hl : vs.length = ps.length := hsp.1
  have KX : K.In s.heap := e0.mod.kin.keeps fun b o e => (e0.bs b o e).1
  have lim : s.heap.NoLimit := e0.mod.nolimit.keeps fun b o e => (e0.bs b o e).1
  have hkd : ∀ y ∈ ps.zip us, (defScope st).names.lookup y.1 = some .local ∨ ((defScope st).names.lookup y.1 = some .cell ∧ ((cellsFrom (s.heap.objs.size + 1) (defScope st).names []).lookup y.1).isSome = true) := fun ⟨m, v⟩ hy => by
    rcases S.par m (List.of_mem_zip hy).1 with q | q
    · exact .inl q
    · exact .inr ⟨q, PySem.W.cellsFrom_some _ _ _ (.inl q)⟩
  have hdep : A.depth < recursionLimit := by have := hr.dp; omega
  refine codeAny_call_function hdep (KX _ _ lk) rfl S.co S.gen rfl (PySem.W.codeRec_of KX hcd) (hb _ _ _ _ (wpAny_newFunctionEnv_cells S.kind hkd fun env he s1 x => ?_))
  subst he
  refine ⟨lim.keeps x.toInCall.keep, codeAny_func ?_⟩
  have hrd : RmQ k (A.deeper (envOfC qual (defScope st) s.heap.objs.size f cdv)) := ⟨by have := hr.dp; show A.depth + 1 + 3 * k + 5 < _; omega, by have := hr.un; show A.units + 3 + 16 * k + 200 < _; omega⟩
  have e00 : Env0 P w K mg base { A with handled := none } outer s H := ⟨e0.frames, e0.mod, e0.bs, e0.bsz, e0.funs, e0.frf, e0.hok, e0.bare⟩
  have I0 := inv_start (CX := CX0) (E := E0) (A := { A with handled := none }) S rfl e00 hl r x
  have I : Inv (cxQ P w K mg base N qual (defScope st) f cdv A outer s H) [] (start N vs) H s1 :=
    ⟨⟨I0.ok.mod, I0.ok.kind, I0.ok.glob, I0.ok.blt, I0.ok.above, I0.ok.inj, I0.ok.has, I0.ok.cab, (fun z => Bool.noConfusion (show false = true from z)), I0.ok.frames, I0.ok.stk, I0.ok.exf, I0.ok.bs, I0.ok.bsz, I0.ok.noex, I0.ok.exfs, I0.ok.funs, I0.ok.frf⟩,
      I0.os, I0.bare, I0.base, I0.loc, I0.cell, I0.free, I0.freeC, I0.pin, I0.hok, I0.len⟩
  have ht := hbody cdv A outer s H hrd
  have hq : sD K mg fs { nx := fun _ H' => Q .non H', rt := Q } (start N vs) H := by
    obtain ⟨hlen, B, Fr, ad, rs, cs, r, cs', S0, rv, e, hl, kk⟩ := hsp
    unfold fnD at e
    obtain ⟨⟨fl, δ'⟩, e1, e⟩ := Option.bind_eq_some_iff.mp e
    obtain ⟨cs2, e2, e⟩ := Option.bind_eq_some_iff.mp e
    have S1 : SRep K mg B Fr ad (start N vs) ⟨rs.map some ++ List.replicate (N.length - rs.length) none, cs.map some⟩ H := rps_start (δ := ⟨[], cs.map some⟩) S0 rv
    have hadl : ad.length = cs.length := by
      have := S0.len
      simpa using this
    refine ⟨B, Fr, ad, _, fl, δ', S1, e1, fun B' ad' σ' H' sB pA S' => ?_⟩
    obtain ⟨m, rfl⟩ := pA
    have base : SRep K mg B' Fr ad [] ⟨[], cs2.map some⟩ H' := by
      have := S'.pick e2 List.nodup_range
      rw [← hadl, addrs_range] at this
      exact this
    cases fl with
    | nx =>
      cases e
      exact kk B' .non H' sB ⟨base, rfl⟩
    | bk => cases e
    | ct => cases e
    | rt v =>
      intro u hu
      cases v with
      | nl _ => first | (cases e; done) | (cases e3; done) | (cases e4; done) | (cases h; done) | (cases e2; done) | (simp at e; done)
      | fz d =>
        cases e
        exact kk B' u H' sB ⟨base, hu⟩
      | rf j =>
        simp only at e
        split at e
        · rename_i hj
          split at e
          · rename_i es hes
            cases e
            obtain ⟨a, rfl, ha⟩ := hu
            refine kk B' _ H' sB ⟨a, rfl, ?_⟩
            have hnd : (List.range cs.length ++ [j]).Nodup := by
              rw [List.nodup_append]
              refine ⟨List.nodup_range, by simp, fun x hx y hy => ?_⟩
              have hy' : y = j := by simpa using hy
              have hx' : x < cs.length := by simpa using hx
              omega
            have := S'.pick (lives_app e2 hes) hnd
            rw [addrs_app _ _ _ _ ha, ← hadl, addrs_range] at this
            exact this
          · cases e
        · cases e
  refine wpAny_mono (ht.run [] s1 (start N vs) H _ I hq) (fun fl s' hs => ?_) fun e s' hs => hs.elim
  have fin : ∀ {σ' : L2.St} {H' : Hp} {v : V} {u : Value}, Inv (cxQ P w K mg base N qual (defScope st) f cdv A outer s H) [] σ' H' s' → RelV v u → Q v H' → CE outer P w H s Q u s' :=
    fun {σ' H' v u} J rv q => ⟨v, H', J.os, J.bare, J.base, J.hok, rv, q⟩
  cases fl with
  | ret u =>
    obtain ⟨v, σ', H', J, rv, q⟩ := hs
    exact fin J rv q
  | next =>
    obtain ⟨σ', H', J, q⟩ := hs
    exact fin (v := V.non) (u := Value.none) J rfl q
  | brk =>
    obtain ⟨_, _, _, q⟩ := hs
    exact q.elim
  | cont =>
    obtain ⟨_, _, _, q⟩ := hs
    exact q.elim
end
section
variable {X : Cx} {x : Str} {p pos : Pos} {e : Expr} {es : List Expr} {fa : AF} {k n : Nat} {f : Addr} {fd : FuncData} {ps : List Str} {G : GF}
theorem pe_callQ {sp : Sp} {t : TA} (Fk : FnQ X.prog X.w X.K X.mg X.base k f fd ps sp) (hr : RmQ k X.A) (hg : Gl X x) (hm : X.mg x = some (.ref f)) (hk : PySem.W.keepIn X.K (.ref f) = true) (hb : Binds X.K fd ps []) (ha : PA X (e :: es) t)
    (hdb : (x == ("__debug__" : Str)) = false) (he : starEach (e :: es) X.env = (false, eval e X.env) :: starEach es X.env) (hpl : (backTo pos (starEach es X.env)).any (·.1) = false) :
    PE X (.Call (.Name x p) (e :: es) [] pos) (fun σ H Q => t σ H fun vs H1 => sp vs H1 Q E0) := ⟨fun pins s σ H Q I h => by
  refine wpAny_Call_Name_kw (ld_glob I hg hm ?_ hdb)
  refine PySem.W.callWith_K (h₀ := X.base) I.ok.mod.kin hk (thn (ha.run pos pins s σ H _ I h) fun us s1 hv => ?_) he hpl
  obtain ⟨vs, H1, I1, r, q⟩ := hv
  refine ⟨I1.kIn, ?_⟩
  have hl : us.length = ps.length := r.length.symm.trans (Fk.len _ _ _ _ q)
  have b := hb s1 us I1.kIn (by rw [List.append_nil]; exact hl)
  rw [List.append_nil] at b
  refine wpAny_call (codeAny_mono (Fk.run X.A X.stack s1 H1 ⟨us, []⟩ us vs Q hr I1.env0 b r q) fun rr s' hq => ?_)
  cases rr with
  | error u => exact hq.elim
  | ok fl =>
    cases fl with
    | ret u => exact I1.after hq
    | next => exact hq.elim
    | brk => exact hq.elim
    | cont => exact hq.elim⟩
theorem pd_callQ (mm : Bool) (Fk : FnQ X.prog X.w X.K X.mg X.base k f fd ps (spD X.K X.mg n G)) (hr : RmQ k X.A) (hg : Gl X x) (hm : X.mg x = some (.ref f)) (hk : PySem.W.keepIn X.K (.ref f) = true)
    (hb : Binds X.K fd ps []) (ha : PDA X (e :: es) fa) (hdb : (x == ("__debug__" : Str)) = false := by decide) (he : starEach (e :: es) X.env = (false, eval e X.env) :: starEach es X.env := by rfl)
    (hpl : (backTo pos (starEach es X.env)).any (·.1) = false := by rfl) : PD X (.Call (.Name x p) (e :: es) [] pos) (dCallN mm n G fa) :=
  PE.weak (pe_callQ Fk hr hg hm hk hb ha hdb he hpl) fun σ H Q h => by
    obtain ⟨B, F, ad, δ, r, δ', S, e, kk⟩ := h
    unfold dCallN at e
    obtain ⟨⟨rs, δ1⟩, e1, e⟩ := Option.bind_eq_some_iff.mp e
    split at e
    · rename_i hl
      refine ⟨B, F, ad, δ, rs, δ1, S, e1, fun B1 ad1 vs H1 s1 p1 S1 r1 => ?_⟩
      exact call_w S1 r1 (by rw [r1.length]; exact hl) e fun B' ad' v H' s2 p2 S' r' => kk B' ad' v H' (s1.trans s2) (p1.trans p2) S' r'
    · cases e
end
/-- what an except clause of LiftError takes -/
theorem exm_below {K : PySem.W.Frag} {mg : Str → Option Value} {L C C' : Addr} {c n : Str} (T : ExK K mg L c C) (T' : ExK K mg L n C') (TL : ExK K mg L "LiftError" L) (h : isE c n = true) (hv : n ≠ ("ValueError" : Str)) : PySem.W.exmOne K (.ref C) (.ref C') = some true := by
  have h1 := T.one TL (n := n) (u := .ref C') (.inl ⟨T'.g, hv⟩) fun _ => ⟨C', T'⟩
  rw [h] at h1
  refine PySem.W.exm_ref T'.base T'.hd T'.ty ?_
  rw [T.sub]
  congr 1
  unfold PySem.W.kitOne at h1
  by_cases hc : (Value.ref C == Value.ref C') = true
  · have e : C = C' := Value.ref.inj (beq_iff_eq.mp hc)
    subst e
    simp
  · rw [if_neg hc] at h1
    obtain ⟨cd, hcd, _⟩ := T'.cls
    have h2 : PySem.W.kitCls K (.ref C) (.ref C') = PySem.W.subIn K (.ref C) (.ref C') := by
      show (if ((PySem.W.clsIn K C').isSome && PySem.W.typeIn K (.ref C') == some (.type "type")) = true then _ else none) = _
      rw [hcd, T'.ty]
      rfl
    rw [h2, T.sub] at h1
    exact Option.some.inj h1
end PK
namespace PK
open PySem L2 PySem.Spec PyProof.Rows
theorem exm_all {K : PySem.W.Frag} {mg : Str → Option Value} {L C : Addr} {own rs cs : List Str} {n : Str} (A : ExAll K mg L own rs) (hm : mg n = some (.ref C)) (hn : n ∈ own) (hv : n ≠ ("ValueError" : Str)) (hcs : ∀ c ∈ cs, c ∈ rs ∧ isE c n = true) :
    ∀ c ∈ cs, ∀ C', mg c = some (.ref C') → PySem.W.exmOne K (.ref C') (.ref C) = some true := fun c hc C' hC' => by
  obtain ⟨h1, h2⟩ := hcs c hc
  obtain ⟨C1, T, _⟩ := A.held c h1
  obtain ⟨C2, T'⟩ := A.all n hn
  have e1 : C1 = C' := Value.ref.inj (Option.some.inj (T.g.symm.trans hC'))
  have e2 : C2 = C := Value.ref.inj (Option.some.inj (T'.g.symm.trans hm))
  subst e1 e2
  exact exm_below T T' A.top h2 hv
end PK
namespace PK
open PySem L2 PySem.Spec PyProof.Rows
/-! ### reckoning with data functions that may raise -/
theorem xSeq_ok {f g : XF} {δ δ1 : Dl} (h : f δ = some (.ok .nx, δ1)) : xSeq f g δ = g δ1 := by simp [xSeq, h]
theorem xSeq_ex {f g : XF} {δ δ1 : Dl} {c : Str} {d : D} (h : f δ = some (.ex c d, δ1)) : xSeq f g δ = some (.ex c d, δ1) := by simp [xSeq, h]
theorem xOk_ {f : SF} {δ δ1 : Dl} {fl : Fl} (h : f δ = some (fl, δ1)) : xOk f δ = some (.ok fl, δ1) := by simp [xOk, h]
theorem xDrop_ok {f : EX} {δ δ1 : Dl} {r : Vl} (h : f δ = some (.ok r, δ1)) : xDrop f δ = some (.ok .nx, δ1) := by simp [xDrop, h]
theorem xDrop_ex {f : EX} {δ δ1 : Dl} {c : Str} {d : D} (h : f δ = some (.ex c d, δ1)) : xDrop f δ = some (.ex c d, δ1) := by simp [xDrop, h]
theorem xRet_ok {f : EX} {δ δ1 : Dl} {r : Vl} (h : f δ = some (.ok r, δ1)) : xRet f δ = some (.ok (.rt r), δ1) := by simp [xRet, h]
theorem xIf_ {t : BF} {f g : XF} {δ δ1 : Dl} {b : Bool} (h : t δ = some (b, δ1)) : xIf t f g δ = if b = true then f δ1 else g δ1 := by simp [xIf, h]
theorem xRaise_ {c : Str} {f : EF} {δ δ1 : Dl} {d : D} (h : f δ = some (.fz d, δ1)) : xRaise c f δ = some (.ex c d, δ1) := by simp [xRaise, h, frz]
theorem okG_ok {G : GX} {rs : List Vl} {cs cs' : List (List D)} {r : Res} (h : G rs cs = some (.ok r, cs')) : okG G rs cs = some (r, cs') := by simp [okG, h]
theorem callX_ok {m : Bool} {G : GX} {rs : List Vl} {δ δ' : Dl} {r : Vl} (h : callG m (okG G) rs δ = some (r, δ')) : callX m G rs δ = some (.ok r, δ') := by simp [callX, h]
theorem callX_ex {m : Bool} {G : GX} {rs : List Vl} {δ : Dl} {c : Str} {d : D} (hr : refs rs = []) (h : G (renum 0 rs) [] = some (.ex c d, [])) : callX m G rs δ = some (.ex c d, δ) := by
  have h1 : callG m (okG G) rs δ = none := by
    unfold callG
    rw [hr]
    simp [lives, okG, h]
  unfold callX
  rw [h1, hr]
  simp [lives, h, putAll]
theorem callG_0 {G : GF} {m : Bool} {rs : List Vl} {δ : Dl} {d : D} (hr : refs rs = []) (eG : G (renum 0 rs) [] = some (.val d, [])) : callG m G rs δ = some (.fz d, δ) := by
  unfold callG
  rw [hr]
  simp [lives, eG, putAll]
theorem xcl0 {G : GX} {m : Bool} {n : Nat} {fa : AF} {δ δ' : Dl} {rs : List Vl} {d : D} (ea : fa δ = some (rs, δ')) (hl : rs.length = n) (hr : refs rs = []) (eG : G (renum 0 rs) [] = some (.ok (.val d), [])) : xCallN m n G fa δ = some (.ok (.fz d), δ') := by
  rw [xCallN, ea, Option.bind_some, if_pos hl, callX_ok (callG_0 hr (okG_ok eG))]
theorem xcl0e {G : GX} {m : Bool} {n : Nat} {fa : AF} {δ δ' : Dl} {rs : List Vl} {c : Str} {d : D} (ea : fa δ = some (rs, δ')) (hl : rs.length = n) (hr : refs rs = []) (eG : G (renum 0 rs) [] = some (.ex c d, [])) : xCallN m n G fa δ = some (.ex c d, δ') := by
  rw [xCallN, ea, Option.bind_some, if_pos hl, callX_ex hr eG]
theorem sTry_ok {i : Nat} {cs : List Str} {fb : XF} {fs : SF} {δ δ1 : Dl} {fl : Fl} (h : fb δ = some (.ok fl, δ1)) : sTry i cs fb fs δ = some (fl, δ1) := by simp [sTry, h]
theorem sTry_rt {i : Nat} {cs : List Str} {fb : XF} {fs : SF} {δ δ1 δ2 : Dl} {c : Str} {d : D} {r : Vl} (h : fb δ = some (.ex c d, δ1)) (hc : c ∈ cs) (hs : fs { δ1 with sl := δ1.sl.set i (some (.fz (.exc c d))) } = some (.rt r, δ2)) : sTry i cs fb fs δ = some (.rt r, δ2) := by
  simp [sTry, h, hc, hs]
theorem isD_ {rs ns : List Str} {f : EF} {δ δ1 : Dl} {c : Str} {d : D} (h : f δ = some (.fz (.exc c d), δ1)) (hc : c ∈ rs) : isD rs ns f δ = some (.fz (.bl (ns.any (isE c))), δ1) := by simp [isD, h, hc]
theorem exvD_ {rs : List Str} {f : EF} {δ δ1 : Dl} {c : Str} {d : D} (h : f δ = some (.fz (.exc c d), δ1)) (hc : c ∈ rs) : exvD rs f δ = some (.fz d, δ1) := by simp [exvD, h, hc]
end PK
namespace PK
open PySem L2 PySem.Spec PyProof.Rows
/-! ### a list taken by a step of 1 or -1 -/
end PK
namespace PK
open PySem L2 PySem.Spec PyProof.Rows
/-! ### xs[i] += e -/
end PK
namespace PK
open PySem L2 PySem.Spec PyProof.Rows
/-! ### is, is not of two booleans -/
end PK
namespace PK
open PySem L2 PySem.Spec PyProof.Rows
/-! ### bs.count(b), bs.index(b) of booleans -/
theorem upd_back {H : Hp} {a : Addr} {o : HO} (h : H a = some o) : upd H a o = H := by
  funext z
  unfold upd
  split
  · rename_i e
    rw [e, h]
  · rfl
def rCntB (K : PySem.W.Frag) : V → List V → Hp → VK → Prop := fun x xs H Q => ∃ (a : Addr) (bs : List Bool) (b : Bool), x = .ref a ∧ xs = [.bl b] ∧ SqL K H a (bs.map V.bl) ∧ Q (.int (bs.count b : Nat)) H
theorem flat_bls (bs : List Bool) : (bs.map V.bl).all flatV = true := by
  induction bs with
  | nil => rfl
  | cons b bs ih => simp [flatV]
theorem cnt_bls {b : Bool} : ∀ {bs : List Bool} {us : List Value}, Vals (bs.map V.bl) us → us.countP (eqU (.bl b)) = bs.count b
  | [], us, r => by cases r; rfl
  | c :: bs, us, r => by
    cases r with
    | cons ry rt =>
      have ih := cnt_bls (b := b) rt
      rw [List.countP_cons, List.count_cons, ih, eqU_of ry rfl]
      cases c <;> cases b <;> rfl
section
variable {X : Cx} {o e : Expr} {fo fe : EF}
theorem mt_cntB : MtR X "list.count" (rCntB X.K) := by
  intro pins s σ H x xs v us Q I rx rxs h
  obtain ⟨a, bs, b, rfl, rfl, hs, q⟩ := h
  cases rx
  cases rxs with
  | cons ry rt =>
    rename_i uy ut
    cases rt
    obtain ⟨its, rv, ⟨⟨cls, dd, data, sl⟩, n, ho, hc, hdn, hd⟩, hlen⟩ := I.list hs
    simp only at hc hd
    subst hc hd
    refine call_meets PySem.F.slot_list_count ⟨_, ho, rfl⟩ PySem.F.entry_list_count (PySem.F.args_list_count_2 _ _)
      (SeqAt.list_countAt a its.toArray n dd sl uy (eqU (.bl b))) ⟨ho, fun u' hu' => mem_eqAt ry rfl rv (flat_bls bs) u' (by simpa using hu'), ?_⟩
    have ec : its.toArray.toList.countP (eqU (.bl b)) = bs.count b := cnt_bls rv
    refine ⟨.int (bs.count b : Nat), H, I.tok _, ⟨s.toks, ?_⟩, q⟩
    show Value.int ((its.toArray.toList.countP (eqU (.bl b)) : Nat) : Int) s.toks = _
    rw [ec]
def cntD : MF := fun as ds => match as, bls ds with
  | [.bl b], some bs => some (.int (bs.count b : Nat), ds)
  | _, _ => none
theorem mtd_cnt : MtD X cntD (rCntB X.K) := by
  intro B F ad σ δ H k ds as z a xs vs Q S hk ha hx r rv e q
  unfold cntD at e
  split at e
  · rename_i b bs hb
    cases e
    obtain ⟨v, w, rfl, h2, h3⟩ := rv
    have h3' : w = [] := h3
    subst h3'
    have h2' : v = .bl b := h2
    subst h2'
    have hxs := bls_rps r hb
    subst hxs
    exact ⟨a, bs, b, rfl, rfl, SqL.of hx, q _ _ _ (upd_back hx).symm r rfl⟩
  · cases e
/-- the place of the first one -/
def idxB (b : Bool) : List Bool → Option Nat
  | [] => none
  | c :: bs => if c = b then some 0 else (idxB b bs).map (· + 1)
theorem idxB_get {b : Bool} : ∀ {bs : List Bool} {j : Nat}, idxB b bs = some j → bs[j]? = some b ∧ ∀ m, m < j → bs[m]? ≠ some b
  | [], j, h => by cases h
  | c :: bs, j, h => by
    unfold idxB at h
    split at h
    · rename_i hc
      cases h
      exact ⟨by simp [hc], fun m hm => by omega⟩
    · rename_i hc
      obtain ⟨i, hi, rfl⟩ := Option.map_eq_some_iff.mp h
      obtain ⟨h1, h2⟩ := idxB_get hi
      refine ⟨by simpa using h1, fun m hm => ?_⟩
      cases m with
      | zero => simpa using hc
      | succ m => simpa using h2 m (by omega)
def idxD : MF := fun as ds => match as, bls ds with
  | [.bl b], some bs => (idxB b bs).map fun j => (.int (j : Nat), ds)
  | _, _ => none
theorem mtd_idx : MtD X idxD (rIndex X.K) := by
  intro B F ad σ δ H k ds as z a xs vs Q S hk ha hx r rv e q
  unfold idxD at e
  split at e
  · rename_i b bs hb
    obtain ⟨j, hj, e2⟩ := Option.map_eq_some_iff.mp e
    cases e2
    obtain ⟨v, w, rfl, h2, h3⟩ := rv
    have h3' : w = [] := h3
    subst h3'
    have h2' : v = .bl b := h2
    subst h2'
    have hxs := bls_rps r hb
    subst hxs
    obtain ⟨g1, g2⟩ := idxB_get hj
    refine ⟨a, bs.map V.bl, .bl b, j, .bl b, rfl, rfl, SqL.of hx, rfl, flat_bls bs, by rw [List.getElem?_map, g1]; rfl, by cases b <;> rfl, fun m z' hm hz => ?_, q _ _ _ (upd_back hx).symm r rfl⟩
    rw [List.getElem?_map] at hz
    obtain ⟨c, hc, rfl⟩ := Option.map_eq_some_iff.mp hz
    have hne : c ≠ b := fun h => g2 m hm (by rw [hc, h])
    cases c <;> cases b <;> first | rfl | exact absurd rfl hne
  · cases e
theorem pd_cnt {ap cp : Pos} (ho : PD X o fo) (he : PD X e fe) (hbase : attributeBase o "count" X.env (eval o X.env) = eval o X.env := by rfl)
    (hfw : ((backTo cp (starEach [e] X.env)).all (fun x => !x.1) && (backToKw cp (keywordEach [] X.env)).all (fun x => x.1.isSome)
      && decide ([e].length + ([] : List Keyword).length + (if ([] : List Keyword).isEmpty then 0 else 1) < 30)) = true := by rfl)
    (hln : (ap.endLine == cp.line) = true := by rfl) (hse : starEach [e] X.env = (false, eval e X.env) :: starEach [] X.env := by rfl)
    (hpn : (backTo cp (starEach [] X.env)).any (·.1) = false := by rfl) : PD X (.Call (.Attribute o "count" ap) [e] [] cp) (dMt cntD fo (aCons fe aNil)) :=
  PE.weak (pe_bm PySem.F.plainAttrs_list PySem.F.slot_list_count PySem.F.type_list_count mt_cntB ho (pda_cons he pda_nil hse) hbase hfw hln hse hpn) fun σ H Q h => mt_w mtd_cnt h
theorem pd_idx {ap cp : Pos} (ho : PD X o fo) (he : PD X e fe) (hbase : attributeBase o "index" X.env (eval o X.env) = eval o X.env := by rfl)
    (hfw : ((backTo cp (starEach [e] X.env)).all (fun x => !x.1) && (backToKw cp (keywordEach [] X.env)).all (fun x => x.1.isSome)
      && decide ([e].length + ([] : List Keyword).length + (if ([] : List Keyword).isEmpty then 0 else 1) < 30)) = true := by rfl)
    (hln : (ap.endLine == cp.line) = true := by rfl) (hse : starEach [e] X.env = (false, eval e X.env) :: starEach [] X.env := by rfl)
    (hpn : (backTo cp (starEach [] X.env)).any (·.1) = false := by rfl) : PD X (.Call (.Attribute o "index" ap) [e] [] cp) (dMt idxD fo (aCons fe aNil)) :=
  PE.weak (pe_bm PySem.F.plainAttrs_list PySem.F.slot_list_index PySem.F.type_list_index mt_index ho (pda_cons he pda_nil hse) hbase hfw hln hse hpn) fun σ H Q h => mt_w mtd_idx h
end
end PK
namespace PK
open PySem L2 PySem.Spec PyProof.Rows
/-! ### min(ns), max(ns) of a list of integers -/
end PK
namespace PK
open PySem PySem.Spec PyProof.Rows L2 RZ
/-! ### enumerate(tuple) -/
end PK
namespace PK
open PySem L2 PySem.Spec PyProof.Rows
/-! ### a recursion by so many calls: no promise at all at the last one -/
/-! ### if, by a call that may raise -/
end PK
namespace PK
open PySem L2 PySem.Spec PyProof.Rows
/-! ### t < u of integers, or of tuples of integers -/
end PK
namespace PK
open PySem L2 PySem.Spec PyProof.Rows
/-! ### min(t), max(t) of a list or a tuple of integers -/
end PK
namespace PK
open PySem PySem.Spec PyProof.Rows L2
/-! ### range(a, b) with bounds of any size: the walk -/
end PK
namespace PK
open PySem PySem.Spec PyProof.Rows L2
/-! ### list(range(a, b)) with bounds of any size -/
end PK
namespace PK
open PySem L2 PySem.Spec PyProof.Rows
/-! ### a list of one item, many times -/
end PK
namespace PK
open PySem L2 PySem.Spec PyProof.Rows
/-! ### ns.index(i) of a list of integers that does not change -/
end PK
namespace PK
open PySem PySem.Spec PyProof.Rows L2 RZ
/-! ### zip of three, unpacked at once -/
end PK
namespace PK
open PySem PySem.Spec PyProof.Rows L2
/-! ### min(a, b) of two data -/
/-! how it comes out for a pair of an integer and a tuple of integers -/
end PK
namespace PK
open PySem PySem.Spec PyProof.Rows L2
/-! ### sorted([a, b]) of two integers -/
/-! ### a chain of three comparisons, as a test -/
end PK
namespace PK
open PySem PySem.Spec PyProof.Rows L2
/-! ### lists in lists -/
section
variable {K : PySem.W.Frag} {mg : Str → Option Value} {B F : Hp} {ad ad' : List Addr} {σ : L2.St} {δ : Dl} {H : Hp} {p : Addr} {xs : List V}
theorem ks_mono (q : Pre ad ad') {ks : List Nat} {as : List Addr} (h : as.map some = ks.map fun k => ad[k]?) : as.map some = ks.map fun k => ad'[k]? :=
  h.trans (List.map_congr_left fun k hk => by
    have : ad[k]? ∈ as.map some := by
      rw [h]
      exact List.mem_map_of_mem hk
    obtain ⟨b, _, hb⟩ := List.mem_map.mp this
    rw [← hb]
    exact (q.get hb.symm).symm)
theorem ks_at {ks : List Nat} {as : List Addr} (h : as.map some = ks.map fun k => ad[k]?) {i : Int} {k : Nat} (e : atI ks i = some k) : ∃ a, atI (as.map V.ref) i = some (.ref a) ∧ ad[k]? = some a := by
  unfold atI at e ⊢
  have hl : as.length = ks.length := by simpa using congrArg List.length h
  rw [List.length_map, hl]
  obtain ⟨j, e1, e2⟩ := Option.bind_eq_some_iff.mp e
  rw [e1]
  have hj := congrArg (fun (l : List (Option Addr)) => l[j]?) h
  simp only [List.getElem?_map, e2, Option.map_some] at hj
  obtain ⟨a, ha, hb⟩ := Option.map_eq_some_iff.mp hj
  refine ⟨a, ?_, hb.symm⟩
  show (as.map V.ref)[j]? = _
  rw [List.getElem?_map, ha]
  rfl
/-- what is held on the side goes to what is frozen -/
theorem SRep.takeB (S : SRep K mg B (upd F p (.lst xs)) ad σ δ H) (hF : F p = none) : Same B (upd B p (.lst xs)) ∧ SRep K mg (upd B p (.lst xs)) F ad σ δ H := by
  have hp : upd F p (.lst xs) p = some (.lst xs) := upd_same
  have hB : B p = none := S.dis p _ hp
  have hH : H p = some (.lst xs) := S.exF p _ hp
  have fF : ∀ a o, F a = some o → upd F p (.lst xs) a = some o := fun a o e => by
    rw [upd_ne (ne_of_none e hF)]; exact e
  have cl : ∀ (k : Nat) (es : List D), δ.st[k]? = some (some es) → ∃ (q : Addr) (ys : List V), ad[k]? = some q ∧ H q = some (.lst ys) ∧ Rps K mg B es ys ∧ B q = none ∧ F q = none ∧ q ≠ p := fun k es e => by
    obtain ⟨q, ys, h1, h2, h3, h4, h5⟩ := S.cell k es e
    have hq : q ≠ p := fun z => by rw [z, hp] at h5; cases h5
    rw [upd_ne hq] at h5
    exact ⟨q, ys, h1, h2, h3, h4, h5, hq⟩
  have s1 : Same B (upd B p (.lst xs)) := same_new hB
  refine ⟨s1, ⟨fun a u e => ?_, fun a u e => S.exF a u (fF a u e), fun a u e => ?_, S.nd, S.len, S.slen, fun k es e => ?_, fun k q h1 h2 => ?_, fun i d e => ?_⟩⟩
  · by_cases ha : a = p
    · subst ha
      rw [upd_same] at e
      cases e
      exact hH
    · rw [upd_ne ha] at e
      exact S.exB a u e
  · rw [upd_ne (ne_of_none e hF)]; exact S.dis a u (fF a u e)
  · obtain ⟨q, ys, h1, h2, h3, h4, h5, hq⟩ := cl k es e
    exact ⟨q, ys, h1, h2, Rps.mono s1 es ys h3, by rw [upd_ne hq]; exact h4, h5⟩
  · have := S.dead k q h1 h2
    by_cases hq : q = p
    · rw [hq, upd_same]; simp
    · rw [upd_ne hq]; exact this
  · obtain ⟨v, h1, h2⟩ := S.slot i d e
    exact ⟨v, h1, h2.mono s1 (Pre.refl _)⟩
end
/-! ### a comprehension of lists -/
open Classical in
noncomputable def lcGoN (ck : List (Nat × List D)) (tg : Tg) (own : List Nat) (test : BF) (elt : EF) (sl : List (Option Vl)) : List D → List Nat → Dl → Option (List Nat × Dl)
  | [], acc, δ => if CkOk ck δ then some (acc, δ) else none
  | d :: ds, acc, δ => if CkOk ck δ ∧ acc.length < small then (asgT δ tg d).bind fun δ1 => (test δ1).bind fun p =>
      if p.1 then (elt p.2).bind fun q => match q.1 with
        | .rf k => lcGoN ck tg own test elt sl ds (acc ++ [k]) { q.2 with sl := sl }
        | _ => none
      else lcGoN ck tg own test elt sl ds acc { p.2 with sl := sl }
    else none
noncomputable def dLcN (fi : IF) (tg : Tg) (own : List Nat) (test : BF) (elt : EF) : EF := fun δ => (fi δ).bind fun p =>
  (lcGoN p.2.1 tg own test elt (wipeD p.2.2.sl own) p.1 [] { p.2.2 with sl := wipeD p.2.2.sl own }).map fun q => (.nl q.1, { q.2 with sl := p.2.2.sl })
theorem lcGoN_ck {ck : List (Nat × List D)} {tg : Tg} {own : List Nat} {test : BF} {elt : EF} {sl : List (Option Vl)} {ds : List D} {acc : List Nat} {δ : Dl} {r : List Nat × Dl} (h : lcGoN ck tg own test elt sl ds acc δ = some r) : CkOk ck δ := by
  cases ds with
  | nil =>
    rw [lcGoN] at h
    split at h
    · assumption
    · cases h
  | cons d ds =>
    rw [lcGoN] at h
    split at h
    · rename_i hh
      exact hh.1
    · cases h
section
variable {X : Cx} {tgE iter elt : Expr} {ifs : List Expr} {scope : Scope} {own : List (Str × Nat)} {fi : IF} {test : BF} {fe : EF} {pos spos : Pos}
theorem lcN_w {tg : Tg} {σ : L2.St} {H : Hp} {Q : VK} {K : PySem.W.Frag} {mg : Str → Option Value} (hown : ∀ i ∈ tgs tg, i ∈ own.map (·.2)) (h : tD K mg (dLcN fi tg (own.map (·.2)) test fe) σ H Q) :
    tLc (iD K mg fi) (gTg K tg) (tDT K mg test) (tD K mg fe) (own.map (·.2)) σ H Q := by
  obtain ⟨B, F, ad, δ, r, δ', S, e, k⟩ := h
  unfold dLcN at e
  obtain ⟨⟨it, ck, δ1⟩, e1, e⟩ := Option.bind_eq_some_iff.mp e
  obtain ⟨⟨res, δ2⟩, e2, e⟩ := Option.map_eq_some_iff.mp e
  have e' : (Vl.nl res, { δ2 with sl := δ1.sl }) = (r, δ') := e
  dsimp only at e2
  generalize hw : wipeD δ1.sl (own.map (·.2)) = sl0 at e2
  refine ⟨B, F, ad, δ, it, ck, δ1, S, e1, (show CkOk ck δ1 from (lcGoN_ck e2 : CkOk ck ⟨sl0, δ1.st⟩)), fun B1 ad1 H1 J G Y s1 p1 S1 W hG hY => ?_⟩
  intro Dl' hD
  have hFD : F Dl' = none := S1.exF.free hD
  have SW := (S1.wiped (own.map (·.2))).allocF (o := .lst []) hD
  rw [hw] at SW
  refine lc_it W (fun i H' => ∃ B2 ad2 δ3 accK acc, Same B1 B2 ∧ Pre ad1 ad2 ∧ SRep K mg B2 (upd F Dl' (.lst (acc.map V.ref))) ad2 (wipe σ (own.map (·.2))) δ3 H' ∧ acc.map some = (accK.map fun k => ad2[k]?) ∧ δ3.sl = sl0 ∧ lcGoN ck tg (own.map (·.2)) test fe sl0 (it.drop i) accK δ3 = some (res, δ2))
    ⟨B1, ad1, _, [], [], Same.refl _, Pre.refl _, SW, rfl, rfl, e2⟩ ?_ ?_ ?_
  · rintro i H' hi ⟨B2, ad2, δ3, accK, acc, s2, p2, S2, ra, hsl, e3⟩
    exact hG B2 _ ad2 _ δ3 H' s2 p2 S2 (lcGoN_ck e3)
  · rintro i x H2 H3 hi ⟨B2, ad2, δ3, accK, acc, s2, p2, S2, ra, hsl, e3⟩ hy
    obtain ⟨B3, s3, S3, d, hd, rd⟩ := hY i x B2 _ ad2 _ δ3 H2 H3 s2 p2 S2 (lcGoN_ck e3) hi hy
    have hdr : it.drop i = d :: it.drop (i + 1) := by
      obtain ⟨hl, he⟩ := List.getElem?_eq_some_iff.mp hd
      rw [List.drop_eq_getElem_cons hl, he]
    rw [hdr, lcGoN] at e3
    split at e3
    · rename_i hc
      obtain ⟨δ4, e4, e3⟩ := Option.bind_eq_some_iff.mp e3
      obtain ⟨⟨b, δ5⟩, e5, e3⟩ := Option.bind_eq_some_iff.mp e3
      refine tg_w S3 rd e4 fun vs S4 => ?_
      refine ⟨by rw [wipe_setV hown, wipe_wipe], ?_⟩
      have back : ∀ {B6 F6 ad6 δ6 H6}, SRep K mg B6 F6 ad6 (setV (wipe σ (own.map (·.2))) (tgs tg) vs) δ6 H6 → Same B2 B6 → Pre ad2 ad6 → SRep K mg B6 F6 ad6 (wipe σ (own.map (·.2))) { δ6 with sl := sl0 } H6 := fun {B6 F6 ad6 δ6 H6} S6 s6 p6 => by
        have := S2.reslot s6 p6 S6
        rw [hsl] at this
        exact this
      refine ⟨B3, _, ad2, δ4, b, δ5, S4, e5, fun B5 ad5 H5 s5 p5 S5 => ?_⟩
      have hlen : acc.length = accK.length := by simpa using congrArg List.length ra
      cases b with
      | true =>
        show tD K mg fe _ _ _
        rw [if_pos rfl] at e3
        obtain ⟨⟨y, δ6⟩, e6, e3⟩ := Option.bind_eq_some_iff.mp e3
        refine ⟨B5, _, ad5, δ5, y, δ6, S5, e6, fun B6 ad6 v H6 s6 p6 S6 r6 => ?_⟩
        cases y with
        | fz _ => cases e3
        | nl _ => cases e3
        | rf k0 =>
          obtain ⟨a0, rfl, h0⟩ := r6
          have hacc : H6 Dl' = some (.lst (acc.map V.ref)) := S6.exF Dl' _ upd_same
          refine ⟨acc.map V.ref, hacc, by rw [List.length_map]; exact Nat.lt_of_lt_of_le (by omega) (small_sz (Nat.le_refl _)), ?_⟩
          have sAll : Same B2 B6 := (s3.trans s5).trans s6
          have pAll : Pre ad2 ad6 := p5.trans p6
          refine ⟨B6, ad6, { δ6 with sl := sl0 }, accK ++ [k0], acc ++ [a0], s2.trans sAll, p2.trans pAll, ?_, ?_, rfl, e3⟩
          · rw [List.map_append]
            exact (back S6 sAll pAll).setF
          · rw [List.map_append, List.map_append, ks_mono pAll ra]
            simp [h0]
      | false =>
        rw [if_neg Bool.false_ne_true] at e3
        have sAll : Same B2 B5 := s3.trans s5
        show ∃ _, _
        exact ⟨B5, ad5, { δ5 with sl := sl0 }, accK, acc, s2.trans sAll, p2.trans p5, back S5 sAll p5, ks_mono p5 ra, rfl, e3⟩
    · cases e3
  · rintro H2 ⟨B2, ad2, δ3, accK, acc, s2, p2, S2, ra, hsl, e3⟩
    rw [List.drop_length] at e3
    have hck := lcGoN_ck e3
    rw [lcGoN, if_pos hck] at e3
    cases e3
    cases e'
    obtain ⟨s3, S3⟩ := (S1.reslot s2 p2 S2).takeB hFD
    exact k _ ad2 (.ref Dl') _ ((s1.trans s2).trans s3) (p1.trans p2) S3 ⟨Dl', acc, rfl, upd_same, ra⟩
theorem pd_lcN (tg : Tg) (hc : X.calm = true) (hN : X.N.Nodup) (hi : PDI X tgE iter fi) (ok : BlkOk X.N X.env.scope scope own) (hown : ∀ i ∈ tgs tg, i ∈ own.map (·.2))
    (hg : ∀ (s : Shared) (H : Hp) (C : Addr) (cl : List (Str × Addr)) (fp : List Addr), PG (X.blk s H scope (compEnvC scope cl C X.env) fp) tgE (gTg X.K tg))
    (ht : ∀ (s : Shared) (H : Hp) (C : Addr) (cl : List (Str × Addr)) (fp : List Addr), PTs (X.blk s H scope (compEnvC scope cl C X.env) fp) ifs (tDT X.K X.mg test))
    (he : ∀ (s : Shared) (H : Hp) (C : Addr) (cl : List (Str × Addr)) (fp : List Addr), PE (X.blk s H scope (compEnvC scope cl C X.env) fp) elt (tD X.K X.mg fe)) (hs : ∀ x, foldedSetIterable iter X.env x = pure x := by intro _; rfl) :
    PD X (.ListComp elt [⟨tgE, iter, ifs, 0⟩] scope pos) (dLcN fi tg (own.map (·.2)) test fe) := PE.weak (pe_lc hc hN hi ok hg ht he hs) fun σ H Q h => lcN_w hown h
end
end PK
namespace PK
open PySem PySem.Spec PyProof.Rows L2
/-! ### the length of a list of lists; its comprehension in an assignment -/
section
variable {X : Cx} {e : Expr} {fa : EF} {pos p : Pos}
theorem oc_lenL : CallR X (.builtin "len") (fun xs H Q => ∃ q ys, xs = [.ref q] ∧ H q = some (.lst ys) ∧ Q (.int ys.length) H) := by
  intro pins s σ H xs us Q I r h
  obtain ⟨q, ys, rfl, h2, h3⟩ := h
  exact call_len_seq pins s σ H _ us Q I r ⟨q, ys, rfl, .inl (SqL.of h2), h3⟩
end
end PK
namespace PK
open PySem PySem.Spec PyProof.Rows L2
/-! ### a variable frozen for good; x[i], len(x) of lists of lists, frozen or not -/
def dFrzV (i : Nat) : EF := fun δ => match δ.sl[i]? with
  | some (some r) => (frz δ r).map fun q => (.fz q.1, { q.2 with sl := q.2.sl.set i (some (.fz q.1)) })
  | _ => none
section
variable {X : Cx} {e a b : Expr} {fa fb : EF} {pos p : Pos}
theorem pd_frzV (i : Nat) {x : Str} (hN : X.N[i]? = some x := by rfl) (hv : Vis X.env.scope x := by first | exact Or.inl rfl | exact Or.inr (Or.inl rfl) | exact Or.inr (Or.inr rfl)) (hd : (x == ("__debug__" : Str)) = false := by decide)
    (hcd : (x == ("__classdict__" : Str)) = false := by decide) : PD X (.Name x pos) (dFrzV i) := PE.weak (pe_var hN hv hd hcd) fun σ H Q h => by
  obtain ⟨B, F, ad, δ, r, δ', S, e, k⟩ := h
  unfold dFrzV at e
  split at e
  · rename_i r' hr
    obtain ⟨⟨d, δ1⟩, e1, e2⟩ := Option.map_eq_some_iff.mp e
    cases e2
    obtain ⟨v, h1, h2⟩ := S.slot i _ hr
    obtain ⟨B1, s1, S1, r1⟩ := S.frz h2 e1
    have S2 := S1.setS (i := i) (d := .fz d) (v := v) r1
    have hσ : σ.set i (some v) = σ := by
      obtain ⟨hi, e⟩ := List.getElem?_eq_some_iff.mp h1
      rw [← e]
      exact List.set_getElem_self hi
    rw [hσ] at S2
    exact ⟨v, h1, k B1 ad v H s1 (Pre.refl _) S2 r1⟩
  · cases e
def dNixF (fa fb : EF) : EF := fun δ => (fa δ).bind fun p => (fb p.2).bind fun q => match p.1, q.1 with
  | .nl ks, .fz (.int i) => (atI ks i).map fun k => (.rf k, q.2)
  | .fz (.lst ds), .fz (.int i) => (atI ds i).map fun d => (.fz d, q.2)
  | _, _ => none
theorem pd_nixF (ha : PD X a fa) (hb : PD X b fb) (hs : PlainIx b := by exact fun _ _ => rfl) : PD X (.Subscript a b pos) (dNixF fa fb) := PE.weak (pe_ix ix_list ha hb hs) fun σ H Q h => by
  obtain ⟨B, F, ad, δ, r, δ', S, e, k⟩ := h
  unfold dNixF at e
  obtain ⟨⟨x, δ1⟩, e1, e⟩ := Option.bind_eq_some_iff.mp e
  obtain ⟨⟨y, δ2⟩, e2, e⟩ := Option.bind_eq_some_iff.mp e
  refine ⟨B, F, ad, δ, x, δ1, S, e1, fun B1 ad1 v1 H1 s1 p1 S1 r1 => ?_⟩
  refine ⟨B1, F, ad1, δ1, y, δ2, S1, e2, fun B2 ad2 v2 H2 s2 p2 S2 r2 => ?_⟩
  have r1' := r1.mono s2 p2
  dsimp only at e
  split at e
  · obtain ⟨k0, e3, e4⟩ := Option.map_eq_some_iff.mp e
    cases e4
    obtain ⟨a0, as, rfl, hB, hk⟩ := r1'
    have r2' : v2 = .int _ := r2
    obtain ⟨c, g1, g2⟩ := ks_at hk e3
    exact ⟨a0, as.map V.ref, _, .ref c, rfl, r2', SqL.of (S2.exB _ _ hB), g1, k B2 ad2 (.ref c) H2 (s1.trans s2) (p1.trans p2) S2 ⟨c, rfl, g2⟩⟩
  · obtain ⟨d, e3, e4⟩ := Option.map_eq_some_iff.mp e
    cases e4
    obtain ⟨a0, xs, rfl, hB, hr⟩ := r1'
    have r2' : v2 = .int _ := r2
    obtain ⟨v, g1, g2⟩ := atI_rps hr e3
    exact ⟨a0, xs, _, v, rfl, r2', SqL.of (S2.exB _ _ hB), g1, k B2 ad2 v H2 (s1.trans s2) (p1.trans p2) S2 g2⟩
  · cases e
def dLenF (fa : EF) : EF := fun δ => (fa δ).bind fun p => match p.1 with
  | .nl ks => some (.fz (.int ks.length), p.2)
  | .fz (.lst ds) => some (.fz (.int ds.length), p.2)
  | _ => none
theorem pd_lenF {x : Str} (hg : Gl X x) (hm : X.mg x = none) (hv : bootBuiltins x = some (.builtin "len")) (ha : PD X e fa) (hn : x ≠ "__name__" := by decide) (hdb : (x == ("__debug__" : Str)) = false := by decide)
    (he : starEach [e] X.env = (false, eval e X.env) :: starEach [] X.env := by rfl) (hpl : (backTo pos (starEach [] X.env)).any (·.1) = false := by rfl) : PD X (.Call (.Name x p) [e] [] pos) (dLenF fa) :=
  PE.weak (pe_callB oc_lenL hg hm hv (pda_cons ha pda_nil he) hn hdb he hpl) fun σ H Q h => by
    obtain ⟨B, F, ad, δ, r, δ', S, e, k⟩ := h
    unfold dLenF at e
    obtain ⟨⟨x0, δ1⟩, e1, e⟩ := Option.bind_eq_some_iff.mp e
    cases x0 with
    | rf _ => cases e
    | fz d =>
      cases d <;> simp only at e <;> try (cases e; done)
      rename_i ds
      cases e
      refine ⟨B, F, ad, δ, [.fz (.lst ds)], δ', S, by simp [aCons, aNil, e1], fun B1 ad1 vs H1 s1 p1 S1 r1 => ?_⟩
      obtain ⟨v, w, rfl, ⟨a, xs, rfl, hB, hr⟩, hw⟩ := r1
      have hw' : w = [] := hw
      subst hw'
      refine ⟨a, xs, rfl, S1.exB _ _ hB, ?_⟩
      rw [Rps.length hr]
      exact k B1 ad1 _ H1 s1 p1 S1 rfl
    | nl ks =>
      cases e
      refine ⟨B, F, ad, δ, [.nl ks], δ1, S, by simp [aCons, aNil, e1], fun B1 ad1 vs H1 s1 p1 S1 r1 => ?_⟩
      obtain ⟨v, w, rfl, ⟨a, as, rfl, hB, hk⟩, hw⟩ := r1
      have hw' : w = [] := hw
      subst hw'
      have hl : as.length = ks.length := by simpa using congrArg List.length hk
      refine ⟨a, as.map V.ref, rfl, S1.exB _ _ hB, ?_⟩
      rw [List.length_map, hl]
      exact k B1 ad1 _ H1 s1 p1 S1 rfl
end
end PK
namespace K03
open PySem L2 PySem.Spec PyProof.Rows PK
def topS (i : Nat) : Stmt := PySem.Challenge.pw_liftsteps_k03_errors_of_matrices.main.body.getD i (.Pass ⟨0, 0, 0, 0⟩)
abbrev s_dot : Stmt := topS 18
abbrev s_Matrix_rows : Stmt := inClass (topS 20) 1
abbrev s_Matrix_bottom : Stmt := inClass (topS 20) 2
abbrev s_Matrix_len : Stmt := inClass (topS 20) 3
abbrev s_common_divisor : Stmt := topS 22
abbrev s_filled_place : Stmt := topS 24
abbrev s_cleared : Stmt := topS 25
abbrev s_law_pool : Stmt := topS 28
abbrev s_law_draw : Stmt := topS 29
abbrev s_law_kind : Stmt := topS 34
abbrev s_volume : Stmt := topS 23
abbrev s_law_lines : Stmt := topS 32
abbrev s_law_under : Stmt := topS 33
abbrev s_law_spoilt : Stmt := topS 36
abbrev s_check_matrix : Stmt := topS 21
abbrev s_cofactor : Stmt := topS 26
abbrev s_law_flat : Stmt := topS 37
abbrev s_Matrix_init : Stmt := inClass (topS 20) 0
abbrev s_Matrix_after : Stmt := inClass (topS 20) 5
abbrev s_Matrix_inverse : Stmt := inClass (topS 20) 8
abbrev s_law_caught : Stmt := topS 35
abbrev s_law_right : Stmt := topS 38
abbrev s_law : Stmt := topS 39
abbrev s_Exc : Stmt := inClass (topS 3) 0
abbrev exOwn : List Str := ["LiftError", "InvalidMatrix", "InvalidChain", "InvalidBox", "InvalidChannel", "InvalidNumber", "InvalidVector", "OtherChannels", "NotTwo", "NotTurning", "Singular", "NothingToUndo", "Unreadable"]
abbrev exRs : List Str := ["InvalidMatrix", "OtherChannels", "Singular"]
/-- what the top has left -/
structure Tx (K : PySem.W.Frag) (mg : Str → Option Value) (a : Nat → Addr) (fd : Nat → FuncData) (cl pp ce : Nat → Addr) : Prop where
  F_dot : Fun K "dot" "dot" s_dot (a 0) (fd 0)
  b_dot : Binds K (fd 0) ["first", "second"] []
  g_dot : mg "dot" = some (.ref (a 0))
  F_Matrix_rows : Fun K "rows" "Matrix.rows" s_Matrix_rows (a 1) (fd 1)
  b_Matrix_rows : Binds K (fd 1) ["self"] []
  F_Matrix_bottom : Fun K "bottom" "Matrix.bottom" s_Matrix_bottom (a 2) (fd 2)
  b_Matrix_bottom : Binds K (fd 2) ["self"] []
  F_Matrix_len : Fun K "__len__" "Matrix.__len__" s_Matrix_len (a 3) (fd 3)
  b_Matrix_len : Binds K (fd 3) ["self"] []
  F_common_divisor : Fun K "_common_divisor" "_common_divisor" s_common_divisor (a 4) (fd 4)
  b_common_divisor : Binds K (fd 4) ["rows", "bottom"] []
  g_common_divisor : mg "_common_divisor" = some (.ref (a 4))
  F_filled_place : Fun K "_filled_place" "_filled_place" s_filled_place (a 5) (fd 5)
  b_filled_place : Binds K (fd 5) ["rows"] []
  g_filled_place : mg "_filled_place" = some (.ref (a 5))
  F_cleared : Fun K "_cleared" "_cleared" s_cleared (a 6) (fd 6)
  b_cleared : Binds K (fd 6) ["row", "top", "last"] []
  g_cleared : mg "_cleared" = some (.ref (a 6))
  F_law_pool : Fun K "_law_pool" "_law_pool" s_law_pool (a 7) (fd 7)
  b_law_pool : Binds K (fd 7) ["script", "spot"] []
  g_law_pool : mg "_law_pool" = some (.ref (a 7))
  F_law_draw : Fun K "_law_draw" "_law_draw" s_law_draw (a 8) (fd 8)
  b_law_draw : Binds K (fd 8) ["pool", "many"] []
  g_law_draw : mg "_law_draw" = some (.ref (a 8))
  F_law_kind : Fun K "_law_kind" "_law_kind" s_law_kind (a 9) (fd 9)
  b_law_kind : Binds K (fd 9) ["e"] []
  g_law_kind : mg "_law_kind" = some (.ref (a 9))
  F_volume : Fun K "_volume" "_volume" s_volume (a 10) (fd 10)
  b_volume : Binds K (fd 10) ["rows"] []
  g_volume : mg "_volume" = some (.ref (a 10))
  F_law_lines : Fun K "_law_lines" "_law_lines" s_law_lines (a 11) (fd 11)
  b_law_lines : Binds K (fd 11) ["pool", "size"] []
  g_law_lines : mg "_law_lines" = some (.ref (a 11))
  F_law_under : Fun K "_law_under" "_law_under" s_law_under (a 12) (fd 12)
  b_law_under : Binds K (fd 12) ["pool"] []
  g_law_under : mg "_law_under" = some (.ref (a 12))
  F_law_spoilt : Fun K "_law_spoilt" "_law_spoilt" s_law_spoilt (a 13) (fd 13)
  b_law_spoilt : Binds K (fd 13) ["pool", "lines"] []
  g_law_spoilt : mg "_law_spoilt" = some (.ref (a 13))
  F_check_matrix : Fun K "_check_matrix" "_check_matrix" s_check_matrix (a 14) (fd 14)
  b_check_matrix : Binds K (fd 14) ["rows", "bottom"] []
  g_check_matrix : mg "_check_matrix" = some (.ref (a 14))
  F_cofactor : Fun K "_cofactor" "_cofactor" s_cofactor (a 15) (fd 15)
  b_cofactor : Binds K (fd 15) ["rows", "line", "column"] []
  g_cofactor : mg "_cofactor" = some (.ref (a 15))
  F_law_flat : Fun K "_law_flat" "_law_flat" s_law_flat (a 16) (fd 16)
  b_law_flat : Binds K (fd 16) ["pool", "size"] []
  g_law_flat : mg "_law_flat" = some (.ref (a 16))
  F_Matrix_init : Fun K "__init__" "Matrix.__init__" s_Matrix_init (a 17) (fd 17)
  b_Matrix_init : Binds K (fd 17) ["self", "rows", "bottom"] []
  F_Matrix_after : Fun K "after" "Matrix.after" s_Matrix_after (a 18) (fd 18)
  b_Matrix_after : Binds K (fd 18) ["self", "inner"] []
  F_Matrix_inverse : Fun K "inverse" "Matrix.inverse" s_Matrix_inverse (a 19) (fd 19)
  b_Matrix_inverse : Binds K (fd 19) ["self"] []
  F_law_caught : Fun K "_law_caught" "_law_caught" s_law_caught (a 20) (fd 20)
  b_law_caught : Binds K (fd 20) ["which", "one", "two"] []
  g_law_caught : mg "_law_caught" = some (.ref (a 20))
  F_law_right : Fun K "_law_right" "_law_right" s_law_right (a 21) (fd 21)
  b_law_right : Binds K (fd 21) ["pool"] []
  g_law_right : mg "_law_right" = some (.ref (a 21))
  F_law : Fun K "law" "law" s_law (a 22) (fd 22)
  b_law : Binds K (fd 22) ["script"] []
  g_law : mg "law" = some (.ref (a 22))
  n_ValueError : mg "ValueError" = none
  n_abs : mg "abs" = none
  n_enumerate : mg "enumerate" = none
  n_int : mg "int" = none
  n_isinstance : mg "isinstance" = none
  n_len : mg "len" = none
  n_list : mg "list" = none
  n_max : mg "max" = none
  n_min : mg "min" = none
  n_range : mg "range" = none
  n_repr : mg "repr" = none
  n_sum : mg "sum" = none
  n_zip : mg "zip" = none
  m_gcd : mg "gcd" = some (.builtin "math.gcd")
  kd_Matrix_after_1_inner : KBn K (fd 18) ["self", "inner"] 1 ["inner"] (pk2 [0, 1]) (pk2 [0, 1])
  g_Matrix : mg "Matrix" = some (.ref (cl 0))
  cl_Matrix : Cls K (cl 0)
  isi_Matrix : IsiC K (cl 0)
  pr_Matrix_rows : PropOf K (cl 0) "rows" (pp 1) (a 1)
  pr_Matrix_bottom : PropOf K (cl 0) "bottom" (pp 2) (a 2)
  fi_Matrix_len : PySem.W.findIn K (.ref (cl 0)) "__len__" = some (some (.ref (a 3)))
  fn_Matrix_len : PySem.W.isFn K (.ref (a 3)) = true
  mk_Matrix : Mk K (cl 0) (a 17)
  na_Matrix_rows : NoAttr K (cl 0) "_rows"
  na_Matrix_bottom : NoAttr K (cl 0) "_bottom"
  me_Matrix_after : Meth K (cl 0) "after" (a 18)
  me_Matrix_inverse : Meth K (cl 0) "inverse" (a 19)
  F_Exc : Fun K "__init__" "LiftError.__init__" s_Exc (a 23) (fd 23)
  b_Exc : Binds K (fd 23) ["self", "value"] []
  vV : PySem.W.findCls K (.type "ValueError") (.type "type") "__init__" = some (.val (.builtin "ValueError.__init__"))
  exa : ExAll K mg (ce 0) exOwn exRs
  g_LiftError : mg "LiftError" = some (.ref (ce 0))
  g_InvalidMatrix : mg "InvalidMatrix" = some (.ref (ce 1))
  er_InvalidMatrix : ExR K mg "InvalidMatrix" (ce 1) (a 23)
  g_InvalidChain : mg "InvalidChain" = some (.ref (ce 2))
  g_InvalidBox : mg "InvalidBox" = some (.ref (ce 3))
  g_InvalidChannel : mg "InvalidChannel" = some (.ref (ce 4))
  g_InvalidNumber : mg "InvalidNumber" = some (.ref (ce 5))
  g_InvalidVector : mg "InvalidVector" = some (.ref (ce 6))
  g_OtherChannels : mg "OtherChannels" = some (.ref (ce 7))
  er_OtherChannels : ExR K mg "OtherChannels" (ce 7) (a 23)
  g_NotTwo : mg "NotTwo" = some (.ref (ce 8))
  g_NotTurning : mg "NotTurning" = some (.ref (ce 9))
  g_Singular : mg "Singular" = some (.ref (ce 10))
  er_Singular : ExR K mg "Singular" (ce 10) (a 23)
  g_NothingToUndo : mg "NothingToUndo" = some (.ref (ce 11))
  g_Unreadable : mg "Unreadable" = some (.ref (ce 12))
theorem sc_Exc : FnScope ["self", "value"] ["self", "value"] (defScope s_Exc) := ⟨rfl, rfl, rfl, by decide +kernel, rfl, by decide +kernel, by decide +kernel⟩
theorem sc_dot : FnScope ["first", "second", "one", "other"] ["first", "second"] (defScope s_dot) := ⟨rfl, rfl, rfl, by decide +kernel, rfl, by decide +kernel, by decide +kernel⟩
theorem sc_Matrix_rows : FnScope ["self", "row"] ["self"] (defScope s_Matrix_rows) := ⟨rfl, rfl, rfl, by decide +kernel, rfl, by decide +kernel, by decide +kernel⟩
theorem sc_Matrix_bottom : FnScope ["self"] ["self"] (defScope s_Matrix_bottom) := ⟨rfl, rfl, rfl, by decide +kernel, rfl, by decide +kernel, by decide +kernel⟩
theorem sc_Matrix_len : FnScope ["self"] ["self"] (defScope s_Matrix_len) := ⟨rfl, rfl, rfl, by decide +kernel, rfl, by decide +kernel, by decide +kernel⟩
theorem sc_common_divisor : FnScope ["rows", "bottom", "common", "row", "entry"] ["rows", "bottom"] (defScope s_common_divisor) := ⟨rfl, rfl, rfl, by decide +kernel, rfl, by decide +kernel, by decide +kernel⟩
theorem sc_filled_place : FnScope ["rows", "number", "row"] ["rows"] (defScope s_filled_place) := ⟨rfl, rfl, rfl, by decide +kernel, rfl, by decide +kernel, by decide +kernel⟩
theorem sc_cleared : FnScope ["row", "top", "last", "place"] ["row", "top", "last"] (defScope s_cleared) := ⟨rfl, rfl, rfl, by decide +kernel, rfl, by decide +kernel, by decide +kernel⟩
theorem sc_law_pool : FnScope ["script", "spot", "cell"] ["script", "spot"] (defScope s_law_pool) := ⟨rfl, rfl, rfl, by decide +kernel, rfl, by decide +kernel, by decide +kernel⟩
theorem sc_law_draw : FnScope ["pool", "many", "mixed", "drawn"] ["pool", "many"] (defScope s_law_draw) := ⟨rfl, rfl, rfl, by decide +kernel, rfl, by decide +kernel, by decide +kernel⟩
theorem sc_law_kind : FnScope ["e", "flags", "others"] ["e"] (defScope s_law_kind) := ⟨rfl, rfl, rfl, by decide +kernel, rfl, by decide +kernel, by decide +kernel⟩
theorem sc_volume : FnScope ["rows", "left", "sign", "last", "place", "top", "others", "row"] ["rows"] (defScope s_volume) := ⟨rfl, rfl, rfl, by decide +kernel, rfl, by decide +kernel, by decide +kernel⟩
theorem sc_law_lines : FnScope ["pool", "size", "way", "found", "spot", "line", "side", "entry"] ["pool", "size"] (defScope s_law_lines) := ⟨rfl, rfl, rfl, by decide +kernel, rfl, by decide +kernel, by decide +kernel⟩
theorem sc_law_under : FnScope ["pool"] ["pool"] (defScope s_law_under) := ⟨rfl, rfl, rfl, by decide +kernel, rfl, by decide +kernel, by decide +kernel⟩
theorem sc_law_spoilt : FnScope ["pool", "lines", "found", "turn", "wrong", "spot", "line"] ["pool", "lines"] (defScope s_law_spoilt) := ⟨rfl, rfl, rfl, by decide +kernel, rfl, by decide +kernel, by decide +kernel⟩
theorem sc_check_matrix : FnScope ["rows", "bottom", "number", "row"] ["rows", "bottom"] (defScope s_check_matrix) := ⟨rfl, rfl, rfl, by decide +kernel, rfl, by decide +kernel, by decide +kernel⟩
theorem sc_cofactor : FnScope ["rows", "line", "column", "others", "volume", "row"] ["rows", "line", "column"] (defScope s_cofactor) := ⟨rfl, rfl, rfl, by decide +kernel, rfl, by decide +kernel, by decide +kernel⟩
theorem sc_law_flat : FnScope ["pool", "size", "lines", "one", "found", "spot", "times", "entry", "more"] ["pool", "size"] (defScope s_law_flat) := ⟨rfl, rfl, rfl, by decide +kernel, rfl, by decide +kernel, by decide +kernel⟩
theorem sc_Matrix_init : FnScope ["self", "rows", "bottom", "common", "row", "entry"] ["self", "rows", "bottom"] (defScope s_Matrix_init) := ⟨rfl, rfl, rfl, by decide +kernel, rfl, by decide +kernel, by decide +kernel⟩
theorem sc_Matrix_after : FnScope ["self", "inner", "size", "inner_rows", "columns", "rows", "place", "row", "line", "column"] ["self", "inner"] (defScope s_Matrix_after) := ⟨rfl, rfl, rfl, by decide +kernel, rfl, by decide +kernel, by decide +kernel⟩
theorem sc_Matrix_inverse : FnScope ["self", "volume", "scale", "size", "cofactors", "column", "line", "row", "entry"] ["self"] (defScope s_Matrix_inverse) := ⟨rfl, rfl, rfl, by decide +kernel, rfl, by decide +kernel, by decide +kernel⟩
theorem sc_law_caught : FnScope ["which", "one", "two", "e"] ["which", "one", "two"] (defScope s_law_caught) := ⟨rfl, rfl, rfl, by decide +kernel, rfl, by decide +kernel, by decide +kernel⟩
theorem sc_law_right : FnScope ["pool", "size", "under", "lines", "wrong", "kept", "due", "low", "more", "one", "two", "good", "spot", "line", "number", "side"] ["pool"] (defScope s_law_right) := ⟨rfl, rfl, rfl, by decide +kernel, rfl, by decide +kernel, by decide +kernel⟩
theorem sc_law : FnScope ["script", "spot", "pool", "turn"] ["script"] (defScope s_law) := ⟨rfl, rfl, rfl, by decide +kernel, rfl, by decide +kernel, by decide +kernel⟩
noncomputable def f_dot : SF := (sRet (dCB sumD (aCons (dLc false (iZipXD (dVar 0) (dVar 1)) (.tp [2, 3]) [2, 3] bYes (dOp (mulD false) (dVar 2) (dVar 3))) aNil)))
noncomputable def G_dot : GF := fnD 4 f_dot
noncomputable def f_Matrix_rows : SF := (sRet (dLc true (iSq (dFld "Matrix" "_rows" (dVar 0))) (.nm 1) [1] bYes (dCB (listD false) (aCons (dVar 1) aNil))))
noncomputable def G_Matrix_rows : GF := fnD 2 f_Matrix_rows
noncomputable def f_Matrix_bottom : SF := (sRet (dFld "Matrix" "_bottom" (dVar 0)))
noncomputable def G_Matrix_bottom : GF := fnD 1 f_Matrix_bottom
noncomputable def f_Matrix_len : SF := (sRet (dCB lenD (aCons (dFld "Matrix" "_rows" (dVar 0)) aNil)))
noncomputable def G_Matrix_len : GF := fnD 1 f_Matrix_len
noncomputable def f_common_divisor : SF := (sSeq (sSet 2 (dVar 1))
  (sSeq (sFor (iSq (dVar 0)) (.nm 3) (sFor (iSq (dVar 3)) (.nm 4) (sSet 2 (dCB gcdD (aCons (dVar 2) (aCons (dVar 4) aNil))))))
  (sRet (dVar 2))))
noncomputable def G_common_divisor : GF := fnD 5 f_common_divisor
noncomputable def f_filled_place : SF := (sSeq (sFor (iEnumD (dVar 0)) (.tp [1, 2]) (sIf (dB (dOp (eqD true) (dOp ixD (dVar 2) (dC (.int 0))) (dC (.int 0)))) (sRet (dVar 1)) sNext))
  (sRet (dC .non)))
noncomputable def G_filled_place : GF := fnD 3 f_filled_place
noncomputable def f_cleared : SF := (sRet (dLc true (iRg2 (dC (.int 1)) (dCB lenD (aCons (dVar 0) aNil))) (.nm 3) [3] bYes (dOp divF (dOp subD (dOp (mulD false) (dOp ixD (dVar 1) (dC (.int 0))) (dOp ixD (dVar 0) (dVar 3))) (dOp (mulD false) (dOp ixD (dVar 0) (dC (.int 0))) (dOp ixD (dVar 1) (dVar 3)))) (dVar 2))))
noncomputable def G_cleared : GF := fnD 4 f_cleared
noncomputable def f_law_pool : SF := (sSeq (sSet 2 (dC (.int 0)))
  (sSeq (sIf (dB (dOp ltD (dVar 1) (dCB lenD (aCons (dVar 0) aNil)))) (sSet 2 (dOp ixD (dVar 0) (dVar 1))) sNext)
  (sRet (dLst true (aCons (dCB maxD (aCons (dC (.int 0)) (aCons (dOp subD (dCB absD (aCons (dVar 2) aNil)) (dOp powD (dC (.int 10)) (dC (.int 18)))) aNil))) (aCons (dOp (addD false) (dOp modD (dCB intD (aCons (dVar 2) aNil)) (dC (.int 2305843009213693951))) (dOp (mulD false) (dC (.int 7368787)) (dOp (addD false) (dVar 1) (dC (.int 1))))) (aCons (dC (.int 0)) aNil)))))))
noncomputable def G_law_pool : GF := fnD 3 f_law_pool
noncomputable def f_law_draw : SF := (sSeq (sIf (dB (dOp gtD (dOp ixD (dVar 0) (dC (.int 0))) (dC (.int 0)))) (sSeq (sSet 3 (dOp modD (dCB intD (aCons (dOp ixD (dVar 0) (dC (.int 0))) aNil)) (dVar 1)))
  (sSeq (sAsg (hSub (dVar 0) (dC (.int 0))) (dOp divD (dOp ixD (dVar 0) (dC (.int 0))) (dVar 1)))
  (sRet (dVar 3)))) sNext)
  (sSeq (sAsg (hSub (dVar 0) (dC (.int 2))) (dOp (addD false) (dOp ixD (dVar 0) (dC (.int 2))) (dC (.int 1))))
  (sSeq (sSet 2 (dOp modD (dCB intD (aCons (dOp powD (dOp (addD false) (dOp ixD (dVar 0) (dC (.int 1))) (dOp (mulD false) (dC (.int 15485863)) (dOp ixD (dVar 0) (dC (.int 2))))) (dC (.int 3))) aNil)) (dC (.int 162259276829213363391578010288127))))
  (sSeq (sSet 2 (dOp modD (dCB intD (aCons (dOp powD (dOp (addD false) (dVar 2) (dOp (mulD false) (dC (.int 32452843)) (dOp ixD (dVar 0) (dC (.int 2))))) (dC (.int 3))) aNil)) (dC (.int 170141183460469231731687303715884105727))))
  (sRet (dOp modD (dCB intD (aCons (dOp divD (dVar 2) (dC (.int 1048576))) aNil)) (dVar 1)))))))
noncomputable def G_law_draw : GF := fnD 4 f_law_draw
noncomputable def f_law_kind : SF := (sSeq (sSet 1 (dLst true (aCons (isD exRs ["InvalidMatrix"] (dVar 0)) (aCons (isD exRs ["InvalidChain"] (dVar 0)) (aCons (isD exRs ["OtherChannels"] (dVar 0)) aNil)))))
  (sSeq (sDrop (dMt appD (dVar 1) (aCons (isD exRs ["Singular"] (dVar 0)) aNil)))
  (sSeq (sSet 2 (isD exRs ["InvalidBox", "InvalidChannel", "InvalidNumber", "InvalidVector", "NothingToUndo", "NotTurning"] (dVar 0)))
  (sSeq (sIf (bOr (dB (dOp (eqD true) (dMt cntD (dVar 1) (aCons (dC (.bl true)) aNil)) (dC (.int 1)))) (bOr (dB (dVar 2)) (bOr (dB (isD exRs ["NotTwo", "Unreadable"] (dVar 0))) (bNot (dB (isD exRs ["ValueError"] (dVar 0))))))) (sRet (dC (.str "odd"))) sNext)
  (sRet (dOp ixD (dTup (aCons (dC (.str "matrix")) (aCons (dC (.str "chain")) (aCons (dC (.str "other")) (aCons (dC (.str "singular")) aNil))))) (dMt idxD (dVar 1) (aCons (dC (.bl true)) aNil))))))))
noncomputable def G_law_kind : GF := fnD 3 f_law_kind
noncomputable def f_volume : SF := (sSeq (sAsg (hTup 3 (hCons (hNm 1) (hCons (hNm 2) (hCons (hNm 3) hNil)))) (dTup (aCons (dVar 0) (aCons (dC (.int 1)) (aCons (dC (.int 1)) aNil)))))
  (sSeq (sWhile (dB (dOp gtD (dCB lenD (aCons (dVar 1) aNil)) (dC (.int 0)))) (sSeq (sSet 4 (dCallN false 1 G_filled_place (aCons (dVar 1) aNil)))
  (sSeq (sIf (dB (dOp isND (dVar 4) (dC .non))) (sRet (dC (.int 0))) sNext)
  (sSeq (sSet 5 (dOp ixD (dVar 1) (dVar 4)))
  (sSeq (sSet 6 (dOp (addD false) (dSl false (dVar 1) oNone (oSome (dVar 4))) (dSl false (dVar 1) (oSome (dOp (addD false) (dVar 4) (dC (.int 1)))) oNone)))
  (sSeq (sSet 1 (dLc false (iSq (dVar 6)) (.nm 7) [7] bYes (dCallN false 3 G_cleared (aCons (dVar 7) (aCons (dVar 5) (aCons (dVar 3) aNil))))))
  (sSeq (sIf (dB (dOp (eqD false) (dOp modD (dVar 4) (dC (.int 2))) (dC (.int 1)))) (sSet 2 (dUn negD (dVar 2))) sNext)
  (sSet 3 (dOp ixD (dVar 5) (dC (.int 0)))))))))))
  (sRet (dOp (mulD true) (dVar 2) (dVar 3)))))
noncomputable def G_volume : GF := fnD 8 f_volume
noncomputable def f_law_lines : SF := (sSeq (sPar [2, 3] (aCons (dCallN false 2 G_law_draw (aCons (dVar 0) (aCons (dC (.int 5)) aNil))) (aCons (dLst true aNil) aNil)))
  (sSeq (sFor (iRg1 (dVar 1)) (.nm 4) (sSeq (sSet 5 (dLst true aNil))
  (sSeq (sFor (iRg1 (dVar 1)) (.nm 6) (sSeq (sSet 7 (dLst true (aCons (dC (.int 0)) (aCons (dOp subD (dCallN false 2 G_law_draw (aCons (dVar 0) (aCons (dC (.int 7)) aNil))) (dC (.int 3))) (aCons (dOp subD (dCallN false 2 G_law_draw (aCons (dVar 0) (aCons (dC (.int 199)) aNil))) (dC (.int 99))) (aCons (dOp subD (dCallN false 2 G_law_draw (aCons (dVar 0) (aCons (dOp (mulD false) (dC (.int 2)) (dOp powD (dC (.int 10)) (dC (.int 30)))) aNil))) (dOp powD (dC (.int 10)) (dC (.int 30)))) aNil))))))
  (sSeq (sDrop (dMt appD (dVar 7) (aCons (dOp subD (dOp (mulD false) (dC (.int 12)) (dCallN false 2 G_law_draw (aCons (dVar 0) (aCons (dC (.int 9)) aNil)))) (dC (.int 48))) aNil)))
  (sDrop (dMt appD (dVar 5) (aCons (dOp ixD (dVar 7) (dOp ixD (dLst false (aCons (dVar 2) (aCons (dCallN false 2 G_law_draw (aCons (dVar 0) (aCons (dC (.int 5)) aNil))) aNil))) (dOp divD (dCallN false 2 G_law_draw (aCons (dVar 0) (aCons (dC (.int 3)) aNil))) (dC (.int 2))))) aNil))))))
  (sDrop (dMt appD (dVar 3) (aCons (dVar 5) aNil))))))
  (sRet (dVar 3))))
noncomputable def G_law_lines : GF := fnD 8 f_law_lines
noncomputable def f_law_under : SF := (sRet (dOp ixD (dLst false (aCons (dC (.int 1)) (aCons (dOp (addD false) (dC (.int 1)) (dCallN false 2 G_law_draw (aCons (dVar 0) (aCons (dC (.int 6)) aNil)))) (aCons (dC (.int 12)) (aCons (dOp (addD false) (dC (.int 1)) (dCallN false 2 G_law_draw (aCons (dVar 0) (aCons (dOp powD (dC (.int 10)) (dC (.int 30))) aNil)))) aNil))))) (dCallN false 2 G_law_draw (aCons (dVar 0) (aCons (dC (.int 4)) aNil)))))
noncomputable def G_law_under : GF := fnD 1 f_law_under
noncomputable def f_law_spoilt : SF := (sSeq (sSet 2 (dLcN (iSq (dVar 1)) (.nm 6) [6] bYes (dCB (listD true) (aCons (dVar 6) aNil))))
  (sSeq (sFor (iRg1 (dCallN false 2 G_law_draw (aCons (dVar 0) (aCons (dC (.int 3)) aNil)))) (.nm 3) (sSeq (sSet 5 (dCallN false 2 G_law_draw (aCons (dVar 0) (aCons (dLenF (dVar 2)) aNil))))
  (sIf (dB (dOp (eqD false) (dCallN false 2 G_law_draw (aCons (dVar 0) (aCons (dC (.int 2)) aNil))) (dC (.int 0)))) (sDrop (dMt appD (dNixF (dVar 2) (dVar 5)) (aCons (dCallN false 2 G_law_draw (aCons (dVar 0) (aCons (dC (.int 9)) aNil))) aNil))) (sIf (dB (dOp (eqD true) (dNixF (dVar 2) (dVar 5)) (dLst false aNil))) (sDrop (dMt popD (dNixF (dVar 2) (dVar 5)) aNil)) sNext))))
  (sSeq (sSet 4 (dLc false (iEnumD (dFrzV 2)) (.tp [5, 6]) [5, 6] (dB (dOp (eqD true) (dCB lenD (aCons (dVar 6) aNil)) (dLenF (dVar 2)))) (dVar 5)))
  (sRet (dLst true (aCons (dFrzV 2) (aCons (dOp ixD (dOp (addD false) (dVar 4) (dLst false (aCons (dC .non) aNil))) (dC (.int 0))) aNil)))))))
noncomputable def G_law_spoilt : GF := fnD 7 f_law_spoilt
noncomputable def f_check_matrix : XF := (xSeq (xIf (bOr (dB (dOp (eqD false) (dCB lenD (aCons (dVar 0) aNil)) (dC (.int 0)))) (dB (dOp ltD (dVar 1) (dC (.int 1))))) (xRaise "InvalidMatrix" (dC .non)) (xOk sNext))
  (xFor (iEnumD (dVar 0)) (.tp [2, 3]) (xIf (dB (dOp (eqD true) (dCB lenD (aCons (dVar 3) aNil)) (dCB lenD (aCons (dVar 0) aNil)))) (xRaise "InvalidMatrix" (dVar 2)) (xOk sNext))))
noncomputable def GX_check_matrix : GX := fnX 4 f_check_matrix
noncomputable def f_cofactor : SF := (sSeq (sSet 3 (dOp (addD false) (dSl false (dVar 0) oNone (oSome (dVar 1))) (dSl false (dVar 0) (oSome (dOp (addD false) (dVar 1) (dC (.int 1)))) oNone)))
  (sSeq (sSet 4 (dCallN false 1 G_volume (aCons (dLc false (iSq (dVar 3)) (.nm 5) [5] bYes (dOp (addD false) (dSl false (dVar 5) oNone (oSome (dVar 2))) (dSl false (dVar 5) (oSome (dOp (addD false) (dVar 2) (dC (.int 1)))) oNone))) aNil)))
  (sRet (dIfE (dB (dOp (eqD false) (dOp modD (dOp (addD false) (dVar 1) (dVar 2)) (dC (.int 2))) (dC (.int 1)))) (dUn negD (dVar 4)) (dVar 4)))))
noncomputable def G_cofactor : GF := fnD 6 f_cofactor
noncomputable def f_law_flat : SF := (sSeq (sPar [2, 3] (aCons (dCallN true 2 G_law_lines (aCons (dVar 0) (aCons (dVar 1) aNil))) (aCons (dCallN false 2 G_law_draw (aCons (dVar 0) (aCons (dVar 1) aNil))) aNil)))
  (sSeq (sSet 4 (dOp (mulD false) (dLst false (aCons (dC (.int 0)) aNil)) (dVar 1)))
  (sSeq (sFor (iRg1 (dVar 1)) (.nm 5) (sIf (dB (dOp (eqD true) (dVar 5) (dVar 3))) (sSeq (sSet 6 (dOp subD (dCallN false 2 G_law_draw (aCons (dVar 0) (aCons (dC (.int 5)) aNil))) (dC (.int 2))))
  (sSet 4 (dLc false (iZipD (dVar 4) (dOp ixD (dVar 2) (dVar 5))) (.tp [7, 8]) [7, 8] bYes (dOp (addD false) (dVar 7) (dOp (mulD false) (dVar 6) (dVar 8)))))) sNext))
  (sSeq (sAsg (hSub (dVar 2) (dVar 3)) (dVar 4))
  (sRet (dVar 2))))))
noncomputable def G_law_flat : GF := fnD 9 f_law_flat
noncomputable def f_Matrix_init : JFn := (jSeq (jDrop (xCallN false 2 GX_check_matrix (aCons (dVar 1) (aCons (dVar 2) aNil))))
  (jSeq (jOk (iSet 2 (dCallN false 2 G_common_divisor (aCons (dVar 1) (aCons (dVar 2) aNil)))))
  (jSeq (jOk (iFld "_rows" (dLc false (iSq (dVar 1)) (.nm 4) [4] bYes (dLc false (iSq (dVar 4)) (.nm 5) [5] bYes (dOp divD (dVar 5) (dVar 3))))))
  (jOk (iFld "_bottom" (dOp divD (dVar 2) (dVar 3)))))))
noncomputable def GX_Matrix_init : GIX := PK.initX 5 f_Matrix_init
noncomputable def G_Matrix_init : GIF := okI GX_Matrix_init
noncomputable def f_Matrix_after : XF := (xSeq (xOk (sSet 2 (dCB lenD (aCons (dFld "Matrix" "_rows" (dVar 0)) aNil))))
  (xSeq (xIf (dB (dOp (eqD true) (dLenI "Matrix" G_Matrix_len (dVar 1)) (dVar 2))) (xRaise "OtherChannels" (dLenI "Matrix" G_Matrix_len (dVar 1))) (xOk sNext))
  (xSeq (xOk (sSet 3 (dMeth false "Matrix" "" 1 G_Matrix_rows (dVar 1) aNil)))
  (xSeq (xOk (sSet 4 (dLc false (iRg1 (dVar 2)) (.nm 6) [6] bYes (dLc false (iSq (dVar 3)) (.nm 8) [8] bYes (dOp ixD (dVar 8) (dVar 6))))))
  (xSeq (xOk (sSet 5 (dLc false (iSq (dFld "Matrix" "_rows" (dVar 0))) (.nm 7) [7] bYes (dLc false (iSq (dVar 4)) (.nm 9) [9] bYes (dCallN false 2 G_dot (aCons (dVar 7) (aCons (dVar 9) aNil)))))))
  (xRet (xMake "Matrix" 3 GX_Matrix_init (aCons (dVar 5) (aCons (dOp (mulD false) (dFld "Matrix" "_bottom" (dVar 0)) (dMeth false "Matrix" "" 1 G_Matrix_bottom (dVar 1) aNil)) aNil)))))))))
noncomputable def GX_Matrix_after : GX := fnX 10 f_Matrix_after
noncomputable def f_Matrix_inverse : XF := (xSeq (xOk (sSet 1 (dCallN false 1 G_volume (aCons (dFld "Matrix" "_rows" (dVar 0)) aNil))))
  (xSeq (xIf (dB (dOp (eqD false) (dVar 1) (dC (.int 0)))) (xRaise "Singular" (dC .non)) (xOk sNext))
  (xSeq (xOk (sSet 2 (dIfE (dB (dOp gtD (dVar 1) (dC (.int 0)))) (dFld "Matrix" "_bottom" (dVar 0)) (dUn negD (dFld "Matrix" "_bottom" (dVar 0))))))
  (xSeq (xOk (sSet 3 (dCB lenD (aCons (dFld "Matrix" "_rows" (dVar 0)) aNil))))
  (xSeq (xOk (sSet 4 (dLc false (iRg1 (dVar 3)) (.nm 5) [5] bYes (dLc false (iRg1 (dVar 3)) (.nm 6) [6] bYes (dCallN false 3 G_cofactor (aCons (dFld "Matrix" "_rows" (dVar 0)) (aCons (dVar 6) (aCons (dVar 5) aNil))))))))
  (xRet (xMake "Matrix" 3 GX_Matrix_init (aCons (dLc false (iSq (dVar 4)) (.nm 7) [7] bYes (dLc false (iSq (dVar 7)) (.nm 8) [8] bYes (dOp (mulD false) (dVar 2) (dVar 8)))) (aCons (dCB absD (aCons (dVar 1) aNil)) aNil)))))))))
noncomputable def GX_Matrix_inverse : GX := fnX 9 f_Matrix_inverse
noncomputable def f_law_caught : SF := (sSeq (sTry 3 ["InvalidMatrix", "OtherChannels", "Singular"] (xIf (dB (dOp (eqD false) (dVar 0) (dC (.int 0)))) (xDrop (xMake "Matrix" 3 GX_Matrix_init (aCons (dVar 1) (aCons (dVar 2) aNil)))) (xIf (dB (dOp (eqD false) (dVar 0) (dC (.int 1)))) (xDrop (xMethK false "Matrix" "after" 2 1 [0, 1] GX_Matrix_after (dVar 1) (aCons (dVar 2) aNil))) (xDrop (xMeth false "Matrix" "inverse" 1 GX_Matrix_inverse (dVar 1) aNil)))) (sRet (dTup (aCons (dCallN false 1 G_law_kind (aCons (dVar 3) aNil)) (aCons (exvD exRs (dVar 3)) aNil)))))
  (sRet (dC .non)))
noncomputable def G_law_caught : GF := fnD 4 f_law_caught
noncomputable def f_law_right : SF := (sSeq (sAsg (hTup 2 (hCons (hNm 1) (hCons (hNm 2) hNil))) (dTup (aCons (dOp (addD false) (dC (.int 1)) (dCallN false 2 G_law_draw (aCons (dVar 0) (aCons (dC (.int 3)) aNil)))) (aCons (dCallN false 1 G_law_under (aCons (dVar 0) aNil)) aNil))))
  (sSeq (sAsg (hUnl 2 (hCons (hNm 3) (hCons (hNm 4) hNil))) (dCallN false 2 G_law_spoilt (aCons (dVar 0) (aCons (dCallN false 2 G_law_lines (aCons (dVar 0) (aCons (dVar 1) aNil))) aNil))))
  (sSeq (sSet 5 (dCB reprD (aCons (dVar 3) aNil)))
  (sSeq (sSet 6 (dIfE (dB (dOp isND (dVar 4) (dC .non))) (dC .non) (dTup (aCons (dC (.str "matrix")) (aCons (dVar 4) aNil)))))
  (sSeq (sIf (bOr (dB (dOp (eqS true) (dCB reprD (aCons (dCallN false 3 G_law_caught (aCons (dC (.int 0)) (aCons (dVar 3) (aCons (dVar 2) aNil)))) aNil)) (dCB reprD (aCons (dVar 6) aNil)))) (dB (dOp (eqS true) (dCB reprD (aCons (dVar 3) aNil)) (dVar 5)))) (sRet (dC (.bl false))) sNext)
  (sSeq (sFor (iTupD (dTup (aCons (dC (.int 0)) (aCons (dUn negD (dC (.int 1))) (aCons (dOp subD (dC (.int 0)) (dVar 2)) aNil))))) (.nm 7) (sIf (dB (dOp (eqD true) (dCallN false 3 G_law_caught (aCons (dC (.int 0)) (aCons (dVar 3) (aCons (dVar 7) aNil)))) (dTup (aCons (dC (.str "matrix")) (aCons (dC .non) aNil))))) (sRet (dC (.bl false))) sNext))
  (sSeq (sIf (bOr (dB (dOp (eqD true) (dCallN false 3 G_law_caught (aCons (dC (.int 0)) (aCons (dLst false aNil) (aCons (dVar 2) aNil)))) (dTup (aCons (dC (.str "matrix")) (aCons (dC .non) aNil))))) (dB (dOp (eqD true) (dCallN false 3 G_law_caught (aCons (dC (.int 0)) (aCons (dLst false aNil) (aCons (dC (.int 0)) aNil)))) (dTup (aCons (dC (.str "matrix")) (aCons (dC .non) aNil)))))) (sRet (dC (.bl false))) sNext)
  (sSeq (sSet 8 (dOp ixD (dLc false (iTupD (dTup (aCons (dC (.int 1)) (aCons (dC (.int 2)) (aCons (dC (.int 3)) aNil))))) (.nm 14) [14] (dB (dOp (eqD true) (dVar 14) (dVar 1))) (dVar 14)) (dCallN false 2 G_law_draw (aCons (dVar 0) (aCons (dC (.int 2)) aNil)))))
  (sSeq (sPar [9, 10] (aCons (dMake "Matrix" 3 G_Matrix_init (aCons (dCallN false 2 G_law_lines (aCons (dVar 0) (aCons (dVar 1) aNil))) (aCons (dVar 2) aNil))) (aCons (dMake "Matrix" 3 G_Matrix_init (aCons (dCallN false 2 G_law_lines (aCons (dVar 0) (aCons (dVar 8) aNil))) (aCons (dC (.int 2)) aNil))) aNil)))
  (sSeq (sIf (bOr (dB (dOp (eqD true) (dCallN false 3 G_law_caught (aCons (dC (.int 1)) (aCons (dVar 9) (aCons (dVar 10) aNil)))) (dTup (aCons (dC (.str "other")) (aCons (dLenI "Matrix" G_Matrix_len (dVar 10)) aNil))))) (dB (dOp notND (dCallN false 3 G_law_caught (aCons (dC (.int 1)) (aCons (dVar 9) (aCons (dVar 9) aNil)))) (dC .non)))) (sRet (dC (.bl false))) sNext)
  (sSeq (sIf (dB (dOp (eqD true) (dCallN false 3 G_law_caught (aCons (dC (.int 2)) (aCons (dMake "Matrix" 3 G_Matrix_init (aCons (dCallN false 2 G_law_flat (aCons (dVar 0) (aCons (dVar 1) aNil))) (aCons (dVar 2) aNil))) (aCons (dC .non) aNil)))) (dTup (aCons (dC (.str "singular")) (aCons (dC .non) aNil))))) (sRet (dC (.bl false))) sNext)
  (sSeq (sSet 11 (dLst true aNil))
  (sSeq (sFor (iRg1 (dVar 1)) (.nm 12) (sSeq (sSet 13 (dLc true (iRg1 (dVar 1)) (.nm 15) [15] bYes (dOp (mulD false) (dCB intD (aCons (dOp gtD (dVar 15) (dVar 12)) aNil)) (dCallN false 2 G_law_draw (aCons (dVar 0) (aCons (dC (.int 9)) aNil))))))
  (sSeq (sAsg (hSub (dVar 13) (dVar 12)) (dC (.int 1)))
  (sDrop (dMt appD (dVar 11) (aCons (dVar 13) aNil))))))
  (sRet (dOp isND (dCallN false 3 G_law_caught (aCons (dC (.int 2)) (aCons (dMake "Matrix" 3 G_Matrix_init (aCons (dFrzV 11) (aCons (dVar 2) aNil))) (aCons (dC .non) aNil)))) (dC .non))))))))))))))))
noncomputable def G_law_right : GF := fnD 16 f_law_right
noncomputable def f_law : SF := (sSeq (sFor (iRg1 (dCB maxD (aCons (dC (.int 1)) (aCons (dCB minD (aCons (dC (.int 6)) (aCons (dCB lenD (aCons (dVar 0) aNil)) aNil))) aNil)))) (.nm 1) (sSeq (sSet 2 (dCallN true 2 G_law_pool (aCons (dVar 0) (aCons (dVar 1) aNil))))
  (sFor (iRg1 (dC (.int 5))) (.nm 3) (sIf (bNot (dB (dCallN false 1 G_law_right (aCons (dVar 2) aNil)))) (sRet (dC (.bl false))) sNext))))
  (sRet (dC (.bl true))))
noncomputable def G_law : GF := fnD 4 f_law
section
variable {P : Program} {w : World} {K : PySem.W.Frag} {mg : Str → Option Value} {base : Heap} {a : Nat → Addr} {fd : Nat → FuncData} {cl pp ce : Nat → Addr}
theorem ok_Exc (T : Tx K mg a fd cl pp ce) : FnOk P w K mg base CX0 1 (a 23) (fd 23) ["self", "value"] (spLift K) :=
  lift_ok T.F_Exc sc_Exc fun cdv A outer s H E =>
    pss_cons (ps_expr (pe_veinit (by rfl) T.n_ValueError T.vV (pa_cons (pv 0) (pa_cons (pv 1) pa_nil)))) (pss_one (ps_ost (pv 0) (pv 1)))
theorem ok_dot (T : Tx K mg a fd cl pp ce) : FnOk P w K mg base CX0 1 (a 0) (fd 0) ["first", "second"] (spD K mg 2 G_dot) :=
  fn_okD (k := 0) T.F_dot sc_dot fun cdv A outer s H E hr =>
    (pds_one (pds_ret (pd_cb (oc_sum rfl) (by rfl) T.n_sum (by decide +kernel) (pda_cons (pd_lc false (.tp [2, 3]) (own := [("one", 2), ("other", 3)]) rfl sc_dot.nd (pdi_zipX (by rfl) T.n_zip (pd_var 0) (pd_var 1)) (blkOk_by (by rfl)) (by decide) (fun _ _ _ _ _ => (pg_tup rfl (pgs_cons (pg_name (i := 2) sc_dot.nd rfl (by first | exact Or.inl rfl | exact Or.inr rfl)) (pgs_cons (pg_name (i := 3) sc_dot.nd rfl (by first | exact Or.inl rfl | exact Or.inr rfl)) pgs_nil)))) (fun _ _ _ _ _ => pdts_nil) (fun _ _ _ _ _ => (pd_op (od_mul false) (pd_var 2) (pd_var 3)))) pda_nil))))
theorem ok_Matrix_rows (T : Tx K mg a fd cl pp ce) : FnOk P w K mg base CX0 1 (a 1) (fd 1) ["self"] (spD K mg 1 G_Matrix_rows) :=
  fn_okD (k := 0) T.F_Matrix_rows sc_Matrix_rows fun cdv A outer s H E hr =>
    (pds_one (pds_ret (pd_lc true (.nm 1) (own := [("row", 1)]) rfl sc_Matrix_rows.nd (pdi_seq (pd_fld (pd_var 0) T.g_Matrix T.cl_Matrix T.na_Matrix_rows)) (blkOk_by (by rfl)) (by decide) (fun _ _ _ _ _ => (pg_name (i := 1) sc_Matrix_rows.nd rfl (by first | exact Or.inl rfl | exact Or.inr rfl))) (fun _ _ _ _ _ => pdts_nil) (fun _ _ _ _ _ => (pd_ct (oc_list false) (by rfl) T.n_list (by decide +kernel) (pda_cons (pd_var 1) pda_nil))))))
theorem ok_Matrix_bottom (T : Tx K mg a fd cl pp ce) : FnOk P w K mg base CX0 1 (a 2) (fd 2) ["self"] (spD K mg 1 G_Matrix_bottom) :=
  fn_okD (k := 0) T.F_Matrix_bottom sc_Matrix_bottom fun cdv A outer s H E hr =>
    (pds_one (pds_ret (pd_fld (pd_var 0) T.g_Matrix T.cl_Matrix T.na_Matrix_bottom)))
theorem ok_Matrix_len (T : Tx K mg a fd cl pp ce) : FnOk P w K mg base CX0 1 (a 3) (fd 3) ["self"] (spD K mg 1 G_Matrix_len) :=
  fn_okD (k := 0) T.F_Matrix_len sc_Matrix_len fun cdv A outer s H E hr =>
    (pds_one (pds_ret (pd_cb (oc_len) (by rfl) T.n_len (by decide +kernel) (pda_cons (pd_fld (pd_var 0) T.g_Matrix T.cl_Matrix T.na_Matrix_rows) pda_nil))))
theorem ok_common_divisor (T : Tx K mg a fd cl pp ce) : FnOk P w K mg base CX0 1 (a 4) (fd 4) ["rows", "bottom"] (spD K mg 2 G_common_divisor) :=
  fn_okD (k := 0) T.F_common_divisor sc_common_divisor fun cdv A outer s H E hr =>
    (pds_cons (pds_set 2 (pd_var 1) sc_common_divisor.nd)
    (pds_cons (pds_for (.nm 3) (pdi_seq (pd_var 0)) (pg_name (i := 3) sc_common_divisor.nd rfl (by first | exact Or.inl rfl | exact Or.inr rfl)) (pds_one (pds_for (.nm 4) (pdi_seq (pd_var 3)) (pg_name (i := 4) sc_common_divisor.nd rfl (by first | exact Or.inl rfl | exact Or.inr rfl)) (pds_one (pds_set 2 (pd_cbf oc_gcd (by rfl) T.m_gcd (pda_cons (pd_var 2) (pda_cons (pd_var 4) pda_nil))) sc_common_divisor.nd)) PassesOwn.never rfl)) PassesOwn.never rfl)
    (pds_one (pds_ret (pd_var 2)))))
theorem ok_filled_place (T : Tx K mg a fd cl pp ce) : FnOk P w K mg base CX0 1 (a 5) (fd 5) ["rows"] (spD K mg 1 G_filled_place) :=
  fn_okD (k := 0) T.F_filled_place sc_filled_place fun cdv A outer s H E hr =>
    (pds_cons (pds_for (.tp [1, 2]) (pdi_enum (by rfl) T.n_enumerate (pd_var 0)) (pg_tup rfl (pgs_cons (pg_name (i := 1) sc_filled_place.nd rfl (by first | exact Or.inl rfl | exact Or.inr rfl)) (pgs_cons (pg_name (i := 2) sc_filled_place.nd rfl (by first | exact Or.inl rfl | exact Or.inr rfl)) pgs_nil))) (pds_one (pds_if (pdt_cmp bo_eq (od_ne hr.units) (pd_ix (pd_var 2) pd_int) pd_int) (pds_one (pds_ret (pd_var 1))) pds_nil)) PassesOwn.never rfl)
    (pds_one (pds_ret pd_non)))
theorem ok_cleared (T : Tx K mg a fd cl pp ce) : FnOk P w K mg base CX0 1 (a 6) (fd 6) ["row", "top", "last"] (spD K mg 3 G_cleared) :=
  fn_okD (k := 0) T.F_cleared sc_cleared fun cdv A outer s H E hr =>
    (pds_one (pds_ret (pd_lc true (.nm 3) (own := [("place", 3)]) rfl sc_cleared.nd (pdi_rg2 (by rfl) T.n_range pd_int (pd_cb (oc_len) (by rfl) T.n_len (by decide +kernel) (pda_cons (pd_var 0) pda_nil))) (blkOk_by (by rfl)) (by decide) (fun _ _ _ _ _ => (pg_name (i := 3) sc_cleared.nd rfl (by first | exact Or.inl rfl | exact Or.inr rfl))) (fun _ _ _ _ _ => pdts_nil) (fun _ _ _ _ _ => (pd_op od_divF (pd_op od_sub (pd_op (od_mul false) (pd_ix (pd_var 1) pd_int) (pd_ix (pd_var 0) (pd_var 3))) (pd_op (od_mul false) (pd_ix (pd_var 0) pd_int) (pd_ix (pd_var 1) (pd_var 3)))) (pd_var 2))))))
theorem ok_law_pool (T : Tx K mg a fd cl pp ce) : FnOk P w K mg base CX0 1 (a 7) (fd 7) ["script", "spot"] (spD K mg 2 G_law_pool) :=
  fn_okD (k := 0) T.F_law_pool sc_law_pool fun cdv A outer s H E hr =>
    (pds_cons (pds_set 2 pd_int sc_law_pool.nd)
    (pds_cons (pds_if (pdt_cmp bo_cmp (od_cmp op_lt) (pd_var 1) (pd_cb (oc_len) (by rfl) T.n_len (by decide +kernel) (pda_cons (pd_var 0) pda_nil))) (pds_one (pds_set 2 (pd_ix (pd_var 0) (pd_var 1)) sc_law_pool.nd)) pds_nil)
    (pds_one (pds_ret (pd_lst true (pda_cons (pd_cb (oc_max rfl) (by rfl) T.n_max (by decide +kernel) (pda_cons pd_int (pda_cons (pd_op od_sub (pd_cb (oc_abs) (by rfl) T.n_abs (by decide +kernel) (pda_cons (pd_var 2) pda_nil)) (pd_op od_pow pd_int pd_int)) pda_nil))) (pda_cons (pd_op (od_add false) (pd_op od_mod (pd_ct oc_int (by rfl) T.n_int (by decide +kernel) (pda_cons (pd_var 2) pda_nil)) pd_int) (pd_op (od_mul false) pd_int (pd_op (od_add false) (pd_var 1) pd_int))) (pda_cons pd_int pda_nil))))))))
theorem ok_law_draw (T : Tx K mg a fd cl pp ce) : FnOk P w K mg base CX0 1 (a 8) (fd 8) ["pool", "many"] (spD K mg 2 G_law_draw) :=
  fn_okD (k := 0) T.F_law_draw sc_law_draw fun cdv A outer s H E hr =>
    (pds_cons (pds_if (pdt_cmp bo_cmp (od_cmp op_gt) (pd_ix (pd_var 0) pd_int) pd_int) (pds_cons (pds_set 3 (pd_op od_mod (pd_ct oc_int (by rfl) T.n_int (by decide +kernel) (pda_cons (pd_ix (pd_var 0) pd_int) pda_nil)) (pd_var 1)) sc_law_draw.nd)
    (pds_cons (pds_asg (pd_op od_div (pd_ix (pd_var 0) pd_int) (pd_var 1)) (pgd_sub (pd_var 0) pd_int))
    (pds_one (pds_ret (pd_var 3))))) pds_nil)
    (pds_cons (pds_asg (pd_op (od_add false) (pd_ix (pd_var 0) pd_int) pd_int) (pgd_sub (pd_var 0) pd_int))
    (pds_cons (pds_set 2 (pd_op od_mod (pd_ct oc_int (by rfl) T.n_int (by decide +kernel) (pda_cons (pd_op od_pow (pd_op (od_add false) (pd_ix (pd_var 0) pd_int) (pd_op (od_mul false) pd_int (pd_ix (pd_var 0) pd_int))) pd_int) pda_nil)) pd_int) sc_law_draw.nd)
    (pds_cons (pds_set 2 (pd_op od_mod (pd_ct oc_int (by rfl) T.n_int (by decide +kernel) (pda_cons (pd_op od_pow (pd_op (od_add false) (pd_var 2) (pd_op (od_mul false) pd_int (pd_ix (pd_var 0) pd_int))) pd_int) pda_nil)) pd_int) sc_law_draw.nd)
    (pds_one (pds_ret (pd_op od_mod (pd_ct oc_int (by rfl) T.n_int (by decide +kernel) (pda_cons (pd_op od_div (pd_var 2) pd_int) pda_nil)) (pd_var 1))))))))
theorem okQ_law_kind (T : Tx K mg a fd cl pp ce) : FnQ P w K mg base 1 (a 9) (fd 9) ["e"] (spD K mg 1 G_law_kind) :=
  fn_okQ (k := 0) T.F_law_kind sc_law_kind fun cdv A outer s H hr =>
    (pds_cons (pds_set 1 (pd_lst true (pda_cons (pd_isE1 T.exa (by decide) (by rfl) T.n_isinstance (pd_var 0) (pcn_own (by rfl) T.g_InvalidMatrix)) (pda_cons (pd_isE1 T.exa (by decide) (by rfl) T.n_isinstance (pd_var 0) (pcn_own (by rfl) T.g_InvalidChain)) (pda_cons (pd_isE1 T.exa (by decide) (by rfl) T.n_isinstance (pd_var 0) (pcn_own (by rfl) T.g_OtherChannels)) pda_nil)))) sc_law_kind.nd)
    (pds_cons (pds_drop (pd_app (pd_var 1) (pd_isE1 T.exa (by decide) (by rfl) T.n_isinstance (pd_var 0) (pcn_own (by rfl) T.g_Singular))))
    (pds_cons (pds_set 2 (pd_isET T.exa (by decide) (by decide) (by rfl) T.n_isinstance (pd_var 0) (pcs_cons (pcn_own (by rfl) T.g_InvalidBox) (pcs_cons (pcn_own (by rfl) T.g_InvalidChannel) (pcs_cons (pcn_own (by rfl) T.g_InvalidNumber) (pcs_cons (pcn_own (by rfl) T.g_InvalidVector) (pcs_cons (pcn_own (by rfl) T.g_NothingToUndo) (pcs_cons (pcn_own (by rfl) T.g_NotTurning) pcs_nil))))))) sc_law_kind.nd)
    (pds_cons (pds_if (pdt_w (pdw_or (pdt_cmp bo_eq (od_ne hr.units) (pd_cnt (pd_var 1) pd_bl) pd_int) (pdw_or (pdt_val (pd_var 2)) (pdw_or (pdt_val (pd_isET T.exa (by decide) (by decide) (by rfl) T.n_isinstance (pd_var 0) (pcs_cons (pcn_own (by rfl) T.g_NotTwo) (pcs_cons (pcn_own (by rfl) T.g_Unreadable) pcs_nil)))) (pdw_or1 (pdt_not (pdt_val (pd_isE1 T.exa (by decide) (by rfl) T.n_isinstance (pd_var 0) (pcn_ve (by rfl) T.n_ValueError))))))))) (pds_one (pds_ret pd_str)) pds_nil)
    (pds_one (pds_ret (pd_ix (pd_tup (pda_cons pd_str (pda_cons pd_str (pda_cons pd_str (pda_cons pd_str pda_nil))))) (pd_idx (pd_var 1) pd_bl))))))))
theorem ok_volume (T : Tx K mg a fd cl pp ce) : FnOk P w K mg base CX0 2 (a 10) (fd 10) ["rows"] (spD K mg 1 G_volume) :=
  fn_okD (k := 1) T.F_volume sc_volume fun cdv A outer s H E hr =>
    (pds_cons (pds_asg (pd_tup (pda_cons (pd_var 0) (pda_cons pd_int (pda_cons pd_int pda_nil)))) (pgd_tup rfl (pgds_cons (pgd_name 1 sc_volume.nd) (pgds_cons (pgd_name 2 sc_volume.nd) (pgds_cons (pgd_name 3 sc_volume.nd) pgds_nil)))))
    (pds_cons (pds_while (pdt_cmp bo_cmp (od_cmp op_gt) (pd_cb (oc_len) (by rfl) T.n_len (by decide +kernel) (pda_cons (pd_var 1) pda_nil)) pd_int) (pds_cons (pds_set 4 (pd_call false (ok_filled_place T) (hr.mono (by decide)) (by rfl) T.g_filled_place T.F_filled_place.kp T.b_filled_place (pda_cons (pd_var 1) pda_nil)) sc_volume.nd)
    (pds_cons (pds_if (pdt_cmp bo_isN od_isN (pd_var 4) pd_non) (pds_one (pds_ret pd_int)) pds_nil)
    (pds_cons (pds_set 5 (pd_ix (pd_var 1) (pd_var 4)) sc_volume.nd)
    (pds_cons (pds_set 6 (pd_op (od_add false) (pd_sl false (pd_var 1) pdo_none (pdo_some (pd_var 4))) (pd_sl false (pd_var 1) (pdo_some (pd_op (od_add false) (pd_var 4) pd_int)) pdo_none)) sc_volume.nd)
    (pds_cons (pds_setLc false (.nm 7) (own := [("row", 7)]) rfl sc_volume.nd (pdi_seq (pd_var 6)) (blkOk_by (by rfl)) (by decide) (fun _ _ _ _ _ => (pg_name (i := 7) sc_volume.nd rfl (by first | exact Or.inl rfl | exact Or.inr rfl))) (fun _ _ _ _ _ => pdts_nil) (fun _ _ _ _ _ => (pd_call false (ok_cleared T) (hr.mono (by decide)) (by rfl) T.g_cleared T.F_cleared.kp T.b_cleared (pda_cons (pd_var 7) (pda_cons (pd_var 5) (pda_cons (pd_var 3) pda_nil))))) rfl rfl (sw_true rfl rfl rfl (by decide +kernel)))
    (pds_cons (pds_if (pdt_cmp bo_eq (od_eq hr.units) (pd_op od_mod (pd_var 4) pd_int) pd_int) (pds_one (pds_set 2 (pd_neg (pd_var 2)) sc_volume.nd)) pds_nil)
    (pds_one (pds_set 3 (pd_ix (pd_var 5) pd_int) sc_volume.nd)))))))) PassesOwn.never)
    (pds_one (pds_ret (pd_op (od_mul true) (pd_var 2) (pd_var 3))))))
theorem ok_law_lines (T : Tx K mg a fd cl pp ce) : FnOk P w K mg base CX0 2 (a 11) (fd 11) ["pool", "size"] (spD K mg 2 G_law_lines) :=
  fn_okD (k := 1) T.F_law_lines sc_law_lines fun cdv A outer s H E hr =>
    (pds_cons (pds_par (i := 2) (j := 3) rfl sc_law_lines.nd rfl rfl (by decide) rfl rfl (pda_cons (pd_call false (ok_law_draw T) (hr.mono (by decide)) (by rfl) T.g_law_draw T.F_law_draw.kp T.b_law_draw (pda_cons (pd_var 0) (pda_cons pd_int pda_nil))) (pda_cons (pd_lst true pda_nil) pda_nil)) rfl)
    (pds_cons (pds_for (.nm 4) (pdi_rg1 (by rfl) T.n_range (pd_var 1)) (pg_name (i := 4) sc_law_lines.nd rfl (by first | exact Or.inl rfl | exact Or.inr rfl)) (pds_cons (pds_set 5 (pd_lst true pda_nil) sc_law_lines.nd)
    (pds_cons (pds_for (.nm 6) (pdi_rg1 (by rfl) T.n_range (pd_var 1)) (pg_name (i := 6) sc_law_lines.nd rfl (by first | exact Or.inl rfl | exact Or.inr rfl)) (pds_cons (pds_set 7 (pd_lst true (pda_cons pd_int (pda_cons (pd_op od_sub (pd_call false (ok_law_draw T) (hr.mono (by decide)) (by rfl) T.g_law_draw T.F_law_draw.kp T.b_law_draw (pda_cons (pd_var 0) (pda_cons pd_int pda_nil))) pd_int) (pda_cons (pd_op od_sub (pd_call false (ok_law_draw T) (hr.mono (by decide)) (by rfl) T.g_law_draw T.F_law_draw.kp T.b_law_draw (pda_cons (pd_var 0) (pda_cons pd_int pda_nil))) pd_int) (pda_cons (pd_op od_sub (pd_call false (ok_law_draw T) (hr.mono (by decide)) (by rfl) T.g_law_draw T.F_law_draw.kp T.b_law_draw (pda_cons (pd_var 0) (pda_cons (pd_op (od_mul false) pd_int (pd_op od_pow pd_int pd_int)) pda_nil))) (pd_op od_pow pd_int pd_int)) pda_nil))))) sc_law_lines.nd)
    (pds_cons (pds_drop (pd_app (pd_var 7) (pd_op od_sub (pd_op (od_mul false) pd_int (pd_call false (ok_law_draw T) (hr.mono (by decide)) (by rfl) T.g_law_draw T.F_law_draw.kp T.b_law_draw (pda_cons (pd_var 0) (pda_cons pd_int pda_nil)))) pd_int)))
    (pds_one (pds_drop (pd_app (pd_var 5) (pd_ix (pd_var 7) (pd_ix (pd_lst false (pda_cons (pd_var 2) (pda_cons (pd_call false (ok_law_draw T) (hr.mono (by decide)) (by rfl) T.g_law_draw T.F_law_draw.kp T.b_law_draw (pda_cons (pd_var 0) (pda_cons pd_int pda_nil))) pda_nil))) (pd_op od_div (pd_call false (ok_law_draw T) (hr.mono (by decide)) (by rfl) T.g_law_draw T.F_law_draw.kp T.b_law_draw (pda_cons (pd_var 0) (pda_cons pd_int pda_nil))) pd_int)))))))) PassesOwn.never rfl)
    (pds_one (pds_drop (pd_app (pd_var 3) (pd_var 5)))))) PassesOwn.never rfl)
    (pds_one (pds_ret (pd_var 3)))))
theorem ok_law_under (T : Tx K mg a fd cl pp ce) : FnOk P w K mg base CX0 2 (a 12) (fd 12) ["pool"] (spD K mg 1 G_law_under) :=
  fn_okD (k := 1) T.F_law_under sc_law_under fun cdv A outer s H E hr =>
    (pds_one (pds_ret (pd_ix (pd_lst false (pda_cons pd_int (pda_cons (pd_op (od_add false) pd_int (pd_call false (ok_law_draw T) (hr.mono (by decide)) (by rfl) T.g_law_draw T.F_law_draw.kp T.b_law_draw (pda_cons (pd_var 0) (pda_cons pd_int pda_nil)))) (pda_cons pd_int (pda_cons (pd_op (od_add false) pd_int (pd_call false (ok_law_draw T) (hr.mono (by decide)) (by rfl) T.g_law_draw T.F_law_draw.kp T.b_law_draw (pda_cons (pd_var 0) (pda_cons (pd_op od_pow pd_int pd_int) pda_nil)))) pda_nil))))) (pd_call false (ok_law_draw T) (hr.mono (by decide)) (by rfl) T.g_law_draw T.F_law_draw.kp T.b_law_draw (pda_cons (pd_var 0) (pda_cons pd_int pda_nil))))))
theorem ok_law_spoilt (T : Tx K mg a fd cl pp ce) : FnOk P w K mg base CX0 2 (a 13) (fd 13) ["pool", "lines"] (spD K mg 2 G_law_spoilt) :=
  fn_okD (k := 1) T.F_law_spoilt sc_law_spoilt fun cdv A outer s H E hr =>
    (pds_cons (pds_set 2 (pd_lcN (.nm 6) (own := [("line", 6)]) rfl sc_law_spoilt.nd (pdi_seq (pd_var 1)) (blkOk_by (by rfl)) (by decide) (fun _ _ _ _ _ => (pg_name (i := 6) sc_law_spoilt.nd rfl (by first | exact Or.inl rfl | exact Or.inr rfl))) (fun _ _ _ _ _ => pdts_nil) (fun _ _ _ _ _ => (pd_ct (oc_list true) (by rfl) T.n_list (by decide +kernel) (pda_cons (pd_var 6) pda_nil)))) sc_law_spoilt.nd)
    (pds_cons (pds_for (.nm 3) (pdi_rg1 (by rfl) T.n_range (pd_call false (ok_law_draw T) (hr.mono (by decide)) (by rfl) T.g_law_draw T.F_law_draw.kp T.b_law_draw (pda_cons (pd_var 0) (pda_cons pd_int pda_nil)))) (pg_name (i := 3) sc_law_spoilt.nd rfl (by first | exact Or.inl rfl | exact Or.inr rfl)) (pds_cons (pds_set 5 (pd_call false (ok_law_draw T) (hr.mono (by decide)) (by rfl) T.g_law_draw T.F_law_draw.kp T.b_law_draw (pda_cons (pd_var 0) (pda_cons (pd_lenF (by rfl) T.n_len (by rfl) (pd_var 2)) pda_nil))) sc_law_spoilt.nd)
    (pds_one (pds_if (pdt_cmp bo_eq (od_eq hr.units) (pd_call false (ok_law_draw T) (hr.mono (by decide)) (by rfl) T.g_law_draw T.F_law_draw.kp T.b_law_draw (pda_cons (pd_var 0) (pda_cons pd_int pda_nil))) pd_int) (pds_one (pds_drop (pd_app (pd_nixF (pd_var 2) (pd_var 5)) (pd_call false (ok_law_draw T) (hr.mono (by decide)) (by rfl) T.g_law_draw T.F_law_draw.kp T.b_law_draw (pda_cons (pd_var 0) (pda_cons pd_int pda_nil)))))) (pds_one (pds_if (pdt_cmp bo_eq (od_ne hr.units) (pd_nixF (pd_var 2) (pd_var 5)) (pd_lst false pda_nil)) (pds_one (pds_drop (pd_pop (pd_nixF (pd_var 2) (pd_var 5))))) pds_nil))))) PassesOwn.never rfl)
    (pds_cons (pds_setLc false (.tp [5, 6]) (own := [("spot", 5), ("line", 6)]) rfl sc_law_spoilt.nd (pdi_enum (by rfl) T.n_enumerate (pd_frzV 2)) (blkOk_by (by rfl)) (by decide) (fun _ _ _ _ _ => (pg_tup rfl (pgs_cons (pg_name (i := 5) sc_law_spoilt.nd rfl (by first | exact Or.inl rfl | exact Or.inr rfl)) (pgs_cons (pg_name (i := 6) sc_law_spoilt.nd rfl (by first | exact Or.inl rfl | exact Or.inr rfl)) pgs_nil)))) (fun _ _ _ _ _ => (pdts_one (pdt_cmp bo_eq (od_ne hr.units) (pd_cb (oc_len) (by rfl) T.n_len (by decide +kernel) (pda_cons (pd_var 6) pda_nil)) (pd_lenF (by rfl) T.n_len (by rfl) (pd_var 2))))) (fun _ _ _ _ _ => (pd_var 5)) rfl rfl (sw_true rfl rfl rfl (by decide +kernel)))
    (pds_one (pds_ret (pd_lst true (pda_cons (pd_frzV 2) (pda_cons (pd_ix (pd_op (od_add false) (pd_var 4) (pd_lst false (pda_cons pd_non pda_nil))) pd_int) pda_nil))))))))
theorem okX_check_matrix (T : Tx K mg a fd cl pp ce) : FnOk P w K mg base (L2.CX P w) 3 (a 14) (fd 14) ["rows", "bottom"] (spDX K mg 2 GX_check_matrix) :=
  fn_okX (k := 2) T.F_check_matrix sc_check_matrix fun cdv A outer s H E hr tk =>
    (pxs_cons (px_if (pdt_w (pdw_or (pdt_cmp bo_eq (od_eq hr.units) (pd_cb (oc_len) (by rfl) T.n_len (by decide +kernel) (pda_cons (pd_var 0) pda_nil)) pd_int) (pdw_or1 (pdt_cmp bo_cmp (od_cmp op_lt) (pd_var 1) pd_int)))) (pxs_one (px_raise rfl tk T.er_InvalidMatrix (ok_Exc T) (hr.mono (by decide)) T.b_Exc (by rfl) pd_non)) (pxs_ok pds_nil))
    (pxs_one (px_for (.tp [2, 3]) (pdi_enum (by rfl) T.n_enumerate (pd_var 0)) (pg_tup rfl (pgs_cons (pg_name (i := 2) sc_check_matrix.nd rfl (by first | exact Or.inl rfl | exact Or.inr rfl)) (pgs_cons (pg_name (i := 3) sc_check_matrix.nd rfl (by first | exact Or.inl rfl | exact Or.inr rfl)) pgs_nil))) (pxs_one (px_if (pdt_cmp bo_eq (od_ne hr.units) (pd_cb (oc_len) (by rfl) T.n_len (by decide +kernel) (pda_cons (pd_var 3) pda_nil)) (pd_cb (oc_len) (by rfl) T.n_len (by decide +kernel) (pda_cons (pd_var 0) pda_nil))) (pxs_one (px_raise rfl tk T.er_InvalidMatrix (ok_Exc T) (hr.mono (by decide)) T.b_Exc (by rfl) (pd_var 2))) (pxs_ok pds_nil))) (passes_of rfl) rfl)))
theorem ok_cofactor (T : Tx K mg a fd cl pp ce) : FnOk P w K mg base CX0 3 (a 15) (fd 15) ["rows", "line", "column"] (spD K mg 3 G_cofactor) :=
  fn_okD (k := 2) T.F_cofactor sc_cofactor fun cdv A outer s H E hr =>
    (pds_cons (pds_set 3 (pd_op (od_add false) (pd_sl false (pd_var 0) pdo_none (pdo_some (pd_var 1))) (pd_sl false (pd_var 0) (pdo_some (pd_op (od_add false) (pd_var 1) pd_int)) pdo_none)) sc_cofactor.nd)
    (pds_cons (pds_set 4 (pd_call false (ok_volume T) (hr.mono (by decide)) (by rfl) T.g_volume T.F_volume.kp T.b_volume (pda_cons (pd_lc false (.nm 5) (own := [("row", 5)]) rfl sc_cofactor.nd (pdi_seq (pd_var 3)) (blkOk_by (by rfl)) (by decide) (fun _ _ _ _ _ => (pg_name (i := 5) sc_cofactor.nd rfl (by first | exact Or.inl rfl | exact Or.inr rfl))) (fun _ _ _ _ _ => pdts_nil) (fun _ _ _ _ _ => (pd_op (od_add false) (pd_sl false (pd_var 5) pdo_none (pdo_some (pd_var 2))) (pd_sl false (pd_var 5) (pdo_some (pd_op (od_add false) (pd_var 2) pd_int)) pdo_none)))) pda_nil)) sc_cofactor.nd)
    (pds_one (pds_ret (pd_if (pdt_cmp bo_eq (od_eq hr.units) (pd_op od_mod (pd_op (od_add false) (pd_var 1) (pd_var 2)) pd_int) pd_int) (pd_neg (pd_var 4)) (pd_var 4))))))
theorem ok_law_flat (T : Tx K mg a fd cl pp ce) : FnOk P w K mg base CX0 3 (a 16) (fd 16) ["pool", "size"] (spD K mg 2 G_law_flat) :=
  fn_okD (k := 2) T.F_law_flat sc_law_flat fun cdv A outer s H E hr =>
    (pds_cons (pds_par (i := 2) (j := 3) rfl sc_law_flat.nd rfl rfl (by decide) rfl rfl (pda_cons (pd_call true (ok_law_lines T) (hr.mono (by decide)) (by rfl) T.g_law_lines T.F_law_lines.kp T.b_law_lines (pda_cons (pd_var 0) (pda_cons (pd_var 1) pda_nil))) (pda_cons (pd_call false (ok_law_draw T) (hr.mono (by decide)) (by rfl) T.g_law_draw T.F_law_draw.kp T.b_law_draw (pda_cons (pd_var 0) (pda_cons (pd_var 1) pda_nil))) pda_nil)) rfl)
    (pds_cons (pds_set 4 (pd_op (od_mul false) (pd_lst false (pda_cons pd_int pda_nil)) (pd_var 1)) sc_law_flat.nd)
    (pds_cons (pds_for (.nm 5) (pdi_rg1 (by rfl) T.n_range (pd_var 1)) (pg_name (i := 5) sc_law_flat.nd rfl (by first | exact Or.inl rfl | exact Or.inr rfl)) (pds_one (pds_if (pdt_cmp bo_eq (od_ne hr.units) (pd_var 5) (pd_var 3)) (pds_cons (pds_set 6 (pd_op od_sub (pd_call false (ok_law_draw T) (hr.mono (by decide)) (by rfl) T.g_law_draw T.F_law_draw.kp T.b_law_draw (pda_cons (pd_var 0) (pda_cons pd_int pda_nil))) pd_int) sc_law_flat.nd)
    (pds_one (pds_setLc false (.tp [7, 8]) (own := [("entry", 7), ("more", 8)]) rfl sc_law_flat.nd (pdi_zip (by rfl) T.n_zip (pd_var 4) (pd_ix (pd_var 2) (pd_var 5))) (blkOk_by (by rfl)) (by decide) (fun _ _ _ _ _ => (pg_tup rfl (pgs_cons (pg_name (i := 7) sc_law_flat.nd rfl (by first | exact Or.inl rfl | exact Or.inr rfl)) (pgs_cons (pg_name (i := 8) sc_law_flat.nd rfl (by first | exact Or.inl rfl | exact Or.inr rfl)) pgs_nil)))) (fun _ _ _ _ _ => pdts_nil) (fun _ _ _ _ _ => (pd_op (od_add false) (pd_var 7) (pd_op (od_mul false) (pd_var 6) (pd_var 8)))) rfl rfl (sw_true rfl rfl rfl (by decide +kernel))))) pds_nil)) PassesOwn.never rfl)
    (pds_cons (pds_asg (pd_var 4) (pgd_sub (pd_var 2) (pd_var 3)))
    (pds_one (pds_ret (pd_var 2)))))))
theorem okX_Matrix_init (T : Tx K mg a fd cl pp ce) : FnOk P w K mg base (L2.CX P w) 4 (a 17) (fd 17) ["self", "rows", "bottom"] (spIX K mg "Matrix" 3 GX_Matrix_init) :=
  init_okX (k := 3) T.F_Matrix_init sc_Matrix_init (by decide) (by decide) fun cdv A outer s H E hr tk =>
    (pjn_cons (pjn_drop (px_call false tk (okX_check_matrix T) (hr.mono (by decide)) (by rfl) T.g_check_matrix T.F_check_matrix.kp T.b_check_matrix (pda_cons (pd_var 1) (pda_cons (pd_var 2) pda_nil))))
    (pjn_cons (pjn_ok (pin_set 2 (pd_call false (ok_common_divisor T) (hr.mono (by decide)) (by rfl) T.g_common_divisor T.F_common_divisor.kp T.b_common_divisor (pda_cons (pd_var 1) (pda_cons (pd_var 2) pda_nil))) sc_Matrix_init.nd))
    (pjn_cons (pjn_ok (pin_fld (pd_lc false (.nm 4) (own := [("row", 4)]) rfl sc_Matrix_init.nd (pdi_seq (pd_var 1)) (blkOk_by (by rfl)) (by decide) (fun _ _ _ _ _ => (pg_name (i := 4) sc_Matrix_init.nd rfl (by first | exact Or.inl rfl | exact Or.inr rfl))) (fun _ _ _ _ _ => pdts_nil) (fun _ _ _ _ _ => (pd_lc false (.nm 5) (own := [("entry", 5)]) rfl sc_Matrix_init.nd (pdi_seq (pd_var 4)) (blkOk_by (by rfl)) (by decide) (fun _ _ _ _ _ => (pg_name (i := 5) sc_Matrix_init.nd rfl (by first | exact Or.inl rfl | exact Or.inr rfl))) (fun _ _ _ _ _ => pdts_nil) (fun _ _ _ _ _ => (pd_op od_div (pd_var 5) (pd_var 3)))))) T.g_Matrix T.cl_Matrix T.na_Matrix_rows))
    (pjn_one (pjn_ok (pin_fld (pd_op od_div (pd_var 2) (pd_var 3)) T.g_Matrix T.cl_Matrix T.na_Matrix_bottom))))))
theorem ok_Matrix_init (T : Tx K mg a fd cl pp ce) : FnOk P w K mg base CX0 4 (a 17) (fd 17) ["self", "rows", "bottom"] (spI K mg "Matrix" 3 G_Matrix_init) := calmI (okX_Matrix_init T)
theorem okX_Matrix_after (T : Tx K mg a fd cl pp ce) : FnOk P w K mg base (L2.CX P w) 6 (a 18) (fd 18) ["self", "inner"] (spDX K mg 2 GX_Matrix_after) :=
  fn_okX (k := 5) T.F_Matrix_after sc_Matrix_after fun cdv A outer s H E hr tk =>
    (pxs_cons (px_ok (pds_set 2 (pd_cb (oc_len) (by rfl) T.n_len (by decide +kernel) (pda_cons (pd_fld (pd_var 0) T.g_Matrix T.cl_Matrix T.na_Matrix_rows) pda_nil)) sc_Matrix_after.nd))
    (pxs_cons (px_if (pdt_cmp bo_eq (od_ne hr.units) (pd_lenI (by rfl) T.n_len T.g_Matrix (ok_Matrix_len T) (hr.mono (by decide)) T.fi_Matrix_len T.fn_Matrix_len T.b_Matrix_len (pd_var 1)) (pd_var 2)) (pxs_one (px_raise rfl tk T.er_OtherChannels (ok_Exc T) (hr.mono (by decide)) T.b_Exc (by rfl) (pd_lenI (by rfl) T.n_len T.g_Matrix (ok_Matrix_len T) (hr.mono (by decide)) T.fi_Matrix_len T.fn_Matrix_len T.b_Matrix_len (pd_var 1)))) (pxs_ok pds_nil))
    (pxs_cons (px_ok (pds_set 3 (pd_prop false (pd_var 1) T.g_Matrix T.cl_Matrix T.pr_Matrix_rows (ok_Matrix_rows T) (hr.mono (by decide)) T.b_Matrix_rows) sc_Matrix_after.nd))
    (pxs_cons (px_ok (pds_set 4 (pd_lc false (.nm 6) (own := [("place", 6)]) rfl sc_Matrix_after.nd (pdi_rg1 (by rfl) T.n_range (pd_var 2)) (blkOk_by (by rfl)) (by decide) (fun _ _ _ _ _ => (pg_name (i := 6) sc_Matrix_after.nd rfl (by first | exact Or.inl rfl | exact Or.inr rfl))) (fun _ _ _ _ _ => pdts_nil) (fun _ _ _ _ _ => (pd_lc false (.nm 8) (own := [("line", 8)]) rfl sc_Matrix_after.nd (pdi_seq (pd_var 3)) (blkOk_by (by rfl)) (by decide) (fun _ _ _ _ _ => (pg_name (i := 8) sc_Matrix_after.nd rfl (by first | exact Or.inl rfl | exact Or.inr rfl))) (fun _ _ _ _ _ => pdts_nil) (fun _ _ _ _ _ => (pd_ix (pd_var 8) (pd_var 6)))))) sc_Matrix_after.nd))
    (pxs_cons (px_ok (pds_setLc false (.nm 7) (own := [("row", 7)]) rfl sc_Matrix_after.nd (pdi_seq (pd_fld (pd_var 0) T.g_Matrix T.cl_Matrix T.na_Matrix_rows)) (blkOk_by (by rfl)) (by decide) (fun _ _ _ _ _ => (pg_name (i := 7) sc_Matrix_after.nd rfl (by first | exact Or.inl rfl | exact Or.inr rfl))) (fun _ _ _ _ _ => pdts_nil) (fun _ _ _ _ _ => (pd_lc false (.nm 9) (own := [("column", 9)]) rfl sc_Matrix_after.nd (pdi_seq (pd_var 4)) (blkOk_by (by rfl)) (by decide) (fun _ _ _ _ _ => (pg_name (i := 9) sc_Matrix_after.nd rfl (by first | exact Or.inl rfl | exact Or.inr rfl))) (fun _ _ _ _ _ => pdts_nil) (fun _ _ _ _ _ => (pd_call false (ok_dot T) (hr.mono (by decide)) (by rfl) T.g_dot T.F_dot.kp T.b_dot (pda_cons (pd_var 7) (pda_cons (pd_var 9) pda_nil)))))) rfl rfl (sw_true rfl rfl rfl (by decide +kernel))))
    (pxs_one (px_ret (px_make tk T.mk_Matrix (okX_Matrix_init T) (hr.mono (by decide)) (by rfl) T.g_Matrix T.b_Matrix_init (pda_cons (pd_var 5) (pda_cons (pd_op (od_mul false) (pd_fld (pd_var 0) T.g_Matrix T.cl_Matrix T.na_Matrix_bottom) (pd_prop false (pd_var 1) T.g_Matrix T.cl_Matrix T.pr_Matrix_bottom (ok_Matrix_bottom T) (hr.mono (by decide)) T.b_Matrix_bottom)) pda_nil))))))))))
theorem okX_Matrix_inverse (T : Tx K mg a fd cl pp ce) : FnOk P w K mg base (L2.CX P w) 6 (a 19) (fd 19) ["self"] (spDX K mg 1 GX_Matrix_inverse) :=
  fn_okX (k := 5) T.F_Matrix_inverse sc_Matrix_inverse fun cdv A outer s H E hr tk =>
    (pxs_cons (px_ok (pds_set 1 (pd_call false (ok_volume T) (hr.mono (by decide)) (by rfl) T.g_volume T.F_volume.kp T.b_volume (pda_cons (pd_fld (pd_var 0) T.g_Matrix T.cl_Matrix T.na_Matrix_rows) pda_nil)) sc_Matrix_inverse.nd))
    (pxs_cons (px_if (pdt_cmp bo_eq (od_eq hr.units) (pd_var 1) pd_int) (pxs_one (px_raise rfl tk T.er_Singular (ok_Exc T) (hr.mono (by decide)) T.b_Exc (by rfl) pd_non)) (pxs_ok pds_nil))
    (pxs_cons (px_ok (pds_set 2 (pd_if (pdt_cmp bo_cmp (od_cmp op_gt) (pd_var 1) pd_int) (pd_fld (pd_var 0) T.g_Matrix T.cl_Matrix T.na_Matrix_bottom) (pd_neg (pd_fld (pd_var 0) T.g_Matrix T.cl_Matrix T.na_Matrix_bottom))) sc_Matrix_inverse.nd))
    (pxs_cons (px_ok (pds_set 3 (pd_cb (oc_len) (by rfl) T.n_len (by decide +kernel) (pda_cons (pd_fld (pd_var 0) T.g_Matrix T.cl_Matrix T.na_Matrix_rows) pda_nil)) sc_Matrix_inverse.nd))
    (pxs_cons (px_ok (pds_setLc false (.nm 5) (own := [("column", 5)]) rfl sc_Matrix_inverse.nd (pdi_rg1 (by rfl) T.n_range (pd_var 3)) (blkOk_by (by rfl)) (by decide) (fun _ _ _ _ _ => (pg_name (i := 5) sc_Matrix_inverse.nd rfl (by first | exact Or.inl rfl | exact Or.inr rfl))) (fun _ _ _ _ _ => pdts_nil) (fun _ _ _ _ _ => (pd_lc false (.nm 6) (own := [("line", 6)]) rfl sc_Matrix_inverse.nd (pdi_rg1 (by rfl) T.n_range (pd_var 3)) (blkOk_by (by rfl)) (by decide) (fun _ _ _ _ _ => (pg_name (i := 6) sc_Matrix_inverse.nd rfl (by first | exact Or.inl rfl | exact Or.inr rfl))) (fun _ _ _ _ _ => pdts_nil) (fun _ _ _ _ _ => (pd_call false (ok_cofactor T) (hr.mono (by decide)) (by rfl) T.g_cofactor T.F_cofactor.kp T.b_cofactor (pda_cons (pd_fld (pd_var 0) T.g_Matrix T.cl_Matrix T.na_Matrix_rows) (pda_cons (pd_var 6) (pda_cons (pd_var 5) pda_nil))))))) rfl rfl (sw_true rfl rfl rfl (by decide +kernel))))
    (pxs_one (px_ret (px_make tk T.mk_Matrix (okX_Matrix_init T) (hr.mono (by decide)) (by rfl) T.g_Matrix T.b_Matrix_init (pda_cons (pd_lc false (.nm 7) (own := [("row", 7)]) rfl sc_Matrix_inverse.nd (pdi_seq (pd_var 4)) (blkOk_by (by rfl)) (by decide) (fun _ _ _ _ _ => (pg_name (i := 7) sc_Matrix_inverse.nd rfl (by first | exact Or.inl rfl | exact Or.inr rfl))) (fun _ _ _ _ _ => pdts_nil) (fun _ _ _ _ _ => (pd_lc false (.nm 8) (own := [("entry", 8)]) rfl sc_Matrix_inverse.nd (pdi_seq (pd_var 7)) (blkOk_by (by rfl)) (by decide) (fun _ _ _ _ _ => (pg_name (i := 8) sc_Matrix_inverse.nd rfl (by first | exact Or.inl rfl | exact Or.inr rfl))) (fun _ _ _ _ _ => pdts_nil) (fun _ _ _ _ _ => (pd_op (od_mul false) (pd_var 2) (pd_var 8)))))) (pda_cons (pd_cb (oc_abs) (by rfl) T.n_abs (by decide +kernel) (pda_cons (pd_var 1) pda_nil)) pda_nil))))))))))
theorem ok_law_caught (T : Tx K mg a fd cl pp ce) : FnOk P w K mg base CX0 7 (a 20) (fd 20) ["which", "one", "two"] (spD K mg 3 G_law_caught) :=
  fn_okD (k := 6) T.F_law_caught sc_law_caught fun cdv A outer s H E hr =>
    (pds_cons (pds_try rfl rfl rfl sc_law_caught.nd rfl rfl (by rfl) T.g_LiftError (by decide) (exm_all T.exa T.g_LiftError (by decide) (by decide) (by decide)) (fun W pn xe tk => (pxs_one (px_if (pdt_cmp bo_eq (od_eq hr.units) (pd_var 0) pd_int) (pxs_one (px_drop (px_make tk T.mk_Matrix (okX_Matrix_init T) (hr.mono (by decide)) (by rfl) T.g_Matrix T.b_Matrix_init (pda_cons (pd_var 1) (pda_cons (pd_var 2) pda_nil))))) (pxs_one (px_if (pdt_cmp bo_eq (od_eq hr.units) (pd_var 0) pd_int) (pxs_one (px_drop (px_methK false tk (pd_var 1) T.g_Matrix T.cl_Matrix T.me_Matrix_after (okX_Matrix_after T) (hr.mono (by decide)) T.kd_Matrix_after_1_inner (by rfl) (pdk_cons (pd_var 2) pdk_nil)))) (pxs_one (px_drop (px_meth0 false tk (pd_var 1) T.g_Matrix T.cl_Matrix T.me_Matrix_inverse (okX_Matrix_inverse T) (hr.mono (by decide)) T.b_Matrix_inverse)))))))) (fun ea pn => (pds_one (pds_ret (pd_tup (pda_cons (pd_callQ false (okQ_law_kind T) ((rmq_of hr _).mono (by decide)) (by rfl) T.g_law_kind T.F_law_kind.kp T.b_law_kind (pda_cons (pd_var 3) pda_nil)) (pda_cons (pd_exv T.exa (pd_var 3)) pda_nil)))))))
    (pds_one (pds_ret pd_non)))
theorem ok_law_right (T : Tx K mg a fd cl pp ce) : FnG P w K mg base 8 (a 21) (fd 21) ["pool"] (spD K mg 1 G_law_right) :=
  fn_okDG (k := 7) T.F_law_right sc_law_right fun cdv A outer s H E hr gd =>
    (pds_cons (pds_asg (pd_tup (pda_cons (pd_op (od_add false) pd_int (pd_call false (ok_law_draw T) (hr.mono (by decide)) (by rfl) T.g_law_draw T.F_law_draw.kp T.b_law_draw (pda_cons (pd_var 0) (pda_cons pd_int pda_nil)))) (pda_cons (pd_call false (ok_law_under T) (hr.mono (by decide)) (by rfl) T.g_law_under T.F_law_under.kp T.b_law_under (pda_cons (pd_var 0) pda_nil)) pda_nil))) (pgd_tup rfl (pgds_cons (pgd_name 1 sc_law_right.nd) (pgds_cons (pgd_name 2 sc_law_right.nd) pgds_nil))))
    (pds_cons (pds_asg (pd_call false (ok_law_spoilt T) (hr.mono (by decide)) (by rfl) T.g_law_spoilt T.F_law_spoilt.kp T.b_law_spoilt (pda_cons (pd_var 0) (pda_cons (pd_call false (ok_law_lines T) (hr.mono (by decide)) (by rfl) T.g_law_lines T.F_law_lines.kp T.b_law_lines (pda_cons (pd_var 0) (pda_cons (pd_var 1) pda_nil))) pda_nil))) (pgd_unl rfl (pgds_cons (pgd_name 3 sc_law_right.nd) (pgds_cons (pgd_name 4 sc_law_right.nd) pgds_nil))))
    (pds_cons (pds_set 5 (pd_cb (oc_repr gd hr.units) (by rfl) T.n_repr (by decide +kernel) (pda_cons (pd_var 3) pda_nil)) sc_law_right.nd)
    (pds_cons (pds_set 6 (pd_if (pdt_cmp bo_isN od_isN (pd_var 4) pd_non) pd_non (pd_tup (pda_cons pd_str (pda_cons (pd_var 4) pda_nil)))) sc_law_right.nd)
    (pds_cons (pds_if (pdt_w (pdw_or (pdt_cmp bo_eqS od_neS (pd_cb (oc_repr gd hr.units) (by rfl) T.n_repr (by decide +kernel) (pda_cons (pd_call false (ok_law_caught T) (hr.mono (by decide)) (by rfl) T.g_law_caught T.F_law_caught.kp T.b_law_caught (pda_cons pd_int (pda_cons (pd_var 3) (pda_cons (pd_var 2) pda_nil)))) pda_nil)) (pd_cb (oc_repr gd hr.units) (by rfl) T.n_repr (by decide +kernel) (pda_cons (pd_var 6) pda_nil))) (pdw_or1 (pdt_cmp bo_eqS od_neS (pd_cb (oc_repr gd hr.units) (by rfl) T.n_repr (by decide +kernel) (pda_cons (pd_var 3) pda_nil)) (pd_var 5))))) (pds_one (pds_ret pd_bl)) pds_nil)
    (pds_cons (pds_for (.nm 7) (pdi_tup (pd_tup (pda_cons pd_int (pda_cons (pd_neg pd_int) (pda_cons (pd_op od_sub pd_int (pd_var 2)) pda_nil))))) (pg_name (i := 7) sc_law_right.nd rfl (by first | exact Or.inl rfl | exact Or.inr rfl)) (pds_one (pds_if (pdt_cmp bo_eq (od_ne hr.units) (pd_call false (ok_law_caught T) (hr.mono (by decide)) (by rfl) T.g_law_caught T.F_law_caught.kp T.b_law_caught (pda_cons pd_int (pda_cons (pd_var 3) (pda_cons (pd_var 7) pda_nil)))) (pd_tup (pda_cons pd_str (pda_cons pd_non pda_nil)))) (pds_one (pds_ret pd_bl)) pds_nil)) PassesOwn.never rfl)
    (pds_cons (pds_if (pdt_w (pdw_or (pdt_cmp bo_eq (od_ne hr.units) (pd_call false (ok_law_caught T) (hr.mono (by decide)) (by rfl) T.g_law_caught T.F_law_caught.kp T.b_law_caught (pda_cons pd_int (pda_cons (pd_lst false pda_nil) (pda_cons (pd_var 2) pda_nil)))) (pd_tup (pda_cons pd_str (pda_cons pd_non pda_nil)))) (pdw_or1 (pdt_cmp bo_eq (od_ne hr.units) (pd_call false (ok_law_caught T) (hr.mono (by decide)) (by rfl) T.g_law_caught T.F_law_caught.kp T.b_law_caught (pda_cons pd_int (pda_cons (pd_lst false pda_nil) (pda_cons pd_int pda_nil)))) (pd_tup (pda_cons pd_str (pda_cons pd_non pda_nil))))))) (pds_one (pds_ret pd_bl)) pds_nil)
    (pds_cons (pds_set 8 (pd_ix (pd_lc false (.nm 14) (own := [("number", 14)]) rfl sc_law_right.nd (pdi_tup (pd_tup (pda_cons pd_int (pda_cons pd_int (pda_cons pd_int pda_nil))))) (blkOk_by (by rfl)) (by decide) (fun _ _ _ _ _ => (pg_name (i := 14) sc_law_right.nd rfl (by first | exact Or.inl rfl | exact Or.inr rfl))) (fun _ _ _ _ _ => (pdts_one (pdt_cmp bo_eq (od_ne hr.units) (pd_var 14) (pd_var 1)))) (fun _ _ _ _ _ => (pd_var 14))) (pd_call false (ok_law_draw T) (hr.mono (by decide)) (by rfl) T.g_law_draw T.F_law_draw.kp T.b_law_draw (pda_cons (pd_var 0) (pda_cons pd_int pda_nil)))) sc_law_right.nd)
    (pds_cons (pds_par (i := 9) (j := 10) rfl sc_law_right.nd rfl rfl (by decide) rfl rfl (pda_cons (pd_make T.mk_Matrix (ok_Matrix_init T) (hr.mono (by decide)) (by rfl) T.g_Matrix T.b_Matrix_init (pda_cons (pd_call false (ok_law_lines T) (hr.mono (by decide)) (by rfl) T.g_law_lines T.F_law_lines.kp T.b_law_lines (pda_cons (pd_var 0) (pda_cons (pd_var 1) pda_nil))) (pda_cons (pd_var 2) pda_nil))) (pda_cons (pd_make T.mk_Matrix (ok_Matrix_init T) (hr.mono (by decide)) (by rfl) T.g_Matrix T.b_Matrix_init (pda_cons (pd_call false (ok_law_lines T) (hr.mono (by decide)) (by rfl) T.g_law_lines T.F_law_lines.kp T.b_law_lines (pda_cons (pd_var 0) (pda_cons (pd_var 8) pda_nil))) (pda_cons pd_int pda_nil))) pda_nil)) rfl)
    (pds_cons (pds_if (pdt_w (pdw_or (pdt_cmp bo_eq (od_ne hr.units) (pd_call false (ok_law_caught T) (hr.mono (by decide)) (by rfl) T.g_law_caught T.F_law_caught.kp T.b_law_caught (pda_cons pd_int (pda_cons (pd_var 9) (pda_cons (pd_var 10) pda_nil)))) (pd_tup (pda_cons pd_str (pda_cons (pd_lenI (by rfl) T.n_len T.g_Matrix (ok_Matrix_len T) (hr.mono (by decide)) T.fi_Matrix_len T.fn_Matrix_len T.b_Matrix_len (pd_var 10)) pda_nil)))) (pdw_or1 (pdt_cmp bo_notN od_notN (pd_call false (ok_law_caught T) (hr.mono (by decide)) (by rfl) T.g_law_caught T.F_law_caught.kp T.b_law_caught (pda_cons pd_int (pda_cons (pd_var 9) (pda_cons (pd_var 9) pda_nil)))) pd_non)))) (pds_one (pds_ret pd_bl)) pds_nil)
    (pds_cons (pds_if (pdt_cmp bo_eq (od_ne hr.units) (pd_call false (ok_law_caught T) (hr.mono (by decide)) (by rfl) T.g_law_caught T.F_law_caught.kp T.b_law_caught (pda_cons pd_int (pda_cons (pd_make T.mk_Matrix (ok_Matrix_init T) (hr.mono (by decide)) (by rfl) T.g_Matrix T.b_Matrix_init (pda_cons (pd_call false (ok_law_flat T) (hr.mono (by decide)) (by rfl) T.g_law_flat T.F_law_flat.kp T.b_law_flat (pda_cons (pd_var 0) (pda_cons (pd_var 1) pda_nil))) (pda_cons (pd_var 2) pda_nil))) (pda_cons pd_non pda_nil)))) (pd_tup (pda_cons pd_str (pda_cons pd_non pda_nil)))) (pds_one (pds_ret pd_bl)) pds_nil)
    (pds_cons (pds_set 11 (pd_lst true pda_nil) sc_law_right.nd)
    (pds_cons (pds_for (.nm 12) (pdi_rg1 (by rfl) T.n_range (pd_var 1)) (pg_name (i := 12) sc_law_right.nd rfl (by first | exact Or.inl rfl | exact Or.inr rfl)) (pds_cons (pds_setLc true (.nm 15) (own := [("side", 15)]) rfl sc_law_right.nd (pdi_rg1 (by rfl) T.n_range (pd_var 1)) (blkOk_by (by rfl)) (by decide) (fun _ _ _ _ _ => (pg_name (i := 15) sc_law_right.nd rfl (by first | exact Or.inl rfl | exact Or.inr rfl))) (fun _ _ _ _ _ => pdts_nil) (fun _ _ _ _ _ => (pd_op (od_mul false) (pd_ct oc_int (by rfl) T.n_int (by decide +kernel) (pda_cons (pd_cmp (od_cmp op_gt) (pd_var 15) (pd_var 12)) pda_nil)) (pd_call false (ok_law_draw T) (hr.mono (by decide)) (by rfl) T.g_law_draw T.F_law_draw.kp T.b_law_draw (pda_cons (pd_var 0) (pda_cons pd_int pda_nil))))) rfl rfl (sw_true rfl rfl rfl (by decide +kernel)))
    (pds_cons (pds_asg pd_int (pgd_sub (pd_var 13) (pd_var 12)))
    (pds_one (pds_drop (pd_app (pd_var 11) (pd_var 13)))))) PassesOwn.never rfl)
    (pds_one (pds_ret (pd_cmp od_isN (pd_call false (ok_law_caught T) (hr.mono (by decide)) (by rfl) T.g_law_caught T.F_law_caught.kp T.b_law_caught (pda_cons pd_int (pda_cons (pd_make T.mk_Matrix (ok_Matrix_init T) (hr.mono (by decide)) (by rfl) T.g_Matrix T.b_Matrix_init (pda_cons (pd_frzV 11) (pda_cons (pd_var 2) pda_nil))) (pda_cons pd_non pda_nil)))) pd_non))))))))))))))))
theorem ok_law (T : Tx K mg a fd cl pp ce) : FnG P w K mg base 9 (a 22) (fd 22) ["script"] (spD K mg 1 G_law) :=
  fn_okDG (k := 8) T.F_law sc_law fun cdv A outer s H E hr gd =>
    (pds_cons (pds_for (.nm 1) (pdi_rg1 (by rfl) T.n_range (pd_cb (oc_max rfl) (by rfl) T.n_max (by decide +kernel) (pda_cons pd_int (pda_cons (pd_cb (oc_min rfl) (by rfl) T.n_min (by decide +kernel) (pda_cons pd_int (pda_cons (pd_cb (oc_len) (by rfl) T.n_len (by decide +kernel) (pda_cons (pd_var 0) pda_nil)) pda_nil))) pda_nil)))) (pg_name (i := 1) sc_law.nd rfl (by first | exact Or.inl rfl | exact Or.inr rfl)) (pds_cons (pds_set 2 (pd_call true (ok_law_pool T) (hr.mono (by decide)) (by rfl) T.g_law_pool T.F_law_pool.kp T.b_law_pool (pda_cons (pd_var 0) (pda_cons (pd_var 1) pda_nil))) sc_law.nd)
    (pds_one (pds_for (.nm 3) (pdi_rg1 (by rfl) T.n_range pd_int) (pg_name (i := 3) sc_law.nd rfl (by first | exact Or.inl rfl | exact Or.inr rfl)) (pds_one (pds_if (pdt_not (pdt_val (pd_callG false (ok_law_right T) (hr.mono (by decide)) gd (by rfl) T.g_law_right T.F_law_right.kp T.b_law_right (pda_cons (pd_var 2) pda_nil)))) (pds_one (pds_ret pd_bl)) pds_nil)) PassesOwn.never rfl))) PassesOwn.never rfl)
    (pds_one (pds_ret pd_bl)))
end
end K03
set_option maxHeartbeats 0
namespace K03
open PySem L2 PK
theorem okDiv_of {d : Int} (h1 : 1 ≤ d) (h2 : d < 2 ^ 200) : okDiv d = true := by
  unfold okDiv
  have h3 : d.natAbs.log2 < 200 := (Nat.log2_lt (by omega)).mpr (by omega)
  exact decide_eq_true ⟨by omega, by omega⟩
/-! ### the draws -/
def Pool (m : Nat) (p : List D) : Prop := ∃ a b c : Int, p = [.int a, .int b, .int c] ∧ 0 ≤ b ∧ b < 2 ^ 80 ∧ 0 ≤ c ∧ c ≤ m
theorem Pool.up {m n : Nat} {p : List D} (h : Pool m p) (hn : m ≤ n) : Pool n p := by
  obtain ⟨a, b, c, h1, h2, h3, h4, h5⟩ := h
  exact ⟨a, b, c, h1, h2, h3, h4, by omega⟩
theorem log_of {i : Int} {n : Nat} (h : i.natAbs < 2 ^ n) : i.natAbs.log2 ≤ n := by
  rcases Nat.eq_zero_or_pos i.natAbs with e | e
  · rw [e]; simp
  · exact Nat.le_of_lt ((Nat.log2_lt (by omega)).mpr h)
theorem okMul_nn {i j : Int} (hi : i.natAbs < 2 ^ 200) (hj : j.natAbs < 2 ^ 200) : okMul i j = true := by
  unfold okMul
  have := log_of hi
  have := log_of hj
  exact decide_eq_true (by omega)
theorem okPow_of {i : Int} (hi : i.natAbs < 2 ^ 200) : okPow i = true := by
  unfold okPow
  have := log_of hi
  exact decide_eq_true (by omega)
theorem g_draw {m : Nat} {p : List D} {many : Int} (hp : Pool m p) (h0 : 0 < many) (h1 : many < 2 ^ 200) (hm : m ≤ 10000) :
    ∃ d p', G_law_draw [.rf 0, .fz (.int many)] [p] = some (.val (.int d), [p']) ∧ 0 ≤ d ∧ d < many ∧ Pool (m + 1) p' := by
  obtain ⟨a, b, c, rfl, hb, hb2, hc, hc2⟩ := hp
  have e1 : okDiv many = true := okDiv_of (by omega) (by omega)
  by_cases ha : 0 < a
  · refine ⟨a % many, [.int (a / many), .int b, .int c], ?_, Int.emod_nonneg _ (by omega), Int.emod_lt_of_pos _ h0, ⟨_, _, _, rfl, hb, hb2, hc, by omega⟩⟩
    unfold G_law_draw f_law_draw
    simp [fnD, sSeq, sSet, sDrop, sRet, sRetN, sIf, sAsg, sPar, sFor, forD, dC, dVar, dOp, der, ders, frz, frzs, dTup, dLst, aNil, aCons, aStar, PK.mk, dCB, PK.g1, PK.g2, lenD, absD, maxD, minD, PK.intD, listD, tupD, sumD, allD, intsD, bls, addD, subD, mulD, divD, modD, powD, cmpD, ixD, atI, ixN, dUn, negD, dB, truD, bNot, bAnd, bOr, bYes, dAndV, dOrV, dNotV, dChain, dFld, recvOk, dIsi, tyD, kitB, dCallN, callG, refs, renum, lives, PK.putAll, hNm, hSub, hNil, hCons, hTup, setIx, asgT, setAll, dMt, appD, extD, dLc, lcGo, wipeD, iSq, iRg1, iRg2, iZipD, iEnumD, iRevD, srcOf, rangeD, zipD, small, itemsD, List.range, List.range.loop, eqD_int, dSl, dRev, slD, cutD, okR, sNext, sNever, sBrk, sCnt, dMake, makeG, PK.initD, iSeq, iDrop, iSet, iFld, dMeth, dIfE, isND, PK.isNon, oSome, oNone, HT.sIx, ha, h0, e1]
  · generalize hx : ((b + 15485863 * (c + 1)) ^ 3) % 162259276829213363391578010288127 = x
    have hx0 : 0 ≤ x := by rw [← hx]; exact Int.emod_nonneg _ (by decide)
    have hx1 : x < 162259276829213363391578010288127 := by rw [← hx]; exact Int.emod_lt_of_pos _ (by decide)
    refine ⟨((x + 32452843 * (c + 1)) ^ 3) % 170141183460469231731687303715884105727 / 1048576 % many, [.int a, .int b, .int (c + 1)], ?_, Int.emod_nonneg _ (by omega), Int.emod_lt_of_pos _ h0, ⟨_, _, _, rfl, hb, hb2, by omega, by omega⟩⟩
    have e2 : okMul 15485863 (c + 1) = true := okMul_nn (by decide) (by omega)
    have e3 : okMul 32452843 (c + 1) = true := okMul_nn (by decide) (by omega)
    have e4 : okPow (b + 15485863 * (c + 1)) = true := okPow_of (by omega)
    have e5 : okPow (x + 32452843 * (c + 1)) = true := okPow_of (by omega)
    have e6 : okDiv 1048576 = true := by decide
    unfold G_law_draw f_law_draw
    simp [fnD, sSeq, sSet, sDrop, sRet, sRetN, sIf, sAsg, sPar, sFor, forD, dC, dVar, dOp, der, ders, frz, frzs, dTup, dLst, aNil, aCons, aStar, PK.mk, dCB, PK.g1, PK.g2, lenD, absD, maxD, minD, PK.intD, listD, tupD, sumD, allD, intsD, bls, addD, subD, mulD, divD, modD, powD, cmpD, ixD, atI, ixN, dUn, negD, dB, truD, bNot, bAnd, bOr, bYes, dAndV, dOrV, dNotV, dChain, dFld, recvOk, dIsi, tyD, kitB, dCallN, callG, refs, renum, lives, PK.putAll, hNm, hSub, hNil, hCons, hTup, setIx, asgT, setAll, dMt, appD, extD, dLc, lcGo, wipeD, iSq, iRg1, iRg2, iZipD, iEnumD, iRevD, srcOf, rangeD, zipD, small, itemsD, List.range, List.range.loop, eqD_int, dSl, dRev, slD, cutD, okR, sNext, sNever, sBrk, sCnt, dMake, makeG, PK.initD, iSeq, iDrop, iSet, iFld, dMeth, dIfE, isND, PK.isNon, oSome, oNone, HT.sIx, ha, h0, e1, e2, e3, e4, e5, e6, hx]
/-- a draw within a call's own numbering -/
theorem d_draw {m : Nat} {p : List D} {many : Int} (hp : Pool m p) (h0 : 0 < many) (h1 : many < 2 ^ 200) (hm : m ≤ 10000) : ∃ d p', 0 ≤ d ∧ d < many ∧ Pool (m + 1) p' ∧
    ∀ {fa : AF} {δ δ' : Dl} {k : Nat}, fa δ = some ([.rf k, .fz (.int many)], δ') → δ'.st[k]? = some (some p) → dCallN false 2 G_law_draw fa δ = some (.fz (.int d), { δ' with st := δ'.st.set k (some p') }) := by
  obtain ⟨d, p', e, h2, h3, h4⟩ := g_draw hp h0 h1 hm
  refine ⟨d, p', h2, h3, h4, fun ea ek => ?_⟩
  simp [dCallN, ea, callG, refs, lives, ek, renum, e, PK.putAll]
theorem g_pool {ns : List Int} {i : Nat} (hi : i ≤ 10) : ∃ p, G_law_pool [.fz (.scr ns), .fz (.int i)] [] = some (.fresh p, []) ∧ Pool 0 p := by
  have e1 : okPow 10 = true := by decide
  have e2 : okMul 7368787 ((i : Int) + 1) = true := okMul_nn (by decide) (by omega)
  by_cases h : i < ns.length
  · have hz0 := Int.emod_nonneg ns[i] (show (2305843009213693951 : Int) ≠ 0 by decide)
    have hz1 := Int.emod_lt_of_pos ns[i] (show (0 : Int) < 2305843009213693951 by decide)
    have e3 : ns[i]? = some ns[i] := List.getElem?_eq_getElem h
    have e4 : G_law_pool [.fz (.scr ns), .fz (.int i)] [] = some (.fresh [.int (if 1000000000000000000 < (if ns[i] < 0 then -ns[i] else ns[i]) then (if ns[i] < 0 then -ns[i] else ns[i]) - 1000000000000000000 else 0), .int (ns[i] % 2305843009213693951 + 7368787 * ((i : Int) + 1)), .int 0], []) := by
      unfold G_law_pool f_law_pool
      simp [fnD, sSeq, sSet, sDrop, sRet, sRetN, sIf, sAsg, sPar, sFor, forD, dC, dVar, dOp, der, ders, frz, frzs, dTup, dLst, aNil, aCons, aStar, PK.mk, dCB, PK.g1, PK.g2, lenD, absD, maxD, minD, PK.intD, listD, tupD, sumD, allD, intsD, bls, addD, subD, mulD, divD, modD, powD, cmpD, ixD, atI, ixN, dUn, negD, dB, truD, bNot, bAnd, bOr, bYes, dAndV, dOrV, dNotV, dChain, dFld, recvOk, dIsi, tyD, kitB, dCallN, callG, refs, renum, lives, PK.putAll, hNm, hSub, hNil, hCons, hTup, setIx, asgT, setAll, dMt, appD, extD, dLc, lcGo, wipeD, iSq, iRg1, iRg2, iZipD, iEnumD, iRevD, srcOf, rangeD, zipD, small, itemsD, List.range, List.range.loop, eqD_int, dSl, dRev, slD, cutD, okR, sNext, sNever, sBrk, sCnt, dMake, makeG, PK.initD, iSeq, iDrop, iSet, iFld, dMeth, dIfE, isND, PK.isNon, oSome, oNone, HT.sIx, e1, e2, e3, h]
    exact ⟨_, e4, _, ns[i] % 2305843009213693951 + 7368787 * ((i : Int) + 1), 0, rfl, by omega, by omega, by omega, by omega⟩
  · have e4 : G_law_pool [.fz (.scr ns), .fz (.int i)] [] = some (.fresh [.int 0, .int (7368787 * ((i : Int) + 1)), .int 0], []) := by
      unfold G_law_pool f_law_pool
      simp [fnD, sSeq, sSet, sDrop, sRet, sRetN, sIf, sAsg, sPar, sFor, forD, dC, dVar, dOp, der, ders, frz, frzs, dTup, dLst, aNil, aCons, aStar, PK.mk, dCB, PK.g1, PK.g2, lenD, absD, maxD, minD, PK.intD, listD, tupD, sumD, allD, intsD, bls, addD, subD, mulD, divD, modD, powD, cmpD, ixD, atI, ixN, dUn, negD, dB, truD, bNot, bAnd, bOr, bYes, dAndV, dOrV, dNotV, dChain, dFld, recvOk, dIsi, tyD, kitB, dCallN, callG, refs, renum, lives, PK.putAll, hNm, hSub, hNil, hCons, hTup, setIx, asgT, setAll, dMt, appD, extD, dLc, lcGo, wipeD, iSq, iRg1, iRg2, iZipD, iEnumD, iRevD, srcOf, rangeD, zipD, small, itemsD, List.range, List.range.loop, eqD_int, dSl, dRev, slD, cutD, okR, sNext, sNever, sBrk, sCnt, dMake, makeG, PK.initD, iSeq, iDrop, iSet, iFld, dMeth, dIfE, isND, PK.isNon, oSome, oNone, HT.sIx, e1, e2, h]
    exact ⟨_, e4, 0, 7368787 * ((i : Int) + 1), 0, rfl, by omega, by omega, by omega, by omega⟩
end K03
set_option maxHeartbeats 0
namespace K03
open PySem L2 PK
def rowD (r : List Int) : D := .lst (r.map D.int)
def mD (M : List (List Int)) : D := .lst (M.map rowD)
def Sm (k : Nat) (v : List Int) : Prop := ∀ x ∈ v, x.natAbs < 2 ^ k
theorem g_under {m : Nat} {p : List D} (hp : Pool m p) (hm : m ≤ 9000) : ∃ (b : Int) (p' : List D), G_law_under [.rf 0] [p] = some (.val (.int b), [p']) ∧ 1 ≤ b ∧ b.natAbs < 2 ^ 110 ∧ Pool (m + 3) p' := by
  obtain ⟨F, hF⟩ : ∃ F : Int, F = 10 ^ 30 := ⟨_, rfl⟩
  have f1 : 1 ≤ F := by rw [hF]; decide
  have f2 : F ≤ 10 ^ 31 := by rw [hF]; decide
  obtain ⟨a, p1, e1, a1, a2, hp1⟩ := g_draw (many := 6) hp (by decide) (by decide) (by omega)
  obtain ⟨c, p2, e2, c1, c2, hp2⟩ := g_draw (many := F) hp1 (by omega) (by omega) (by omega)
  obtain ⟨k, p3, e3, d1, d2, hp3⟩ := g_draw (many := 4) hp2 (by decide) (by decide) (by omega)
  have ok10 : okPow 10 = true := by decide
  have pw : (10 : Int) ^ 30 = F := hF.symm
  rcases (show k = 0 ∨ k = 1 ∨ k = 2 ∨ k = 3 by omega) with rfl | rfl | rfl | rfl
  · exact ⟨1, p3, by unfold G_law_under f_law_under; simp [fnD, sSeq, sSet, sDrop, sRet, sRetN, sIf, sAsg, sPar, sFor, forD, dC, dVar, dOp, der, ders, frz, frzs, dTup, dLst, aNil, aCons, aStar, PK.mk, dCB, PK.g1, PK.g2, lenD, absD, maxD, minD, PK.intD, listD, tupD, sumD, allD, intsD, bls, addD, subD, mulD, divD, modD, powD, cmpD, ixD, atI, ixN, dUn, negD, dB, truD, bNot, bAnd, bOr, bYes, dAndV, dOrV, dNotV, dChain, dFld, recvOk, dIsi, tyD, kitB, dCallN, callG, refs, renum, lives, PK.putAll, hNm, hSub, hNil, hCons, hTup, setIx, asgT, setAll, dMt, appD, extD, dLc, lcGo, wipeD, iSq, iRg1, iRg2, iZipD, iEnumD, iRevD, srcOf, rangeD, zipD, small, itemsD, List.range, List.range.loop, eqD_int, dSl, dRev, slD, cutD, okR, sNext, sNever, sBrk, sCnt, dMake, makeG, PK.initD, iSeq, iDrop, iSet, iFld, dMeth, dIfE, isND, PK.isNon, oSome, oNone, HT.sIx, e1, e2, e3, ok10, pw], by omega, by decide, hp3⟩
  · exact ⟨1 + a, p3, by unfold G_law_under f_law_under; simp [fnD, sSeq, sSet, sDrop, sRet, sRetN, sIf, sAsg, sPar, sFor, forD, dC, dVar, dOp, der, ders, frz, frzs, dTup, dLst, aNil, aCons, aStar, PK.mk, dCB, PK.g1, PK.g2, lenD, absD, maxD, minD, PK.intD, listD, tupD, sumD, allD, intsD, bls, addD, subD, mulD, divD, modD, powD, cmpD, ixD, atI, ixN, dUn, negD, dB, truD, bNot, bAnd, bOr, bYes, dAndV, dOrV, dNotV, dChain, dFld, recvOk, dIsi, tyD, kitB, dCallN, callG, refs, renum, lives, PK.putAll, hNm, hSub, hNil, hCons, hTup, setIx, asgT, setAll, dMt, appD, extD, dLc, lcGo, wipeD, iSq, iRg1, iRg2, iZipD, iEnumD, iRevD, srcOf, rangeD, zipD, small, itemsD, List.range, List.range.loop, eqD_int, dSl, dRev, slD, cutD, okR, sNext, sNever, sBrk, sCnt, dMake, makeG, PK.initD, iSeq, iDrop, iSet, iFld, dMeth, dIfE, isND, PK.isNon, oSome, oNone, HT.sIx, e1, e2, e3, ok10, pw], by omega, by omega, hp3⟩
  · exact ⟨12, p3, by unfold G_law_under f_law_under; simp [fnD, sSeq, sSet, sDrop, sRet, sRetN, sIf, sAsg, sPar, sFor, forD, dC, dVar, dOp, der, ders, frz, frzs, dTup, dLst, aNil, aCons, aStar, PK.mk, dCB, PK.g1, PK.g2, lenD, absD, maxD, minD, PK.intD, listD, tupD, sumD, allD, intsD, bls, addD, subD, mulD, divD, modD, powD, cmpD, ixD, atI, ixN, dUn, negD, dB, truD, bNot, bAnd, bOr, bYes, dAndV, dOrV, dNotV, dChain, dFld, recvOk, dIsi, tyD, kitB, dCallN, callG, refs, renum, lives, PK.putAll, hNm, hSub, hNil, hCons, hTup, setIx, asgT, setAll, dMt, appD, extD, dLc, lcGo, wipeD, iSq, iRg1, iRg2, iZipD, iEnumD, iRevD, srcOf, rangeD, zipD, small, itemsD, List.range, List.range.loop, eqD_int, dSl, dRev, slD, cutD, okR, sNext, sNever, sBrk, sCnt, dMake, makeG, PK.initD, iSeq, iDrop, iSet, iFld, dMeth, dIfE, isND, PK.isNon, oSome, oNone, HT.sIx, e1, e2, e3, ok10, pw], by omega, by decide, hp3⟩
  · exact ⟨1 + c, p3, by unfold G_law_under f_law_under; simp [fnD, sSeq, sSet, sDrop, sRet, sRetN, sIf, sAsg, sPar, sFor, forD, dC, dVar, dOp, der, ders, frz, frzs, dTup, dLst, aNil, aCons, aStar, PK.mk, dCB, PK.g1, PK.g2, lenD, absD, maxD, minD, PK.intD, listD, tupD, sumD, allD, intsD, bls, addD, subD, mulD, divD, modD, powD, cmpD, ixD, atI, ixN, dUn, negD, dB, truD, bNot, bAnd, bOr, bYes, dAndV, dOrV, dNotV, dChain, dFld, recvOk, dIsi, tyD, kitB, dCallN, callG, refs, renum, lives, PK.putAll, hNm, hSub, hNil, hCons, hTup, setIx, asgT, setAll, dMt, appD, extD, dLc, lcGo, wipeD, iSq, iRg1, iRg2, iZipD, iEnumD, iRevD, srcOf, rangeD, zipD, small, itemsD, List.range, List.range.loop, eqD_int, dSl, dRev, slD, cutD, okR, sNext, sNever, sBrk, sCnt, dMake, makeG, PK.initD, iSeq, iDrop, iSet, iFld, dMeth, dIfE, isND, PK.isNon, oSome, oNone, HT.sIx, e1, e2, e3, ok10, pw], by omega, by omega, hp3⟩
/-! ### lines -/
theorem dr {m : Nat} {p : List D} {many : Int} (hp : Pool m p) (h0 : 0 < many) (h1 : many < 2 ^ 200) (hm : m ≤ 10000) : ∃ d p', 0 ≤ d ∧ d < many ∧ Pool (m + 1) p' ∧ ∀ {f : EF} {sl : List (Option Vl)} {st : List (Option (List D))}, sl[0]? = some (some (.rf 0)) → 0 < st.length → f ⟨sl, st.set 0 (some p)⟩ = some (.fz (.int many), ⟨sl, st.set 0 (some p)⟩) →
    dCallN false 2 G_law_draw (aCons (dVar 0) (aCons f aNil)) ⟨sl, st.set 0 (some p)⟩ = some (.fz (.int d), ⟨sl, st.set 0 (some p')⟩) := by
  obtain ⟨d, p', a, b, c, e⟩ := d_draw hp h0 h1 hm
  refine ⟨d, p', a, b, c, fun {f sl st} hs hl hf => ?_⟩
  have ev : dVar 0 ⟨sl, st.set 0 (some p)⟩ = some (.rf 0, ⟨sl, st.set 0 (some p)⟩) := by simp [dVar, hs]
  have e2 := e (fa := aCons (dVar 0) (aCons f aNil)) (aC ev (aC (g := aNil) hf rfl)) (by rw [List.getElem?_set_self hl])
  rw [e2]
  simp only [List.set_set]
theorem app_gen {i k : Nat} {f : EF} {sl : List (Option Vl)} {st st2 : List (Option (List D))} {ds0 ds : List D} {d : D} (hs : sl[i]? = some (some (.rf k))) (hk : st[k]? = some (some ds0)) (e : f ⟨sl, st⟩ = some (.fz d, ⟨sl, st2⟩)) (hk2 : st2[k]? = some (some ds)) (hl : ds.length ≤ 1000) :
    sDrop (dMt appD (dVar i) (aCons f aNil)) ⟨sl, st⟩ = some (.nx, ⟨sl, st2.set k (some (ds ++ [d]))⟩) := by
  have h : ds.length < small := by simp [small]; omega
  simp [sDrop, dMt, dVar, hs, hk, aCons, aNil, e, frzs, frz, hk2, appD, h]
theorem app_rf {i j k l : Nat} {sl : List (Option Vl)} {st : List (Option (List D))} {ds es : List D} (hs : sl[i]? = some (some (.rf k))) (hk : st[k]? = some (some ds)) (hj : sl[j]? = some (some (.rf l))) (hl : st[l]? = some (some es)) (hkl : k ≠ l) (hn : ds.length ≤ 1000) :
    sDrop (dMt appD (dVar i) (aCons (dVar j) aNil)) ⟨sl, st⟩ = some (.nx, ⟨sl, (st.set l none).set k (some (ds ++ [.lst es]))⟩) := by
  have h : ds.length < small := by simp [small]; omega
  have hk2 : (st.set l none)[k]? = some (some ds) := by rw [List.getElem?_set_ne (Ne.symm hkl)]; exact hk
  simp [sDrop, dMt, dVar, hs, hk, aCons, aNil, hj, frzs, frz, hl, hk2, appD, h]
noncomputable def c1 : SF := sSet 7 (dLst true (aCons (dC (.int 0)) (aCons (dOp subD (dCallN false 2 G_law_draw (aCons (dVar 0) (aCons (dC (.int 7)) aNil))) (dC (.int 3))) (aCons (dOp subD (dCallN false 2 G_law_draw (aCons (dVar 0) (aCons (dC (.int 199)) aNil))) (dC (.int 99))) (aCons (dOp subD (dCallN false 2 G_law_draw (aCons (dVar 0) (aCons (dOp (mulD false) (dC (.int 2)) (dOp powD (dC (.int 10)) (dC (.int 30)))) aNil))) (dOp powD (dC (.int 10)) (dC (.int 30)))) aNil)))))
noncomputable def c2 : SF := sDrop (dMt appD (dVar 7) (aCons (dOp subD (dOp (mulD false) (dC (.int 12)) (dCallN false 2 G_law_draw (aCons (dVar 0) (aCons (dC (.int 9)) aNil)))) (dC (.int 48))) aNil))
noncomputable def c3 : SF := sDrop (dMt appD (dVar 5) (aCons (dOp ixD (dVar 7) (dOp ixD (dLst false (aCons (dVar 2) (aCons (dCallN false 2 G_law_draw (aCons (dVar 0) (aCons (dC (.int 5)) aNil))) aNil))) (dOp divD (dCallN false 2 G_law_draw (aCons (dVar 0) (aCons (dC (.int 3)) aNil))) (dC (.int 2))))) aNil))
noncomputable def lC : SF := sSeq c1 (sSeq c2 c3)
noncomputable def lB : SF := sSeq (sSet 5 (dLst true aNil)) (sSeq (sFor (iRg1 (dVar 1)) (.nm 6) lC) (sDrop (dMt appD (dVar 3) (aCons (dVar 5) aNil))))
theorem f_lines_eq : f_law_lines = sSeq (sPar [2, 3] (aCons (dCallN false 2 G_law_draw (aCons (dVar 0) (aCons (dC (.int 5)) aNil))) (aCons (dLst true aNil) aNil))) (sSeq (sFor (iRg1 (dVar 1)) (.nm 4) lB) (sRet (dVar 3))) := rfl
theorem five {d : Int} (h0 : 0 ≤ d) (h : d < 5) : d = 0 ∨ d = 1 ∨ d = 2 ∨ d = 3 ∨ d = 4 := by omega
def ls (S w : Int) (x4 x6 x7 : Option Vl) (k : Nat) (st : List (Option (List D))) : Dl := ⟨[some (.rf 0), some (.fz (.int S)), some (.fz (.int w)), some (.rf 1), x4, some (.rf k), x6, x7], st⟩
theorem d_lC {m k : Nat} {S w : Int} {x4 x6 x7 : Option Vl} {st : List (Option (List D))} {p L : List D} (hw : 0 ≤ w ∧ w < 5) (h0 : st[0]? = some (some p)) (hk : st[k]? = some (some L)) (hk2 : 2 ≤ k) (hp : Pool m p) (hm : m ≤ 8000) (hl : L.length ≤ 900) :
    ∃ v p' y7 st', lC (ls S w x4 x6 x7 k st) = some (.nx, ls S w x4 x6 y7 k st') ∧ v.natAbs < 2 ^ 110 ∧ st'[0]? = some (some p') ∧ Pool (m + 6) p' ∧ st'[k]? = some (some (L ++ [.int v])) ∧ st'[1]? = st[1]? := by
  obtain ⟨F, hF⟩ : ∃ F : Int, F = 10 ^ 30 := ⟨_, rfl⟩
  have f1 : 1 ≤ F := by rw [hF]; decide
  have f2 : F ≤ 10 ^ 31 := by rw [hF]; decide
  have ok10 : okPow 10 = true := by decide
  have pw : ∀ δ, dOp powD (dC (.int 10)) (dC (.int 30)) δ = some (.fz (.int F), δ) := fun δ => by
    rw [hF]
    simp [dOp, dC, der, powD, ok10]
  have okm : okMul 2 F = true := okMul_nn (by decide) (by omega)
  have pw2 : ∀ δ, dOp (mulD false) (dC (.int 2)) (dOp powD (dC (.int 10)) (dC (.int 30))) δ = some (.fz (.int (2 * F)), δ) := fun δ => by
    refine (dOp_ (g := mulD false) (fa := dC (.int 2)) rfl (pw δ) rfl rfl).trans ?_
    simp [mulD, okm]
  have hlen : 0 < st.length := (List.getElem?_eq_some_iff.mp h0).1
  have hklen : k < st.length := (List.getElem?_eq_some_iff.mp hk).1
  have hst : st = st.set 0 (some p) := by
    obtain ⟨h, e⟩ := List.getElem?_eq_some_iff.mp h0
    rw [← e, List.set_getElem_self]
  obtain ⟨d1, p1, a1, a2, hp1, e1⟩ := dr (many := 7) hp (by decide) (by decide) (by omega)
  obtain ⟨d2, p2, b1, b2, hp2, e2⟩ := dr (many := 199) hp1 (by decide) (by decide) (by omega)
  obtain ⟨d3, p3, g1, g2, hp3, e3⟩ := dr (many := 2 * F) hp2 (by omega) (by omega) (by omega)
  obtain ⟨d4, p4, q1, q2, hp4, e4⟩ := dr (many := 9) hp3 (by decide) (by decide) (by omega)
  obtain ⟨d5, p5, r1, r2, hp5, e5⟩ := dr (many := 5) hp4 (by decide) (by decide) (by omega)
  obtain ⟨d6, p6, t1, t2, hp6, e6⟩ := dr (many := 3) hp5 (by decide) (by decide) (by omega)
  -- the entry's list
  have s1 : c1 (ls S w x4 x6 x7 k st) = some (.nx, ls S w x4 x6 (some (.rf st.length)) k ((st ++ [some [D.int 0, D.int (d1 - 3), D.int (d2 - 99), D.int (d3 - F)]]).set 0 (some p3))) := by
    have i1 := e1 (f := dC (.int 7)) (sl := (ls S w x4 x6 x7 k st).sl) (st := st) rfl hlen rfl
    have i2 := e2 (f := dC (.int 199)) (sl := (ls S w x4 x6 x7 k st).sl) (st := st) rfl hlen rfl
    have i3 := e3 (sl := (ls S w x4 x6 x7 k st).sl) (st := st) rfl hlen (pw2 _)
    have j1 := dOp_ (g := subD) (fb := dC (.int 3)) i1 rfl rfl rfl
    have j2 := dOp_ (g := subD) (fb := dC (.int 99)) i2 rfl rfl rfl
    have j3 := dOp_ (g := subD) i3 (pw _) rfl rfl
    have j4 : dLst true (aCons (dC (.int 0)) (aCons (dOp subD (dCallN false 2 G_law_draw (aCons (dVar 0) (aCons (dC (.int 7)) aNil))) (dC (.int 3))) (aCons (dOp subD (dCallN false 2 G_law_draw (aCons (dVar 0) (aCons (dC (.int 199)) aNil))) (dC (.int 99))) (aCons (dOp subD (dCallN false 2 G_law_draw (aCons (dVar 0) (aCons (dOp (mulD false) (dC (.int 2)) (dOp powD (dC (.int 10)) (dC (.int 30)))) aNil))) (dOp powD (dC (.int 10)) (dC (.int 30)))) aNil)))) ⟨(ls S w x4 x6 x7 k st).sl, st.set 0 (some p)⟩ = some (PK.mk true [.int 0, .int (d1 - 3), .int (d2 - 99), .int (d3 - F)] ⟨(ls S w x4 x6 x7 k st).sl, st.set 0 (some p3)⟩) := by
      rw [dLst, aC (f := dC (.int 0)) rfl (aC j1 (aC j2 (aC (g := aNil) j3 rfl)))]
      rfl
    have hh : ls S w x4 x6 x7 k st = ⟨(ls S w x4 x6 x7 k st).sl, st.set 0 (some p)⟩ := by rw [← hst]; rfl
    rw [hh]
    unfold c1
    rw [sSet_ j4]
    have hap : (st ++ [some [D.int 0, D.int (d1 - 3), D.int (d2 - 99), D.int (d3 - F)]]).set 0 (some p3) = st.set 0 (some p3) ++ [some [D.int 0, D.int (d1 - 3), D.int (d2 - 99), D.int (d3 - F)]] := by rw [List.set_append_left _ _ hlen]
    rw [hap]
    simp [PK.mk, ls]
  obtain ⟨E, hE⟩ : ∃ E, E = [D.int 0, .int (d1 - 3), .int (d2 - 99), .int (d3 - F)] := ⟨_, rfl⟩
  rw [← hE] at s1
  obtain ⟨T, hT⟩ : ∃ T, T = st ++ [some E] := ⟨_, rfl⟩
  rw [← hT] at s1
  have hTl : 0 < T.length := by rw [hT]; simp
  have hTk : T[k]? = some (some L) := by rw [hT, List.getElem?_append_left hklen]; exact hk
  have hTe : T[st.length]? = some (some E) := by rw [hT]; simp
  have hT1 : T[1]? = st[1]? := by rw [hT, List.getElem?_append_left (by omega)]
  have s2 : c2 (ls S w x4 x6 (some (.rf st.length)) k (T.set 0 (some p3))) = some (.nx, ls S w x4 x6 (some (.rf st.length)) k ((T.set st.length (some (E ++ [D.int (12 * d4 - 48)]))).set 0 (some p4))) := by
    have i1 := e4 (f := dC (.int 9)) (sl := (ls S w x4 x6 (some (.rf st.length)) k st).sl) (st := T) rfl hTl rfl
    have ok4 : okMul 12 d4 = true := okMul_nn (by decide) (by omega)
    have j1 := (dOp_ (g := mulD false) (fa := dC (.int 12)) rfl i1 rfl rfl).trans (show mulD false _ (D.int 12) (D.int d4) = some (.fz (.int (12 * d4)), _) by simp [mulD, ok4]; rfl)
    have j2 := dOp_ (g := subD) (fb := dC (.int 48)) j1 rfl rfl rfl
    have := app_gen (i := 7) (k := st.length) (ds0 := E) (ds := E) rfl (by rw [List.getElem?_set_ne (by omega)]; exact hTe) j2 (by rw [List.getElem?_set_ne (by omega)]; exact hTe) (by rw [hE]; simp)
    unfold c2
    rw [List.set_comm _ _ (by omega : st.length ≠ 0)]
    exact this
  obtain ⟨U, hU⟩ : ∃ U, U = T.set st.length (some (E ++ [D.int (12 * d4 - 48)])) := ⟨_, rfl⟩
  rw [← hU] at s2
  have hUl : 0 < U.length := by rw [hU, List.length_set]; exact hTl
  have hUk : U[k]? = some (some L) := by rw [hU, List.getElem?_set_ne (by omega)]; exact hTk
  have hTs : st.length < T.length := by rw [hT]; simp
  have hUe : U[st.length]? = some (some (E ++ [D.int (12 * d4 - 48)])) := by rw [hU, List.getElem?_set_self hTs]
  have hU1 : U[1]? = st[1]? := by rw [hU, List.getElem?_set_ne (by omega)]; exact hT1
  have key : ∃ v : Int, v.natAbs < 2 ^ 110 ∧ ixD ⟨(ls S w x4 x6 (some (.rf st.length)) k st).sl, U.set 0 (some p6)⟩ (.lst (E ++ [D.int (12 * d4 - 48)])) (.int (if d6 / 2 = 0 then w else d5)) = some (.fz (.int v), ⟨(ls S w x4 x6 (some (.rf st.length)) k st).sl, U.set 0 (some p6)⟩) := by
    have h5 : 0 ≤ (if d6 / 2 = 0 then w else d5) ∧ (if d6 / 2 = 0 then w else d5) < 5 := by split <;> omega
    generalize (if d6 / 2 = 0 then w else d5) = z at h5
    rw [hE]
    rcases five h5.1 h5.2 with rfl | rfl | rfl | rfl | rfl
    · exact ⟨0, by decide, rfl⟩
    · exact ⟨d1 - 3, by omega, rfl⟩
    · exact ⟨d2 - 99, by omega, rfl⟩
    · exact ⟨d3 - F, by omega, rfl⟩
    · exact ⟨12 * d4 - 48, by omega, rfl⟩
  obtain ⟨v, hv, kv⟩ := key
  have s3 : c3 (ls S w x4 x6 (some (.rf st.length)) k (U.set 0 (some p4))) = some (.nx, ls S w x4 x6 (some (.rf st.length)) k ((U.set 0 (some p6)).set k (some (L ++ [.int v])))) := by
    have i1 := e5 (f := dC (.int 5)) (sl := (ls S w x4 x6 (some (.rf st.length)) k st).sl) (st := U) rfl hUl rfl
    have i2 := e6 (f := dC (.int 3)) (sl := (ls S w x4 x6 (some (.rf st.length)) k st).sl) (st := U) rfl hUl rfl
    have j1 : dLst false (aCons (dVar 2) (aCons (dCallN false 2 G_law_draw (aCons (dVar 0) (aCons (dC (.int 5)) aNil))) aNil)) ⟨(ls S w x4 x6 (some (.rf st.length)) k st).sl, U.set 0 (some p4)⟩ = some (.fz (.lst [.int w, .int d5]), ⟨(ls S w x4 x6 (some (.rf st.length)) k st).sl, U.set 0 (some p5)⟩) := by
      rw [dLst, aC (f := dVar 2) rfl (aC (g := aNil) i1 rfl)]
      rfl
    have j2 := (dOp_ (g := divD) (fb := dC (.int 2)) i2 rfl rfl rfl).trans (show divD _ (D.int d6) (D.int 2) = some (.fz (.int (d6 / 2)), _) from rfl)
    have j3 := (dOp_ (g := ixD) j1 j2 rfl rfl).trans (show ixD _ (D.lst [.int w, .int d5]) (D.int (d6 / 2)) = some (.fz (.int (if d6 / 2 = 0 then w else d5)), _) by
      rcases (show d6 = 0 ∨ d6 = 1 ∨ d6 = 2 by omega) with rfl | rfl | rfl <;> rfl)
    have j4 := (dOp_ (g := ixD) (fa := dVar 7) (δ := ⟨(ls S w x4 x6 (some (.rf st.length)) k st).sl, U.set 0 (some p4)⟩) (x := .rf st.length) rfl j3 (a := .lst (E ++ [D.int (12 * d4 - 48)])) (by
      have : (U.set 0 (some p6))[st.length]? = some (some (E ++ [D.int (12 * d4 - 48)])) := by rw [List.getElem?_set_ne (by omega)]; exact hUe
      simp [der, this]) rfl).trans kv
    have := app_gen (i := 5) (k := k) (ds0 := L) (ds := L) rfl (by rw [List.getElem?_set_ne (by omega)]; exact hUk) j4 (by rw [List.getElem?_set_ne (by omega)]; exact hUk) (by omega)
    exact this
  refine ⟨v, p6, some (.rf st.length), (U.set 0 (some p6)).set k (some (L ++ [.int v])), ?_, hv, ?_, hp6, ?_, ?_⟩
  · unfold lC
    rw [sSeq_nx s1, sSeq_nx s2, s3]
  · rw [List.getElem?_set_ne (by omega), List.getElem?_set_self hUl]
  · rw [List.getElem?_set_self (by rw [List.length_set]; exact (List.getElem?_eq_some_iff.mp hUk).1)]
  · rw [List.getElem?_set_ne (by omega), List.getElem?_set_ne (by omega)]
    exact hU1
end K03
set_option maxHeartbeats 0
namespace K03
open PySem L2 PK
theorem iRg_ {s : Nat} {f : EF} {δ : Dl} (hs : s ≤ 1000) (e : f δ = some (.fz (.int s), δ)) : iRg1 f δ = some (rangeD 0 s, [], δ) := by
  rw [iRg1, e, Option.bind_some]
  simp [okR, show (s : Int) < 4611686018427387904 by omega, show (-4611686018427387904 : Int) ≤ s by omega]
theorem rangeD_len (s : Nat) : (rangeD 0 s).length = s := by simp [rangeD]
theorem d_lin {s m k : Nat} {w : Int} {x4 x6 x7 : Option Vl} {st : List (Option (List D))} {p : List D} (hs : s ≤ 3) (hw : 0 ≤ w ∧ w < 5) (h0 : st[0]? = some (some p)) (hk : st[k]? = some (some [])) (hk2 : 2 ≤ k) (hp : Pool m p) (hm : m ≤ 7000) :
    ∃ L p' y6 y7 st', sFor (iRg1 (dVar 1)) (.nm 6) lC (ls s w x4 x6 x7 k st) = some (.nx, ls s w x4 y6 y7 k st') ∧ L.length = s ∧ Sm 110 L ∧ st'[0]? = some (some p') ∧ Pool (m + 18) p' ∧ st'[k]? = some (some (L.map D.int)) ∧ st'[1]? = st[1]? := by
  obtain ⟨δ', e, p2, L, y6, y7, st2, rfl, a1, a2, a3, a4, a5, a6⟩ := forD_inv (tg := .nm 6) (body := lC) (ck := []) (fun i δ => ∃ p2 L y6 y7 st2, δ = ls s w x4 y6 y7 k st2 ∧ st2[0]? = some (some p2) ∧ Pool (m + 6 * i) p2 ∧ st2[k]? = some (some (L.map D.int)) ∧ L.length = i ∧ Sm 110 L ∧ st2[1]? = st[1]?) (fun i δ _ => by simp) (rangeD 0 s) 0 (ls s w x4 x6 x7 k st) ⟨p, [], x6, x7, st, rfl, h0, hp, by simpa using hk, rfl, (fun x hx => by cases hx), rfl⟩ (by
    rintro j d δ hj ⟨p2, L, y6, y7, st2, rfl, a1, a2, a3, a4, a5, a6⟩
    have hjs : j < s := by
      obtain ⟨hlt, _⟩ := List.getElem?_eq_some_iff.mp hj
      simpa [rangeD] using hlt
    refine ⟨ls s w x4 (some (.fz d)) y7 k st2, rfl, ?_⟩
    obtain ⟨v, p3, z7, st3, e, b1, b2, b3, b4, b5⟩ := d_lC (S := s) (x4 := x4) (x6 := some (.fz d)) (x7 := y7) hw a1 a3 hk2 a2 (by omega) (by rw [List.length_map]; omega)
    refine ⟨_, e, p3, L ++ [v], some (.fz d), z7, st3, rfl, b2, b3.up (by omega), by rw [b4]; simp, by rw [List.length_append, List.length_singleton]; omega, ?_, by rw [b5, a6]⟩
    intro x hx
    rcases List.mem_append.mp hx with h | h
    · exact a5 x h
    · rw [List.mem_singleton.mp h]; exact b1)
  have hr := iRg_ (s := s) (f := dVar 1) (δ := ls s w x4 x6 x7 k st) (by omega) rfl
  rw [rangeD_len] at a2 a4
  refine ⟨L, p2, y6, y7, st2, ?_, by omega, a5, a1, a2.up (by omega), a3, a6⟩
  rw [sFor, hr]
  exact e
def lt (S w : Int) (x4 x5 x6 x7 : Option Vl) (st : List (Option (List D))) : Dl := ⟨[some (.rf 0), some (.fz (.int S)), some (.fz (.int w)), some (.rf 1), x4, x5, x6, x7], st⟩
theorem d_lB {s m : Nat} {w : Int} {x4 x5 x6 x7 : Option Vl} {st : List (Option (List D))} {p : List D} {M : List (List Int)} (hs : s ≤ 3) (hw : 0 ≤ w ∧ w < 5) (h0 : st[0]? = some (some p)) (h1 : st[1]? = some (some (M.map rowD))) (hM : M.length ≤ 100) (hp : Pool m p) (hm : m ≤ 7000) :
    ∃ L p' y5 y6 y7 st', lB (lt s w x4 x5 x6 x7 st) = some (.nx, lt s w x4 y5 y6 y7 st') ∧ L.length = s ∧ Sm 110 L ∧ st'[0]? = some (some p') ∧ Pool (m + 18) p' ∧ st'[1]? = some (some ((M ++ [L]).map rowD)) := by
  have l1 : 1 < st.length := (List.getElem?_eq_some_iff.mp h1).1
  have s1 : sSet 5 (dLst true aNil) (lt s w x4 x5 x6 x7 st) = some (.nx, ls s w x4 x6 x7 st.length (st ++ [some []])) := rfl
  obtain ⟨L, p', y6, y7, st2, e, a1, a2, a3, a4, a5, a6⟩ := d_lin (s := s) (x4 := x4) (x6 := x6) (x7 := x7) (k := st.length) (st := st ++ [some []]) hs hw (by rw [List.getElem?_append_left (by omega)]; exact h0) (by simp) (by omega) hp hm
  rw [List.getElem?_append_left l1, h1] at a6
  have s3 := app_rf (i := 3) (j := 5) (k := 1) (l := st.length) (sl := (ls s w x4 y6 y7 st.length st2).sl) (st := st2) rfl a6 rfl a5 (by omega) (by rw [List.length_map]; omega)
  have l2 : 1 < st2.length := (List.getElem?_eq_some_iff.mp a6).1
  refine ⟨L, p', some (.rf st.length), y6, y7, (st2.set st.length none).set 1 (some (M.map rowD ++ [rowD L])), ?_, a1, a2, ?_, a4, ?_⟩
  · unfold lB
    rw [sSeq_nx s1, sSeq_nx e]
    exact s3
  · rw [List.getElem?_set_ne (by omega), List.getElem?_set_ne (by omega)]
    exact a3
  · rw [List.getElem?_set_self (by rw [List.length_set]; exact l2)]
    simp
def Sq (s : Nat) (M : List (List Int)) : Prop := M.length = s ∧ ∀ r ∈ M, r.length = s
def Sms (k : Nat) (M : List (List Int)) : Prop := ∀ r ∈ M, Sm k r
theorem g_lines {s m : Nat} {p : List D} (hs : s ≤ 3) (hp : Pool m p) (hm : m ≤ 6000) : ∃ (M : List (List Int)) (p' : List D), G_law_lines [.rf 0, .fz (.int s)] [p] = some (.fresh (M.map rowD), [p']) ∧ Sq s M ∧ Sms 110 M ∧ Pool (m + 60) p' := by
  obtain ⟨w, p1, w0, w5, hp1, e1⟩ := dr (many := 5) hp (by decide) (by decide) (by omega)
  have i1 : dCallN false 2 G_law_draw (aCons (dVar 0) (aCons (dC (.int 5)) aNil)) ⟨[some (.rf 0), some (.fz (.int s)), none, none, none, none, none, none], [some p]⟩ = some (.fz (.int w), ⟨[some (.rf 0), some (.fz (.int s)), none, none, none, none, none, none], [some p1]⟩) := e1 (f := dC (.int 5)) (sl := [some (.rf 0), some (.fz (.int s)), none, none, none, none, none, none]) (st := [some p]) rfl (by simp) rfl
  have s1 : sPar [2, 3] (aCons (dCallN false 2 G_law_draw (aCons (dVar 0) (aCons (dC (.int 5)) aNil))) (aCons (dLst true aNil) aNil)) ⟨[some (.rf 0), some (.fz (.int s)), none, none, none, none, none, none], [some p]⟩ = some (.nx, lt s w none none none none [some p1, some []]) := by
    rw [sPar2 (aC i1 (aC (f := dLst true aNil) (g := aNil) rfl rfl))]
    rfl
  obtain ⟨δ', e, p2, M, y4, y5, y6, y7, st2, rfl, a1, a2, a3, a4, a5, a6⟩ := forD_inv (tg := .nm 4) (body := lB) (ck := []) (fun i δ => ∃ p2 M y4 y5 y6 y7 st2, δ = lt s w y4 y5 y6 y7 st2 ∧ st2[0]? = some (some p2) ∧ Pool (m + 1 + 18 * i) p2 ∧ st2[1]? = some (some (M.map rowD)) ∧ M.length = i ∧ (∀ r ∈ M, r.length = s) ∧ Sms 110 M) (fun i δ _ => by simp) (rangeD 0 s) 0 (lt s w none none none none [some p1, some []]) ⟨p1, [], none, none, none, none, _, rfl, rfl, hp1, rfl, rfl, (fun r hr => by cases hr), (fun r hr => by cases hr)⟩ (by
    rintro j d δ hj ⟨p2, M, y4, y5, y6, y7, st2, rfl, a1, a2, a3, a4, a5, a6⟩
    have hjs : j < s := by
      obtain ⟨hlt, _⟩ := List.getElem?_eq_some_iff.mp hj
      simpa [rangeD] using hlt
    refine ⟨lt s w (some (.fz d)) y5 y6 y7 st2, rfl, ?_⟩
    obtain ⟨L, p3, z5, z6, z7, st3, e, b1, b2, b3, b4, b5⟩ := d_lB (s := s) (x4 := some (.fz d)) (x5 := y5) (x6 := y6) (x7 := y7) hs ⟨w0, w5⟩ a1 a3 (by omega) a2 (by omega)
    refine ⟨_, e, p3, M ++ [L], some (.fz d), z5, z6, z7, st3, rfl, b3, b4.up (by omega), b5, by rw [List.length_append, List.length_singleton]; omega, ?_, ?_⟩
    · intro r hr
      rcases List.mem_append.mp hr with h | h
      · exact a5 r h
      · rw [List.mem_singleton.mp h]; exact b1
    · intro r hr
      rcases List.mem_append.mp hr with h | h
      · exact a6 r h
      · rw [List.mem_singleton.mp h]; exact b2)
  have hr := iRg_ (s := s) (f := dVar 1) (δ := lt s w none none none none [some p1, some []]) (by omega) rfl
  rw [rangeD_len] at a2 a4
  refine ⟨M, p2, ?_, ⟨by omega, a5⟩, a6, a2.up (by omega)⟩
  have s2 : sFor (iRg1 (dVar 1)) (.nm 4) lB (lt s w none none none none [some p1, some []]) = some (.nx, lt s w y4 y5 y6 y7 st2) := by
    rw [sFor, hr]
    exact e
  unfold G_law_lines fnD
  rw [f_lines_eq]
  show ((sSeq _ (sSeq _ _) ⟨[some (.rf 0), some (.fz (.int s)), none, none, none, none, none, none], [some p]⟩).bind _) = _
  rw [sSeq_nx s1, sSeq_nx s2]
  simp [sRet, dVar, lt, lives, List.range, List.range.loop, a1, a3]
end K03
set_option maxHeartbeats 0
namespace K03
open PySem L2 PK
/-! ### the common divisor -/
def gI (a b : Int) : Int := (Int.gcd a b : Nat)
def st2 (a b : Int) : Dl := ⟨[some (.fz (.int a)), some (.fz (.int b))], []⟩
/-! ### all of a matrix -/
def cdv (b : Int) (M : List (List Int)) : Int := M.foldl (fun c r => r.foldl gI c) b
theorem gI_pos {a b : Int} (h : 1 ≤ a) : 1 ≤ gI a b ∧ gI a b ≤ a := by
  have h1 : 0 < Int.gcd a b := Int.gcd_pos_of_ne_zero_left b (by omega)
  have h2 : Int.gcd a b ≤ a.natAbs := by
    rw [Int.gcd_eq_natAbs_gcd_natAbs]
    exact Nat.gcd_le_left _ (by omega)
  unfold gI
  omega
theorem fold_pos : ∀ (r : List Int) (c : Int), 1 ≤ c → 1 ≤ r.foldl gI c ∧ r.foldl gI c ≤ c
  | [], c, h => ⟨h, Int.le_refl _⟩
  | e :: r, c, h => by
    have h1 := gI_pos (b := e) h
    have h2 := fold_pos r (gI c e) h1.1
    rw [List.foldl_cons]
    omega
theorem cdv_pos : ∀ (M : List (List Int)) (b : Int), 1 ≤ b → 1 ≤ cdv b M ∧ cdv b M ≤ b
  | [], b, h => ⟨h, Int.le_refl _⟩
  | r :: M, b, h => by
    have h1 := fold_pos r b h
    have h2 := cdv_pos M (r.foldl gI b) h1.1
    have e : cdv b (r :: M) = cdv (r.foldl gI b) M := rfl
    rw [e]
    omega
section
variable {g : EF} {A B : Option Vl}
theorem in_loop (hg : ∀ (c e : Int) (C : Option Vl), 1 ≤ c → c.natAbs < 2 ^ 4000 → e.natAbs < 2 ^ 4000 → g ⟨[A, B, some (.fz (.int c)), C, some (.fz (.int e))], []⟩ = some (.fz (.int (gI c e)), ⟨[A, B, some (.fz (.int c)), C, some (.fz (.int e))], []⟩)) : ∀ (r : List Int) (c : Int) (C x : Option Vl), 1 ≤ c → c.natAbs < 2 ^ 4000 → Sm 4000 r →
    ∃ y, forD [] (.nm 4) (sSet 2 g) (r.map D.int) ⟨[A, B, some (.fz (.int c)), C, x], []⟩ = some (.nx, ⟨[A, B, some (.fz (.int (r.foldl gI c))), C, y], []⟩)
  | [], c, C, x, _, _, _ => ⟨x, forD_nil0⟩
  | e :: r, c, C, x, h1, h2, h3 => by
    have p := gI_pos (b := e) h1
    obtain ⟨y, ih⟩ := in_loop hg r (gI c e) C (some (.fz (.int e))) p.1 (by omega) (fun z hz => h3 z (List.mem_cons_of_mem _ hz))
    refine ⟨y, ?_⟩
    rw [List.map_cons, List.foldl_cons]
    refine forD_nm (δ2 := ⟨[A, B, some (.fz (.int (gI c e))), C, some (.fz (.int e))], []⟩) ?_ ih
    show sSet 2 g ⟨[A, B, some (.fz (.int c)), C, some (.fz (.int e))], []⟩ = _
    rw [sSet_ (hg c e C h1 h2 (h3 e List.mem_cons_self))]
    rfl
theorem out_loop (hg : ∀ (c e : Int) (C : Option Vl), 1 ≤ c → c.natAbs < 2 ^ 4000 → e.natAbs < 2 ^ 4000 → g ⟨[A, B, some (.fz (.int c)), C, some (.fz (.int e))], []⟩ = some (.fz (.int (gI c e)), ⟨[A, B, some (.fz (.int c)), C, some (.fz (.int e))], []⟩)) : ∀ (M : List (List Int)) (c : Int) (C x : Option Vl), 1 ≤ c → c.natAbs < 2 ^ 4000 → Sms 4000 M →
    ∃ C' y, forD [] (.nm 3) (sFor (iSq (dVar 3)) (.nm 4) (sSet 2 g)) (M.map rowD) ⟨[A, B, some (.fz (.int c)), C, x], []⟩ = some (.nx, ⟨[A, B, some (.fz (.int (cdv c M))), C', y], []⟩)
  | [], c, C, x, _, _, _ => ⟨C, x, forD_nil0⟩
  | r :: M, c, C, x, h1, h2, h3 => by
    have p := fold_pos r c h1
    obtain ⟨y, e1⟩ := in_loop hg r c (some (.fz (rowD r))) x h1 h2 (h3 r List.mem_cons_self)
    obtain ⟨C', z, ih⟩ := out_loop hg M (r.foldl gI c) (some (.fz (rowD r))) y p.1 (by omega) (fun z hz => h3 z (List.mem_cons_of_mem _ hz))
    refine ⟨C', z, ?_⟩
    rw [List.map_cons]
    refine forD_nm (δ2 := ⟨[A, B, some (.fz (.int (r.foldl gI c))), some (.fz (rowD r)), y], []⟩) ?_ ih
    show sFor (iSq (dVar 3)) (.nm 4) (sSet 2 g) ⟨[A, B, some (.fz (.int c)), some (.fz (rowD r)), x], []⟩ = _
    rw [sFor]
    show (Option.bind (some (r.map D.int, [], _)) _) = _
    exact e1
end
theorem lc_map {α : Type} {m : Bool} {f elt : EF} {j : Nat} {sl : List (Option Vl)} {st : List (Option (List D))} {xs : List α} {en out : α → D} (hf : f ⟨sl, st⟩ = some (.fz (.lst (xs.map en)), ⟨sl, st⟩)) (hl : xs.length ≤ 1000)
    (he : ∀ x ∈ xs, ∃ sl2, elt ⟨(wipeD sl [j]).set j (some (.fz (en x))), st⟩ = some (.fz (out x), ⟨sl2, st⟩)) : dLc m (iSq f) (.nm j) [j] bYes elt ⟨sl, st⟩ = some (PK.mk m (xs.map out) ⟨sl, st⟩) := by
  have e := lcGo_map (own := [j]) (elt := elt) (i := j) (sl := wipeD sl [j]) (st := st) (en := en) (out := out) xs [] (by simp [small]; omega) he
  rw [List.nil_append] at e
  have e1 : iSq f ⟨sl, st⟩ = some (xs.map en, [], ⟨sl, st⟩) := by
    rw [iSq, hf]
    rfl
  rw [dLc, e1, Option.bind_some]
  show (Option.map _ (lcGo [] (.nm j) [j] bYes elt (wipeD sl [j]) (xs.map en) [] ⟨wipeD sl [j], st⟩)) = _
  rw [e]
  rfl
def dvs (g : Int) (M : List (List Int)) : List (List Int) := M.map fun r => r.map fun e => e / g
/-- the least form -/
def lr (M : List (List Int)) (b : Int) : List (List Int) := dvs (cdv b M) M
def lb (M : List (List Int)) (b : Int) : Int := b / cdv b M
theorem okDiv_pos {g : Int} (h : 1 ≤ g) (h2 : g.natAbs < 2 ^ 4000) : okDiv g = true := by
  unfold okDiv
  have h3 : g.natAbs.log2 < 4000 := (Nat.log2_lt (by omega)).mpr h2
  exact decide_eq_true ⟨by omega, by omega⟩
theorem g_common {M : List (List Int)} {b : Int} (h1 : 1 ≤ b) (h2 : b.natAbs < 2 ^ 4000) (h3 : Sms 4000 M) : G_common_divisor [.fz (mD M), .fz (.int b)] [] = some (.val (.int (cdv b M)), []) := by
  obtain ⟨C', y, e⟩ := out_loop (g := dCB gcdD (aCons (dVar 2) (aCons (dVar 4) aNil))) (A := some (.fz (mD M))) (B := some (.fz (.int b))) (fun c e C _ _ _ => by simp [fnD, sSeq, sSet, sDrop, sRet, sRetN, sIf, sAsg, sPar, sFor, forD, dC, dVar, dOp, der, ders, frz, frzs, dTup, dLst, aNil, aCons, aStar, PK.mk, dCB, PK.g1, PK.g2, lenD, absD, maxD, minD, PK.intD, listD, tupD, sumD, allD, intsD, bls, addD, subD, mulD, divD, modD, powD, cmpD, ixD, atI, ixN, dUn, negD, dB, truD, bNot, bAnd, bOr, bYes, dAndV, dOrV, dNotV, dChain, dFld, recvOk, dIsi, tyD, kitB, dCallN, callG, refs, renum, lives, PK.putAll, hNm, hSub, hNil, hCons, hTup, setIx, asgT, setAll, dMt, appD, extD, dLc, lcGo, wipeD, iSq, iRg1, iRg2, iZipD, iEnumD, iRevD, srcOf, rangeD, zipD, small, itemsD, List.range, List.range.loop, eqD_int, dSl, dRev, slD, cutD, okR, sNext, sNever, sBrk, sCnt, dMake, makeG, PK.initD, iSeq, iDrop, iSet, iFld, dMeth, dIfE, isND, PK.isNon, oSome, oNone, HT.sIx, gcdD]; rfl) M b none none h1 h2 h3
  have s1 : sSet 2 (dVar 1) ⟨[some (.fz (mD M)), some (.fz (.int b)), none, none, none], []⟩ = some (.nx, ⟨[some (.fz (mD M)), some (.fz (.int b)), some (.fz (.int b)), none, none], []⟩) := rfl
  have s2 : sFor (iSq (dVar 0)) (.nm 3) (sFor (iSq (dVar 3)) (.nm 4) (sSet 2 (dCB gcdD (aCons (dVar 2) (aCons (dVar 4) aNil))))) ⟨[some (.fz (mD M)), some (.fz (.int b)), some (.fz (.int b)), none, none], []⟩ = some (.nx, ⟨[some (.fz (mD M)), some (.fz (.int b)), some (.fz (.int (cdv b M))), C', y], []⟩) := by
    rw [sFor]
    show (Option.bind (some (M.map rowD, [], _)) _) = _
    exact e
  unfold G_common_divisor fnD f_common_divisor
  show ((sSeq _ (sSeq _ _) ⟨[some (.fz (mD M)), some (.fz (.int b)), none, none, none], []⟩).bind _) = _
  rw [sSeq_nx s1, sSeq_nx s2]
  rfl
end K03
set_option maxHeartbeats 0
namespace K03
open PySem L2 PK
theorem lcGo_tp {α : Type} {own : List Nat} {elt : EF} {i j : Nat} {sl : List (Option Vl)} {st : List (Option (List D))} {e1 e2 out : α → D} : ∀ (xs : List α) (acc : List D), acc.length + xs.length ≤ small →
    (∀ x ∈ xs, ∃ sl', elt ⟨(sl.set i (some (.fz (e1 x)))).set j (some (.fz (e2 x))), st⟩ = some (.fz (out x), ⟨sl', st⟩)) → lcGo [] (.tp [i, j]) own bYes elt sl (xs.map fun x => .tup [e1 x, e2 x]) acc ⟨sl, st⟩ = some (acc ++ xs.map out, ⟨sl, st⟩)
  | [], acc, _, _ => by simp [lcGo]
  | x :: xs, acc, hl, h => by
    rw [List.length_cons] at hl
    obtain ⟨sl', e⟩ := h x List.mem_cons_self
    have ih := lcGo_tp (own := own) xs (acc ++ [out x]) (by simp; omega) fun y hy => h y (List.mem_cons_of_mem _ hy)
    have h1 : acc.length < small := by omega
    rw [List.append_assoc, List.singleton_append] at ih
    rw [List.map_cons, List.map_cons, ← ih, lcGo]
    simp [h1, asgT, setAll, bYes, e, frz]
theorem zipD_ints : ∀ (a b : List Int), zipD (a.map D.int) (b.map D.int) = (a.zip b).map fun p => .tup [.int p.1, .int p.2]
  | [], b => by simp [zipD]
  | _ :: _, [] => by simp [zipD]
  | x :: a, y :: b => by simp [zipD, zipD_ints a b]
def dotI (a b : List Int) : Int := ((a.zip b).map fun p => p.1 * p.2).sum
theorem okMul_big {i j : Int} (hi : i.natAbs < 2 ^ 4000) (hj : j.natAbs < 2 ^ 4000) : okMul i j = true := by
  unfold okMul
  have := log_of hi
  have := log_of hj
  exact decide_eq_true (by omega)
theorem intsD_map : ∀ (xs : List Int), intsD (xs.map D.int) = some xs
  | [] => rfl
  | x :: xs => by simp [intsD, intsD_map xs]
theorem g_dot {y : D} {a b : List Int} (hy : y = .lst (b.map D.int) ∨ y = .tup (b.map D.int)) (ha : Sm 4000 a) (hb : Sm 4000 b) (hl : a.length ≤ 100) : G_dot [.fz (rowD a), .fz y] [] = some (.val (.int (dotI a b)), []) := by
  have e1 : iZipXD (dVar 0) (dVar 1) ⟨[some (.fz (rowD a)), some (.fz y), none, none], []⟩ = some ((a.zip b).map fun p => .tup [.int p.1, .int p.2], [], ⟨[some (.fz (rowD a)), some (.fz y), none, none], []⟩) := by
    rw [← zipD_ints]
    rcases hy with rfl | rfl <;> simp [iZipXD, dVar, rowD, srcOf]
  have e2 := lcGo_tp (own := [2, 3]) (elt := dOp (mulD false) (dVar 2) (dVar 3)) (i := 2) (j := 3) (sl := [some (.fz (rowD a)), some (.fz y), none, none]) (st := []) (e1 := fun p : Int × Int => .int p.1) (e2 := fun p => .int p.2) (out := fun p => .int (p.1 * p.2)) (a.zip b) [] (by simp [small]; omega) fun p hp => ⟨_, by
    have ok : okMul p.1 p.2 = true := okMul_big (ha _ (List.of_mem_zip (a := p.1) (b := p.2) hp).1) (hb _ (List.of_mem_zip (a := p.1) (b := p.2) hp).2)
    refine (dOp_ (g := mulD false) (fa := dVar 2) (fb := dVar 3) rfl rfl rfl rfl).trans ?_
    simp [mulD, ok]
    rfl⟩
  have e3 : ((a.zip b).map fun p => D.int (p.1 * p.2)) = ((a.zip b).map fun p => p.1 * p.2).map D.int := by rw [List.map_map]; rfl
  rw [List.nil_append, e3] at e2
  have e4 : dLc false (iZipXD (dVar 0) (dVar 1)) (.tp [2, 3]) [2, 3] bYes (dOp (mulD false) (dVar 2) (dVar 3)) ⟨[some (.fz (rowD a)), some (.fz y), none, none], []⟩ = some (.fz (rowD ((a.zip b).map fun p => p.1 * p.2)), ⟨[some (.fz (rowD a)), some (.fz y), none, none], []⟩) := by
    rw [dLc, e1, Option.bind_some]
    show (Option.map _ (lcGo [] (.tp [2, 3]) [2, 3] bYes _ [some (.fz (rowD a)), some (.fz y), none, none] _ [] ⟨[some (.fz (rowD a)), some (.fz y), none, none], []⟩)) = _
    rw [e2]
    rfl
  have e5 := (cb1_ (g := sumD) e4 rfl).trans (show sumD _ [rowD ((a.zip b).map fun p => p.1 * p.2)] = some (.fz (.int (dotI a b)), _) by
    simp only [sumD, PK.g1, rowD, intsD_map, Option.map_some]
    rfl)
  unfold G_dot fnD f_dot
  show ((sRet _ ⟨[some (.fz (rowD a)), some (.fz y), none, none], []⟩).bind _) = _
  rw [sRet, e5]
  rfl
/-- a fraction in lowest terms -/
def fr (x b : Int) : D := .tup [.int (x / gI x b), .int (b / gI x b)]
/-! ### the class -/
abbrev fsM : List Str := ["_rows", "_bottom"]
def matD (R : List (List Int)) (b : Int) : D := .ins "Matrix" fsM [mD R, .int b]
theorem knM : (([("_rows" : Str)] : List Str).contains ("_bottom" : Str)) = false := by decide +kernel
theorem fl_r {d e : D} : (fsM.zip [d, e]).lookup ("_rows" : Str) = some d := by
  show List.lookup ("_rows" : Str) [(("_rows" : Str), d), (("_bottom" : Str), e)] = some d
  simp only [List.lookup, beq_self_eq_true]
theorem fl_b {d e : D} : (fsM.zip [d, e]).lookup ("_bottom" : Str) = some e := by
  have h : (("_bottom" : Str) == ("_rows" : Str)) = false := by decide +kernel
  show List.lookup ("_bottom" : Str) [(("_rows" : Str), d), (("_bottom" : Str), e)] = some e
  simp only [List.lookup, h, beq_self_eq_true]
theorem fd_r {R : List (List Int)} {b : Int} {f : EF} {δ δ' : Dl} (h : f δ = some (.fz (matD R b), δ')) : dFld "Matrix" "_rows" f δ = some (.fz (mD R), δ') := by
  simp only [dFld, h, Option.bind_some, matD, if_true, fl_r, Option.map_some]
theorem fd_b {R : List (List Int)} {b : Int} {f : EF} {δ δ' : Dl} (h : f δ = some (.fz (matD R b), δ')) : dFld "Matrix" "_bottom" f δ = some (.fz (.int b), δ') := by
  simp only [dFld, h, Option.bind_some, matD, if_true, fl_b, Option.map_some]
theorem rvM {R : List (List Int)} {b : Int} : recvOk "Matrix" "" (.fz (matD R b)) = true := by
  show (decide (("Matrix" : Str) = ("Matrix" : Str)) && !fsM.contains ("" : Str)) = true
  decide +kernel
theorem rvA {R : List (List Int)} {b : Int} : recvOk "Matrix" "after" (.fz (matD R b)) = true := by
  show (decide (("Matrix" : Str) = ("Matrix" : Str)) && !fsM.contains ("after" : Str)) = true
  decide +kernel
theorem ln_ {f : EF} {δ δ1 : Dl} {ds : List D} (e : f δ = some (.fz (.lst ds), δ1)) : dCB lenD (aCons f aNil) δ = some (.fz (.int ds.length), δ1) := (cb1_ (g := lenD) e rfl).trans rfl
end K03
set_option maxHeartbeats 0
namespace K03
open PySem L2 PK
theorem lc_mapI {α : Type} {m : Bool} {fi : IF} {elt : EF} {j : Nat} {sl : List (Option Vl)} {st : List (Option (List D))} {xs : List α} {en out : α → D} (hf : fi ⟨sl, st⟩ = some (xs.map en, [], ⟨sl, st⟩)) (hl : xs.length ≤ 1000)
    (he : ∀ x ∈ xs, ∃ sl2, elt ⟨(wipeD sl [j]).set j (some (.fz (en x))), st⟩ = some (.fz (out x), ⟨sl2, st⟩)) : dLc m fi (.nm j) [j] bYes elt ⟨sl, st⟩ = some (PK.mk m (xs.map out) ⟨sl, st⟩) := by
  have e := lcGo_map (own := [j]) (elt := elt) (i := j) (sl := wipeD sl [j]) (st := st) (en := en) (out := out) xs [] (by simp [small]; omega) he
  rw [List.nil_append] at e
  rw [dLc, hf, Option.bind_some]
  show (Option.map _ (lcGo [] (.nm j) [j] bYes elt (wipeD sl [j]) (xs.map en) [] ⟨wipeD sl [j], st⟩)) = _
  rw [e]
  rfl
section
variable {R : List (List Int)} {b : Int}
theorem g_rowsM (hl : R.length ≤ 100) : G_Matrix_rows [.fz (matD R b)] [] = some (.fresh (R.map rowD), []) := by
  have e := lc_map (m := true) (f := dFld "Matrix" "_rows" (dVar 0)) (elt := dCB (listD false) (aCons (dVar 1) aNil)) (j := 1) (sl := [some (.fz (matD R b)), none]) (st := []) (xs := R) (en := rowD) (out := rowD) (fd_r rfl) (by omega) fun r hr => ⟨_, (cb1_ (g := listD false) (f := dVar 1) rfl rfl).trans rfl⟩
  unfold G_Matrix_rows fnD f_Matrix_rows
  show ((sRet _ ⟨[some (.fz (matD R b)), none], []⟩).bind _) = _
  rw [sRet, e]
  rfl
theorem g_botM : G_Matrix_bottom [.fz (matD R b)] [] = some (.val (.int b), []) := by
  have e := fd_b (R := R) (b := b) (f := dVar 0) (δ := ⟨[some (.fz (matD R b))], []⟩) rfl
  unfold G_Matrix_bottom fnD f_Matrix_bottom
  show ((sRet _ ⟨[some (.fz (matD R b))], []⟩).bind _) = _
  rw [sRet, e]
  rfl
theorem g_lenM : G_Matrix_len [.fz (matD R b)] [] = some (.val (.int R.length), []) := by
  have e := ln_ (fd_r (R := R) (b := b) (f := dVar 0) (δ := ⟨[some (.fz (matD R b))], []⟩) rfl)
  rw [List.length_map] at e
  unfold G_Matrix_len fnD f_Matrix_len
  show ((sRet _ ⟨[some (.fz (matD R b))], []⟩).bind _) = _
  rw [sRet, e]
  rfl
theorem rw_f (mm : Bool) (hl : R.length ≤ 100) {fo : EF} {δ δ1 : Dl} (e : fo δ = some (.fz (matD R b), δ1)) : dMeth mm "Matrix" "" 1 G_Matrix_rows fo aNil δ = some (PK.mk mm (R.map rowD) δ1) := mt0f e rvM rfl rfl rfl (g_rowsM hl)
theorem bt_f {fo : EF} {δ δ1 : Dl} (e : fo δ = some (.fz (matD R b), δ1)) : dMeth false "Matrix" "" 1 G_Matrix_bottom fo aNil δ = some (.fz (.int b), δ1) := mt0 e rvM rfl rfl rfl g_botM
theorem ln_f (hl : R.length < 1000) {fo : EF} {δ δ1 : Dl} (e : fo δ = some (.fz (matD R b), δ1)) : dLenI "Matrix" G_Matrix_len fo δ = some (.fz (.int R.length), δ1) := lenI_ e (g_lenM (R := R) (b := b)) hl
end
end K03
set_option maxHeartbeats 0
namespace K03
open PySem L2 PK
theorem pw3 : 3 * 2 ^ (2 * 1000) < 2 ^ 2100 := by
  have h : (2 : Nat) ^ 2100 = 2 ^ 100 * 2 ^ (2 * 1000) := by rw [← Nat.pow_add]
  rw [h]
  exact Nat.mul_lt_mul_of_pos_right (by decide) (Nat.two_pow_pos _)
theorem pw2b : (2 : Nat) ^ 1000 * 2 ^ 1000 < 2 ^ 2100 := by
  rw [← Nat.pow_add]
  exact Nat.pow_lt_pow_right (by decide) (by decide)
def col (j : Nat) (M : List (List Int)) : List Int := M.map fun r => r.getD j 0
def mul (s : Nat) (A B : List (List Int)) : List (List Int) := A.map fun r => (List.range s).map fun j => dotI r (col j B)
theorem dot_nil (b : List Int) : dotI [] b = 0 := rfl
theorem dot_nil2 (a : List Int) : dotI a [] = 0 := by simp [dotI]
theorem dot_cons (x y : Int) (a b : List Int) : dotI (x :: a) (y :: b) = x * y + dotI a b := by simp [dotI]
theorem dot_bd {k : Nat} : ∀ (a b : List Int), Sm k a → Sm k b → (dotI a b).natAbs ≤ a.length * 2 ^ (2 * k)
  | [], b, _, _ => by simp [dot_nil]
  | x :: a, [], _, _ => by rw [dot_nil2]; simp
  | x :: a, y :: b, ha, hb => by
    have ih := dot_bd a b (fun z hz => ha z (List.mem_cons_of_mem _ hz)) (fun z hz => hb z (List.mem_cons_of_mem _ hz))
    have hx := ha x List.mem_cons_self
    have hy := hb y List.mem_cons_self
    have hxy : (x * y).natAbs ≤ 2 ^ (2 * k) := by
      rw [Int.natAbs_mul, Nat.two_mul, Nat.pow_add]
      exact Nat.mul_le_mul (Nat.le_of_lt hx) (Nat.le_of_lt hy)
    rw [dot_cons, List.length_cons, Nat.succ_mul]
    omega
theorem mem_getD {k j : Nat} {r : List Int} (h : Sm k r) : (r.getD j 0).natAbs < 2 ^ k := by
  rw [List.getD_eq_getElem?_getD]
  cases e : r[j]? with
  | none => exact Nat.two_pow_pos k
  | some x => exact h x (List.mem_of_getElem? e)
theorem sm_col {k j : Nat} {M : List (List Int)} (h : Sms k M) : Sm k (col j M) := fun x hx => by
  obtain ⟨r, hr, rfl⟩ := List.mem_map.mp hx
  exact mem_getD (h r hr)
theorem sm_up {j k : Nat} {v : List Int} (h : Sm j v) (hk : j ≤ k) : Sm k v := fun x hx => Nat.lt_of_lt_of_le (h x hx) (Nat.pow_le_pow_right (by decide) hk)
theorem sms_up {j k : Nat} {M : List (List Int)} (h : Sms j M) (hk : j ≤ k) : Sms k M := fun r hr => sm_up (h r hr) hk
theorem sq_mul {s : Nat} {A B : List (List Int)} (h : Sq s A) : Sq s (mul s A B) := ⟨by rw [mul, List.length_map, h.1], fun r hr => by
  obtain ⟨x, _, rfl⟩ := List.mem_map.mp hr
  simp⟩
theorem sms_mul {s : Nat} {A B : List (List Int)} (hs : s ≤ 3) (h : Sq s A) (ha : Sms 1000 A) (hb : Sms 1000 B) : Sms 2100 (mul s A B) := fun r hr x hx => by
  obtain ⟨a, haa, rfl⟩ := List.mem_map.mp hr
  obtain ⟨j, _, rfl⟩ := List.mem_map.mp hx
  have := dot_bd (k := 1000) a (col j B) (ha a haa) (sm_col hb)
  have hl := h.2 a haa
  rw [hl] at this
  have h3 : s * 2 ^ (2 * 1000) ≤ 3 * 2 ^ (2 * 1000) := Nat.mul_le_mul_right _ hs
  have h4 := pw3
  omega
theorem ix_row {r : List Int} {j : Nat} (h : j < r.length) (δ : Dl) : ixD δ (rowD r) (.int (0 + (j : Int))) = some (.fz (.int (r.getD j 0)), δ) := by
  have hl : (r.map D.int).length = r.length := List.length_map _
  have : atI (r.map D.int) (0 + (j : Int)) = some (.int (r.getD j 0)) := by
    unfold atI ixN
    have h2 : r[j]? = some r[j] := List.getElem?_eq_getElem h
    simp [h, List.getD_eq_getElem?_getD]
  simp only [ixD, rowD, this, Option.map_some]
def ast (S I : D) (x2 x3 x4 x5 : Option Vl) : Dl := ⟨[some (.fz S), some (.fz I), x2, x3, x4, x5, none, none, none, none], []⟩
end K03
set_option maxHeartbeats 0
namespace K03
open PySem L2 PK
/-! ### the least form and multiples -/
def sc (k : Int) (M : List (List Int)) : List (List Int) := M.map fun r => r.map fun e => k * e
theorem fold_dvd : ∀ (r : List Int) (c : Int), r.foldl gI c ∣ c ∧ ∀ e ∈ r, r.foldl gI c ∣ e
  | [], c => ⟨Int.dvd_refl _, fun e he => by cases he⟩
  | x :: r, c => by
    obtain ⟨h1, h2⟩ := fold_dvd r (gI c x)
    rw [List.foldl_cons]
    have a1 : gI c x ∣ c := Int.gcd_dvd_left c x
    have a2 : gI c x ∣ x := Int.gcd_dvd_right c x
    refine ⟨Int.dvd_trans h1 a1, fun e he => ?_⟩
    rcases List.mem_cons.mp he with rfl | he
    · exact Int.dvd_trans h1 a2
    · exact h2 e he
theorem cdv_dvd : ∀ (M : List (List Int)) (b : Int), cdv b M ∣ b ∧ ∀ r ∈ M, ∀ e ∈ r, cdv b M ∣ e
  | [], b => ⟨Int.dvd_refl _, fun r hr => by cases hr⟩
  | x :: M, b => by
    have e1 : cdv b (x :: M) = cdv (x.foldl gI b) M := rfl
    obtain ⟨h1, h2⟩ := cdv_dvd M (x.foldl gI b)
    obtain ⟨g1, g2⟩ := fold_dvd x b
    rw [e1]
    refine ⟨Int.dvd_trans h1 g1, fun r hr e he => ?_⟩
    rcases List.mem_cons.mp hr with rfl | hr
    · exact Int.dvd_trans h1 (g2 e he)
    · exact h2 r hr e he
theorem self_sc (M : List (List Int)) (b : Int) : sc (cdv b M) (lr M b) = M ∧ cdv b M * lb M b = b := by
  obtain ⟨h1, h2⟩ := cdv_dvd M b
  refine ⟨?_, Int.mul_ediv_cancel' h1⟩
  unfold sc lr dvs
  rw [List.map_map]
  refine (List.map_congr_left fun r hr => ?_).trans (List.map_id _)
  show (r.map fun e => e / cdv b M).map (fun e => cdv b M * e) = _
  rw [List.map_map]
  refine (List.map_congr_left fun e he => ?_).trans (List.map_id _)
  exact Int.mul_ediv_cancel' (h2 r hr e he)
theorem lb_pos {M : List (List Int)} {b : Int} (hb : 1 ≤ b) : 1 ≤ lb M b ∧ lb M b ≤ b := by
  have p := cdv_pos M b hb
  unfold lb
  exact ⟨(Int.le_ediv_iff_mul_le (by omega)).mpr (by omega), Int.ediv_le_self _ (by omega)⟩
theorem sms_lr {k : Nat} {M : List (List Int)} {b : Int} (h : Sms k M) : Sms k (lr M b) := fun r hr e he => by
  obtain ⟨r', hr', rfl⟩ := List.mem_map.mp hr
  obtain ⟨x, hx, rfl⟩ := List.mem_map.mp he
  exact Nat.lt_of_le_of_lt (Int.natAbs_ediv_le_natAbs _ _) (h r' hr' x hx)
theorem sq_lr {s : Nat} {M : List (List Int)} {b : Int} (h : Sq s M) : Sq s (lr M b) := ⟨by unfold lr dvs; rw [List.length_map, h.1], fun r hr => by
  obtain ⟨r', hr', rfl⟩ := List.mem_map.mp hr
  rw [List.length_map]
  exact h.2 r' hr'⟩
/-! ### the unit -/
theorem rows1 {M : List (List Int)} (h : Sq 1 M) : ∃ a, M = [[a]] := by
  obtain ⟨h1, h2⟩ := h
  match M, h1 with
  | [r], _ =>
    have := h2 r (by simp)
    match r, this with
    | [a], _ => exact ⟨a, rfl⟩
theorem row2 {r : List Int} (h : r.length = 2) : ∃ a b, r = [a, b] := by
  match r, h with
  | [a, b], _ => exact ⟨a, b, rfl⟩
theorem row3 {r : List Int} (h : r.length = 3) : ∃ a b c, r = [a, b, c] := by
  match r, h with
  | [a, b, c], _ => exact ⟨a, b, c, rfl⟩
theorem rows2 {M : List (List Int)} (h : Sq 2 M) : ∃ a b c d, M = [[a, b], [c, d]] := by
  obtain ⟨h1, h2⟩ := h
  match M, h1 with
  | [r, t], _ =>
    obtain ⟨a, b, rfl⟩ := row2 (h2 r (by simp))
    obtain ⟨c, d, rfl⟩ := row2 (h2 t (by simp))
    exact ⟨a, b, c, d, rfl⟩
theorem rows3 {M : List (List Int)} (h : Sq 3 M) : ∃ a b c d e f g i j, M = [[a, b, c], [d, e, f], [g, i, j]] := by
  obtain ⟨h1, h2⟩ := h
  match M, h1 with
  | [r, t, u], _ =>
    obtain ⟨a, b, c, rfl⟩ := row3 (h2 r (by simp))
    obtain ⟨d, e, f, rfl⟩ := row3 (h2 t (by simp))
    obtain ⟨g, i, j, rfl⟩ := row3 (h2 u (by simp))
    exact ⟨a, b, c, d, e, f, g, i, j, rfl⟩
/-! ### fractions -/
end K03
set_option maxHeartbeats 0
namespace K03
open PySem L2 PK
/-! ### the volume -/
def hd (r : List Int) : Int := r.getD 0 0
def fp : List (List Int) → Option Nat
  | [] => none
  | r :: rs => if hd r ≠ 0 then some 0 else (fp rs).map (· + 1)
def clr (row top : List Int) (la : Int) : List Int := (List.range (row.length - 1)).map fun p => (hd top * row.getD (1 + p) 0 - hd row * top.getD (1 + p) 0).fdiv la
theorem ixn {r : List Int} {i : Int} {j : Nat} (h : i = (j : Int)) (hj : j < r.length) (δ : Dl) : ixD δ (rowD r) (.int i) = some (.fz (.int (r.getD j 0)), δ) := by
  have := ix_row hj δ
  rw [Int.zero_add] at this
  rw [h]
  exact this
theorem g_cleared {row top : List Int} {la : Int} (hl : row.length = top.length) (h1 : 1 ≤ row.length) (h100 : row.length ≤ 100) (hr : Sm 4000 row) (ht : Sm 4000 top) (hla : la ≠ 0) (hla2 : la.natAbs < 2 ^ 4000) :
    G_cleared [.fz (rowD row), .fz (rowD top), .fz (.int la)] [] = some (.fresh ((clr row top la).map D.int), []) := by
  have od : la ≠ 0 ∧ la.natAbs.log2 < 9000 := ⟨hla, by
    have := (Nat.log2_lt (by omega : la.natAbs ≠ 0)).mpr hla2
    omega⟩
  have l0 := ln_ (f := dVar 0) (ds := row.map D.int) (δ := ⟨[some (.fz (rowD row)), some (.fz (rowD top)), some (.fz (.int la)), none], []⟩) rfl
  rw [List.length_map] at l0
  have hi : iRg2 (dC (.int 1)) (dCB lenD (aCons (dVar 0) aNil)) ⟨[some (.fz (rowD row)), some (.fz (rowD top)), some (.fz (.int la)), none], []⟩ = some ((List.range (row.length - 1)).map fun p : Nat => .int (1 + (p : Int)), [], ⟨[some (.fz (rowD row)), some (.fz (rowD top)), some (.fz (.int la)), none], []⟩) := by
    have e1 : dC (.int 1) ⟨[some (.fz (rowD row)), some (.fz (rowD top)), some (.fz (.int la)), none], []⟩ = some (.fz (.int 1), ⟨[some (.fz (rowD row)), some (.fz (rowD top)), some (.fz (.int la)), none], []⟩) := rfl
    rw [iRg2, e1, Option.bind_some, l0, Option.bind_some]
    have o1 : okR 1 := by unfold okR; decide
    have o2 : okR (row.length : Int) := by unfold okR; omega
    simp only [o1, o2, and_self, if_true]
    have e3 : ((row.length : Int) - 1).toNat = row.length - 1 := by omega
    rw [e3]
    rfl
  have e := lc_mapI (m := true) (fi := iRg2 (dC (.int 1)) (dCB lenD (aCons (dVar 0) aNil))) (elt := dOp divF (dOp subD (dOp (mulD false) (dOp ixD (dVar 1) (dC (.int 0))) (dOp ixD (dVar 0) (dVar 3))) (dOp (mulD false) (dOp ixD (dVar 0) (dC (.int 0))) (dOp ixD (dVar 1) (dVar 3)))) (dVar 2)) (j := 3) (sl := [some (.fz (rowD row)), some (.fz (rowD top)), some (.fz (.int la)), none]) (st := []) (xs := List.range (row.length - 1)) (en := fun p : Nat => .int (1 + (p : Int))) (out := fun p => .int ((hd top * row.getD (1 + p) 0 - hd row * top.getD (1 + p) 0).fdiv la)) hi (by simp; omega) fun p hp => ⟨[some (.fz (rowD row)), some (.fz (rowD top)), some (.fz (.int la)), some (.fz (.int (1 + (p : Int))))], by
    have hp' : p < row.length - 1 := List.mem_range.mp hp
    obtain ⟨δ, hδ⟩ : ∃ δ : Dl, δ = ⟨[some (.fz (rowD row)), some (.fz (rowD top)), some (.fz (.int la)), some (.fz (.int (1 + (p : Int))))], []⟩ := ⟨_, rfl⟩
    have v0 : dVar 0 δ = some (.fz (rowD row), δ) := by rw [hδ]; rfl
    have v1 : dVar 1 δ = some (.fz (rowD top), δ) := by rw [hδ]; rfl
    have v2 : dVar 2 δ = some (.fz (.int la), δ) := by rw [hδ]; rfl
    have v3 : dVar 3 δ = some (.fz (.int (1 + (p : Int))), δ) := by rw [hδ]; rfl
    have c0 : dC (.int 0) δ = some (.fz (.int 0), δ) := rfl
    have i1 := (dOp_ (g := ixD) v1 c0 rfl rfl).trans (ixn (r := top) (i := 0) (j := 0) rfl (by omega) δ)
    have i2 := (dOp_ (g := ixD) v0 v3 rfl rfl).trans (ixn (r := row) (i := 1 + (p : Int)) (j := 1 + p) (by omega) (by omega) δ)
    have i3 := (dOp_ (g := ixD) v0 c0 rfl rfl).trans (ixn (r := row) (i := 0) (j := 0) rfl (by omega) δ)
    have i4 := (dOp_ (g := ixD) v1 v3 rfl rfl).trans (ixn (r := top) (i := 1 + (p : Int)) (j := 1 + p) (by omega) (by omega) δ)
    have m1 : okMul (top.getD 0 0) (row.getD (1 + p) 0) = true := okMul_big (mem_getD ht) (mem_getD hr)
    have m2 : okMul (row.getD 0 0) (top.getD (1 + p) 0) = true := okMul_big (mem_getD hr) (mem_getD ht)
    have j1 := (dOp_ (g := mulD false) i1 i2 rfl rfl).trans (show mulD false δ (D.int (top.getD 0 0)) (D.int (row.getD (1 + p) 0)) = some (.fz (.int (top.getD 0 0 * row.getD (1 + p) 0)), δ) by simp only [mulD, m1, if_true])
    have j2 := (dOp_ (g := mulD false) i3 i4 rfl rfl).trans (show mulD false δ (D.int (row.getD 0 0)) (D.int (top.getD (1 + p) 0)) = some (.fz (.int (row.getD 0 0 * top.getD (1 + p) 0)), δ) by simp only [mulD, m2, if_true])
    have j3 := (dOp_ (g := subD) j1 j2 rfl rfl).trans (show subD δ (D.int _) (D.int _) = some (.fz (.int (top.getD 0 0 * row.getD (1 + p) 0 - row.getD 0 0 * top.getD (1 + p) 0)), δ) from rfl)
    have j4 := (dOp_ (g := divF) j3 v2 rfl rfl).trans (show divF δ (D.int (top.getD 0 0 * row.getD (1 + p) 0 - row.getD 0 0 * top.getD (1 + p) 0)) (D.int la) = some (.fz (.int ((hd top * row.getD (1 + p) 0 - hd row * top.getD (1 + p) 0).fdiv la)), δ) by simp only [divF, od, and_self, if_true, ne_eq, not_false_eq_true]; rfl)
    rw [hδ] at j4
    exact j4⟩
  have e3 : ((List.range (row.length - 1)).map fun p => D.int ((hd top * row.getD (1 + p) 0 - hd row * top.getD (1 + p) 0).fdiv la)) = (clr row top la).map D.int := by unfold clr; rw [List.map_map]; rfl
  rw [e3] at e
  unfold G_cleared fnD f_cleared
  show ((sRet _ ⟨[some (.fz (rowD row)), some (.fz (rowD top)), some (.fz (.int la)), none], []⟩).bind _) = _
  rw [sRet, e]
  rfl
noncomputable def fpB : SF := sIf (dB (dOp (eqD true) (dOp ixD (dVar 2) (dC (.int 0))) (dC (.int 0)))) (sRet (dVar 1)) sNext
theorem fp_loop {A : Option Vl} : ∀ (rs : List (List Int)) (i : Nat) (x y : Option Vl), (∀ r ∈ rs, 1 ≤ r.length) →
    ∃ δ', forD [] (.tp [1, 2]) fpB (enumD i (rs.map rowD)) ⟨[A, x, y], []⟩ = some ((match fp rs with | some k => .rt (.fz (.int ((i + k : Nat) : Int))) | none => .nx), δ') ∧ δ'.st = []
  | [], i, x, y, _ => ⟨_, forD_nil0, rfl⟩
  | r :: rs, i, x, y, h => by
    obtain ⟨δ', e, hst⟩ := fp_loop (A := A) rs (i + 1) (some (.fz (.int i))) (some (.fz (rowD r))) fun z hz => h z (List.mem_cons_of_mem _ hz)
    have hl := h r List.mem_cons_self
    have i1 := (dOp_ (g := ixD) (fa := dVar 2) (fb := dC (.int 0)) (δ := ⟨[A, some (.fz (.int i)), some (.fz (rowD r))], []⟩) rfl rfl rfl rfl).trans (ixn (r := r) (i := 0) (j := 0) rfl (by omega) _)
    have c := dB_ ((dOp_ (g := eqD true) (fb := dC (.int 0)) i1 rfl rfl rfl).trans eqD_int)
    rw [List.map_cons, enumD, forD, if_pos (by simp)]
    have ha : asgT ⟨[A, x, y], []⟩ (.tp [1, 2]) (.tup [.int (i : Int), rowD r]) = some ⟨[A, some (.fz (.int i)), some (.fz (rowD r))], []⟩ := rfl
    rw [ha, Option.bind_some]
    by_cases h0 : hd r = 0
    · have hh : (r.getD 0 0 == 0) = true := by rw [beq_iff_eq]; exact h0
      simp only [hh, if_true] at c
      have sb : fpB ⟨[A, some (.fz (.int i)), some (.fz (rowD r))], []⟩ = some (.nx, ⟨[A, some (.fz (.int i)), some (.fz (rowD r))], []⟩) := by
        unfold fpB
        rw [sIf_ c, if_neg (by simp)]
        rfl
      rw [sb, Option.bind_some]
      refine ⟨δ', ?_, hst⟩
      have e2 : fp (r :: rs) = (fp rs).map (· + 1) := by rw [fp, if_neg (by simp [h0])]
      rw [e2]
      refine Eq.trans e ?_
      cases fp rs with
      | none => rfl
      | some k =>
        have : i + 1 + k = i + (k + 1) := by omega
        simp only [Option.map_some, this]
    · have hh : (r.getD 0 0 == 0) = false := by rw [beq_eq_false_iff_ne]; exact h0
      simp only [hh, if_true] at c
      have sb : fpB ⟨[A, some (.fz (.int i)), some (.fz (rowD r))], []⟩ = some (.rt (.fz (.int i)), ⟨[A, some (.fz (.int i)), some (.fz (rowD r))], []⟩) := by
        unfold fpB
        rw [sIf_ c, if_pos (by simp)]
        rfl
      rw [sb, Option.bind_some]
      have e2 : fp (r :: rs) = some 0 := by rw [fp, if_pos h0]
      rw [e2]
      exact ⟨_, rfl, rfl⟩
theorem g_fp {L : List (List Int)} (h : ∀ r ∈ L, 1 ≤ r.length) : G_filled_place [.fz (mD L)] [] = some (.val (match fp L with | some k => .int (k : Int) | none => .non), []) := by
  obtain ⟨δ', e, hst⟩ := fp_loop (A := some (.fz (mD L))) L 0 none none h
  have s1 : sFor (iEnumD (dVar 0)) (.tp [1, 2]) fpB ⟨[some (.fz (mD L)), none, none], []⟩ = some ((match fp L with | some k => .rt (.fz (.int ((0 + k : Nat) : Int))) | none => .nx), δ') := by
    rw [sFor]
    show (Option.bind (some (enumD 0 (L.map rowD), [], _)) _) = _
    exact e
  unfold G_filled_place fnD f_filled_place
  show ((sSeq (sFor (iEnumD (dVar 0)) (.tp [1, 2]) fpB) _ ⟨[some (.fz (mD L)), none, none], []⟩).bind _) = _
  rw [sSeq, s1, Option.bind_some]
  cases fp L with
  | none => simp [sRet, dC, lives]
  | some k => simp [lives]
def rest (L : List (List Int)) (k : Nat) : List (List Int) := L.take k ++ L.drop (k + 1)
def volN : Nat → List (List Int) → Int → Int → Int
  | _, [], sg, la => sg * la
  | 0, _ :: _, sg, la => sg * la
  | m + 1, r :: rs, sg, la => match fp (r :: rs) with
    | none => 0
    | some k => volN m ((rest (r :: rs) k).map fun x => clr x ((r :: rs).getD k []) la) (if k % 2 = 1 then -sg else sg) (hd ((r :: rs).getD k []))
theorem fp_some : ∀ {L : List (List Int)} {k : Nat}, fp L = some k → k < L.length ∧ hd (L.getD k []) ≠ 0
  | [], k, h => by cases h
  | r :: rs, k, h => by
    rw [fp] at h
    split at h
    · rename_i h0
      cases h
      exact ⟨by simp, h0⟩
    · obtain ⟨k', h1, h2⟩ := Option.map_eq_some_iff.mp h
      subst h2
      obtain ⟨a, b⟩ := fp_some h1
      exact ⟨by rw [List.length_cons]; omega, by simpa using b⟩
theorem clr_len {row top : List Int} {la : Int} : (clr row top la).length = row.length - 1 := by simp [clr]
theorem clr_sm {e : Nat} {row top : List Int} {la : Int} (hr : Sm e row) (ht : Sm e top) : Sm (2 * e + 1) (clr row top la) := fun x hx => by
  obtain ⟨p, _, rfl⟩ := List.mem_map.mp hx
  have a1 : (hd top * row.getD (1 + p) 0).natAbs ≤ 2 ^ (2 * e) := by
    rw [Int.natAbs_mul, Nat.two_mul, Nat.pow_add]
    exact Nat.mul_le_mul (Nat.le_of_lt (mem_getD ht)) (Nat.le_of_lt (mem_getD hr))
  have a2 : (hd row * top.getD (1 + p) 0).natAbs < 2 ^ (2 * e) := by
    rw [Int.natAbs_mul, Nat.two_mul, Nat.pow_add]
    exact Nat.mul_lt_mul_of_lt_of_le (mem_getD hr) (Nat.le_of_lt (mem_getD ht)) (Nat.two_pow_pos _)
  have a3 := Int.natAbs_fdiv_le_natAbs (hd top * row.getD (1 + p) 0 - hd row * top.getD (1 + p) 0) la
  have a4 : (2 : Nat) ^ (2 * e + 1) = 2 ^ (2 * e) + 2 ^ (2 * e) := by rw [Nat.pow_succ]; omega
  omega
end K03
set_option maxHeartbeats 0
namespace K03
open PySem L2 PK
def vst (A : D) (L : List (List Int)) (sg la : Int) (x4 x5 x6 x7 : Option Vl) : Dl := ⟨[some (.fz A), some (.fz (mD L)), some (.fz (.int sg)), some (.fz (.int la)), x4, x5, x6, x7], []⟩
noncomputable def vT : BF := dB (dOp gtD (dCB lenD (aCons (dVar 1) aNil)) (dC (.int 0)))
noncomputable def vB : SF := (sSeq (sSet 4 (dCallN false 1 G_filled_place (aCons (dVar 1) aNil)))
  (sSeq (sIf (dB (dOp isND (dVar 4) (dC .non))) (sRet (dC (.int 0))) sNext)
  (sSeq (sSet 5 (dOp ixD (dVar 1) (dVar 4)))
  (sSeq (sSet 6 (dOp (addD false) (dSl false (dVar 1) oNone (oSome (dVar 4))) (dSl false (dVar 1) (oSome (dOp (addD false) (dVar 4) (dC (.int 1)))) oNone)))
  (sSeq (sSet 1 (dLc false (iSq (dVar 6)) (.nm 7) [7] bYes (dCallN false 3 G_cleared (aCons (dVar 7) (aCons (dVar 5) (aCons (dVar 3) aNil))))))
  (sSeq (sIf (dB (dOp (eqD false) (dOp modD (dVar 4) (dC (.int 2))) (dC (.int 1)))) (sSet 2 (dUn negD (dVar 2))) sNext)
  (sSet 3 (dOp ixD (dVar 5) (dC (.int 0))))))))))
theorem f_volume_eq : f_volume = sSeq (sAsg (hTup 3 (hCons (hNm 1) (hCons (hNm 2) (hCons (hNm 3) hNil)))) (dTup (aCons (dVar 0) (aCons (dC (.int 1)) (aCons (dC (.int 1)) aNil))))) (sSeq (sWhile vT vB) (sRet (dOp (mulD true) (dVar 2) (dVar 3)))) := rfl
theorem t_V {A : D} {L : List (List Int)} {sg la : Int} {x4 x5 x6 x7 : Option Vl} : vT (vst A L sg la x4 x5 x6 x7) = some (decide (0 < L.length), vst A L sg la x4 x5 x6 x7) := by
  have l0 := ln_ (f := dVar 1) (ds := L.map rowD) (δ := vst A L sg la x4 x5 x6 x7) rfl
  rw [List.length_map] at l0
  have e := dB_ (b := decide ((0 : Int) < (L.length : Int))) ((dOp_ (g := gtD) (fb := dC (.int 0)) l0 rfl rfl rfl).trans rfl)
  rw [show decide ((0 : Int) < (L.length : Int)) = decide (0 < L.length) by simp] at e
  exact e
theorem ixm {L : List (List Int)} {k : Nat} (h : k < L.length) (δ : Dl) : ixD δ (mD L) (.int (k : Int)) = some (.fz (rowD (L.getD k [])), δ) := by
  have : atI (L.map rowD) (k : Int) = some (rowD (L.getD k [])) := by
    unfold atI ixN
    simp [h, List.getD_eq_getElem?_getD]
  simp only [ixD, mD, this, Option.map_some]
theorem add_l {xs ys : List D} {fa fb : EF} {δ δ1 δ2 : Dl} (e1 : fa δ = some (.fz (.lst xs), δ1)) (e2 : fb δ1 = some (.fz (.lst ys), δ2)) (hl : xs.length + ys.length ≤ 1000) : dOp (addD false) fa fb δ = some (.fz (.lst (xs ++ ys)), δ2) := by
  refine (dOp_ e1 e2 rfl rfl).trans ?_
  have : xs.length + ys.length ≤ small := by simp [small]; omega
  simp only [addD, this, if_true]
  rfl
/-- one place of a list left out, by two slices -/
theorem d_rest {en : List Int → D} {δ : Dl} {f fk : EF} {L : List D} {k : Nat} (hl : L.length ≤ 1000) (e1 : f δ = some (.fz (.lst L), δ)) (ek : fk δ = some (.fz (.int (k : Int)), δ)) :
    dOp (addD false) (dSl false f oNone (oSome fk)) (dSl false f (oSome (dOp (addD false) fk (dC (.int 1)))) oNone) δ = some (.fz (.lst (L.take k ++ L.drop (k + 1))), δ) := by
  have a1 : dOp (addD false) fk (dC (.int 1)) δ = some (.fz (.int ((k + 1 : Nat) : Int)), δ) := (dOp_ (g := addD false) (fb := dC (.int 1)) ek rfl rfl rfl).trans (by show some (Vl.fz (D.int ((k : Int) + 1)), δ) = _; rfl)
  exact add_l (sl_to (m := false) e1 ek) (sl_from (m := false) e1 a1) (by simp; omega)
theorem rest_len {L : List (List Int)} {k : Nat} (h : k < L.length) : (rest L k).length = L.length - 1 := by
  simp [rest]
  omega
theorem rest_mem {L : List (List Int)} {k : Nat} {x : List Int} (h : x ∈ rest L k) : x ∈ L := by
  rcases List.mem_append.mp h with h | h
  · exact List.mem_of_mem_take h
  · exact List.mem_of_mem_drop h
theorem getD_mem {L : List (List Int)} {k : Nat} (h : k < L.length) : L.getD k [] ∈ L := by
  rw [List.getD_eq_getElem?_getD, List.getElem?_eq_getElem h]
  exact List.getElem_mem h
/-- one round -/
theorem v_none {A : D} {L : List (List Int)} {sg la : Int} {x4 x5 x6 x7 : Option Vl} (hr : ∀ r ∈ L, 1 ≤ r.length) (h : fp L = none) : ∃ δ', vB (vst A L sg la x4 x5 x6 x7) = some (.rt (.fz (.int 0)), δ') ∧ δ'.st = [] := by
  have g := g_fp hr
  rw [h] at g
  have e1 := sSet_ (i := 4) (cl0 (m := false) (n := 1) (fa := aCons (dVar 1) aNil) (δ := vst A L sg la x4 x5 x6 x7) (rs := [.fz (mD L)]) rfl rfl rfl g)
  refine ⟨vst A L sg la (some (.fz .non)) x5 x6 x7, ?_, rfl⟩
  unfold vB
  rw [sSeq_nx e1, sSeq]
  rfl
theorem v_some {A : D} {L : List (List Int)} {sg la : Int} {x4 x5 x6 x7 : Option Vl} {k e : Nat} (hL : L.length ≤ 100) (hr : ∀ r ∈ L, r.length = L.length) (he : Sms e L) (he2 : e ≤ 4000) (hla : la ≠ 0) (hla2 : la.natAbs < 2 ^ 4000) (h : fp L = some k) :
    ∃ y4 y5 y6 y7, vB (vst A L sg la x4 x5 x6 x7) = some (.nx, vst A ((rest L k).map fun x => clr x (L.getD k []) la) (if k % 2 = 1 then -sg else sg) (hd (L.getD k [])) y4 y5 y6 y7) := by
  obtain ⟨hk, h0⟩ := fp_some h
  have g := g_fp (L := L) fun r hx => by rw [hr r hx]; omega
  rw [h] at g
  have tm := getD_mem hk
  have e1 := sSet_ (i := 4) (cl0 (m := false) (n := 1) (fa := aCons (dVar 1) aNil) (δ := vst A L sg la x4 x5 x6 x7) (rs := [.fz (mD L)]) rfl rfl rfl g)
  have e2 : sIf (dB (dOp isND (dVar 4) (dC .non))) (sRet (dC (.int 0))) sNext (vst A L sg la (some (.fz (.int (k : Int)))) x5 x6 x7) = some (.nx, vst A L sg la (some (.fz (.int (k : Int)))) x5 x6 x7) := rfl
  have e3 := sSet_ (i := 5) ((dOp_ (g := ixD) (fa := dVar 1) (fb := dVar 4) (δ := vst A L sg la (some (.fz (.int (k : Int)))) x5 x6 x7) rfl rfl rfl rfl).trans (ixm hk _))
  have e4 := sSet_ (i := 6) (d_rest (en := rowD) (δ := vst A L sg la (some (.fz (.int (k : Int)))) (some (.fz (rowD (L.getD k [])))) x6 x7) (f := dVar 1) (fk := dVar 4) (L := L.map rowD) (k := k) (by simp; omega) rfl rfl)
  have e4b : (L.map rowD).take k ++ (L.map rowD).drop (k + 1) = (rest L k).map rowD := by unfold rest; rw [List.map_append, List.map_take, List.map_drop]
  rw [e4b] at e4
  have e5 := lc_map (m := false) (f := dVar 6) (elt := dCallN false 3 G_cleared (aCons (dVar 7) (aCons (dVar 5) (aCons (dVar 3) aNil)))) (j := 7) (sl := (vst A L sg la (some (.fz (.int (k : Int)))) (some (.fz (rowD (L.getD k [])))) (some (.fz (.lst ((rest L k).map rowD)))) x7).sl) (st := []) (xs := rest L k) (en := rowD) (out := fun x => rowD (clr x (L.getD k []) la)) rfl (by rw [rest_len hk]; omega) fun x hx => ⟨(vst A L sg la (some (.fz (.int (k : Int)))) (some (.fz (rowD (L.getD k [])))) (some (.fz (.lst ((rest L k).map rowD)))) (some (.fz (rowD x)))).sl, by
    have hm := rest_mem hx
    exact cl0f (G := G_cleared) (m := false) (n := 3) (fa := aCons (dVar 7) (aCons (dVar 5) (aCons (dVar 3) aNil))) (δ := vst A L sg la (some (.fz (.int (k : Int)))) (some (.fz (rowD (L.getD k [])))) (some (.fz (.lst ((rest L k).map rowD)))) (some (.fz (rowD x)))) (rs := [.fz (rowD x), .fz (rowD (L.getD k [])), .fz (.int la)]) rfl rfl rfl
      (g_cleared (by rw [hr x hm, hr _ tm]) (by rw [hr x hm]; omega) (by rw [hr x hm]; omega) (sm_up (he x hm) he2) (sm_up (he _ tm) he2) hla hla2)⟩
  have e5b : (rest L k).map (fun x => rowD (clr x (L.getD k []) la)) = ((rest L k).map fun x => clr x (L.getD k []) la).map rowD := by rw [List.map_map]; rfl
  rw [e5b] at e5
  have e5c := sSet_ (i := 1) (show dLc false (iSq (dVar 6)) (.nm 7) [7] bYes (dCallN false 3 G_cleared (aCons (dVar 7) (aCons (dVar 5) (aCons (dVar 3) aNil)))) (vst A L sg la (some (.fz (.int (k : Int)))) (some (.fz (rowD (L.getD k [])))) (some (.fz (.lst ((rest L k).map rowD)))) x7) = _ from e5)
  obtain ⟨L', hL'⟩ : ∃ L', L' = (rest L k).map fun x => clr x (L.getD k []) la := ⟨_, rfl⟩
  rw [← hL'] at e5c ⊢
  have e6 : sIf (dB (dOp (eqD false) (dOp modD (dVar 4) (dC (.int 2))) (dC (.int 1)))) (sSet 2 (dUn negD (dVar 2))) sNext (vst A L' sg la (some (.fz (.int (k : Int)))) (some (.fz (rowD (L.getD k [])))) (some (.fz (.lst ((rest L k).map rowD)))) x7) = some (.nx, vst A L' (if k % 2 = 1 then -sg else sg) la (some (.fz (.int (k : Int)))) (some (.fz (rowD (L.getD k [])))) (some (.fz (.lst ((rest L k).map rowD)))) x7) := by
    have m1 : dOp modD (dVar 4) (dC (.int 2)) (vst A L' sg la (some (.fz (.int (k : Int)))) (some (.fz (rowD (L.getD k [])))) (some (.fz (.lst ((rest L k).map rowD)))) x7) = some (.fz (.int ((k : Int) % 2)), vst A L' sg la (some (.fz (.int (k : Int)))) (some (.fz (rowD (L.getD k [])))) (some (.fz (.lst ((rest L k).map rowD)))) x7) := rfl
    have c := dB_ ((dOp_ (g := eqD false) (fb := dC (.int 1)) m1 rfl rfl rfl).trans eqD_int)
    rw [sIf_ c]
    by_cases hk1 : k % 2 = 1
    · have : (((k : Int) % 2) == 1) = true := by rw [beq_iff_eq]; omega
      simp only [this, hk1, if_true]
      rfl
    · have : (((k : Int) % 2) == 1) = false := by rw [beq_eq_false_iff_ne]; omega
      simp only [this, hk1, if_false, Bool.false_eq_true]
      rfl
  have hrt : 0 < (L.getD k []).length := by rw [hr _ tm]; omega
  have e7 := sSet_ (i := 3) ((dOp_ (g := ixD) (fa := dVar 5) (fb := dC (.int 0)) (δ := vst A L' (if k % 2 = 1 then -sg else sg) la (some (.fz (.int (k : Int)))) (some (.fz (rowD (L.getD k [])))) (some (.fz (.lst ((rest L k).map rowD)))) x7) rfl rfl rfl rfl).trans (ixn (r := L.getD k []) (i := 0) (j := 0) rfl hrt _))
  refine ⟨some (.fz (.int (k : Int))), some (.fz (rowD (L.getD k []))), some (.fz (.lst ((rest L k).map rowD))), x7, ?_⟩
  unfold vB
  rw [sSeq_nx e1]
  refine (sSeq_nx (g := _) e2).trans ?_
  refine (sSeq_nx e3).trans ?_
  refine (sSeq_nx e4).trans ?_
  refine (sSeq_nx e5c).trans ?_
  refine (sSeq_nx e6).trans ?_
  exact e7
theorem vol_loop {A : D} : ∀ (n : Nat) (L : List (List Int)) (sg la : Int) (e : Nat) (x4 x5 x6 x7 : Option Vl), L.length = n → (∀ r ∈ L, r.length = n) → n ≤ 90 → Sms e L → (e + 1) * 2 ^ n ≤ 4000 → la ≠ 0 → la.natAbs < 2 ^ 4000 → (sg = 1 ∨ sg = -1) →
    ∃ fl δ', whileN vT vB (n + 1) (vst A L sg la x4 x5 x6 x7) = some (fl, δ') ∧ δ'.st = [] ∧ (fl = .rt (.fz (.int 0)) ∧ volN n L sg la = 0 ∨ fl = .nx ∧ ∃ sg' la' y4 y5 y6 y7, δ' = vst A [] sg' la' y4 y5 y6 y7 ∧ (sg' = 1 ∨ sg' = -1) ∧ la'.natAbs < 2 ^ 4000 ∧ volN n L sg la = sg' * la')
  | 0, [], sg, la, e, x4, x5, x6, x7, _, _, _, _, _, _, h7, h8 => ⟨.nx, _, by rw [whileN, t_V]; rfl, rfl, .inr ⟨rfl, sg, la, x4, x5, x6, x7, rfl, h8, h7, rfl⟩⟩
  | n + 1, r :: rs, sg, la, e, x4, x5, x6, x7, h1, h2, h3, h4, h5, h6, h7, h8 => by
    have hc : vT (vst A (r :: rs) sg la x4 x5 x6 x7) = some (true, vst A (r :: rs) sg la x4 x5 x6 x7) := t_V
    have he1 : e ≤ 4000 := by
      have : (e + 1) * 1 ≤ (e + 1) * 2 ^ (n + 1) := Nat.mul_le_mul_left _ (Nat.two_pow_pos _)
      omega
    rw [whileN, hc, Option.bind_some, if_pos rfl]
    cases hf : fp (r :: rs) with
    | none =>
      obtain ⟨δ', e1, e2⟩ := v_none (A := A) (sg := sg) (la := la) (x4 := x4) (x5 := x5) (x6 := x6) (x7 := x7) (fun x hx => by rw [h2 x hx]; omega) hf
      refine ⟨.rt (.fz (.int 0)), δ', by rw [e1]; rfl, e2, .inl ⟨rfl, ?_⟩⟩
      rw [volN, hf]
    | some k =>
      obtain ⟨hk, h0⟩ := fp_some hf
      obtain ⟨y4, y5, y6, y7, e1⟩ := v_some (A := A) (sg := sg) (la := la) (x4 := x4) (x5 := x5) (x6 := x6) (x7 := x7) (by rw [h1]; omega) (fun x hx => by rw [h2 x hx, h1]) h4 he1 h6 h7 hf
      have tm := getD_mem hk
      have ih := vol_loop (A := A) n ((rest (r :: rs) k).map fun x => clr x ((r :: rs).getD k []) la) (if k % 2 = 1 then -sg else sg) (hd ((r :: rs).getD k [])) (2 * e + 1) y4 y5 y6 y7
        (by rw [List.length_map, rest_len hk, h1]; omega)
        (fun x hx => by
          obtain ⟨z, hz, rfl⟩ := List.mem_map.mp hx
          rw [clr_len, h2 z (rest_mem hz)]
          omega) (by omega)
        (fun x hx => by
          obtain ⟨z, hz, rfl⟩ := List.mem_map.mp hx
          exact clr_sm (h4 z (rest_mem hz)) (h4 _ tm))
        (by
          have : (2 * e + 1 + 1) * 2 ^ n = (e + 1) * 2 ^ (n + 1) := by
            rw [Nat.pow_succ, Nat.mul_comm (2 ^ n) 2, ← Nat.mul_assoc]
            congr 1
            omega
          omega) h0
        (Nat.lt_of_lt_of_le (mem_getD (h4 _ tm)) (Nat.pow_le_pow_right (by decide) he1))
        (by split <;> omega)
      obtain ⟨fl, δ', i1, i2, i3⟩ := ih
      refine ⟨fl, δ', by rw [e1]; exact i1, i2, ?_⟩
      rw [volN, hf]
      exact i3
  | 0, _ :: _, _, _, _, _, _, _, _, h1, _, _, _, _, _, _, _ => by cases h1
  | n + 1, [], _, _, _, _, _, _, _, h1, _, _, _, _, _, _, _ => by cases h1
theorem g_volume {s e : Nat} {L : List (List Int)} (hs : s ≤ 3) (hq : Sq s L) (he : Sms e L) (he2 : e ≤ 499) : G_volume [.fz (mD L)] [] = some (.val (.int (volN s L 1 1)), []) := by
  have hp : (e + 1) * 2 ^ s ≤ 4000 := by
    have : (2 : Nat) ^ s ≤ 2 ^ 3 := Nat.pow_le_pow_right (by decide) hs
    have := Nat.mul_le_mul (show e + 1 ≤ 500 by omega) this
    omega
  obtain ⟨fl, δ', i1, i2, i3⟩ := vol_loop (A := mD L) s L 1 1 e none none none none hq.1 hq.2 (by omega) he hp (by decide) (by decide +kernel) (.inl rfl)
  have w := sWhile_of i1 (by omega)
  have s1 : sAsg (hTup 3 (hCons (hNm 1) (hCons (hNm 2) (hCons (hNm 3) hNil)))) (dTup (aCons (dVar 0) (aCons (dC (.int 1)) (aCons (dC (.int 1)) aNil)))) ⟨[some (.fz (mD L)), none, none, none, none, none, none, none], []⟩ = some (.nx, vst (mD L) L 1 1 none none none none) := rfl
  unfold G_volume fnD
  rw [f_volume_eq]
  show ((sSeq _ (sSeq _ _) ⟨[some (.fz (mD L)), none, none, none, none, none, none, none], []⟩).bind _) = _
  rw [sSeq_nx s1, sSeq, w, Option.bind_some]
  rcases i3 with ⟨rfl, hv⟩ | ⟨rfl, sg', la', y4, y5, y6, y7, rfl, h8, h7, hv⟩
  · rw [hv]
    simp [lives]
  · rw [hv]
    have ok : okMul sg' la' = true := okMul_big (by rcases h8 with rfl | rfl <;> decide +kernel) h7
    have e := (dOp_ (g := mulD true) (fa := dVar 2) (fb := dVar 3) (δ := vst (mD L) [] sg' la' y4 y5 y6 y7) rfl rfl rfl rfl).trans (show mulD true _ (D.int sg') (D.int la') = some (.fz (.int (sg' * la')), _) by simp only [mulD, ok, if_true]; rfl)
    show ((sRet (dOp (mulD true) (dVar 2) (dVar 3)) (vst (mD L) [] sg' la' y4 y5 y6 y7)).bind _) = _
    rw [sRet, e]
    rfl
end K03
set_option maxHeartbeats 0
namespace K03
open PySem L2 PK
/-! ### cofactors, determinants, inverses -/
def rst (r : List Int) (k : Nat) : List Int := r.take k ++ r.drop (k + 1)
def minor (M : List (List Int)) (i j : Nat) : List (List Int) := (rest M i).map fun r => rst r j
def cof (s : Nat) (M : List (List Int)) (i j : Nat) : Int := if (i + j) % 2 = 1 then - volN (s - 1) (minor M i j) 1 1 else volN (s - 1) (minor M i j) 1 1
def adj (s : Nat) (M : List (List Int)) : List (List Int) := (List.range s).map fun j => (List.range s).map fun i => cof s M i j
theorem sq_minor {s i j : Nat} {M : List (List Int)} (h : Sq s M) (hi : i < s) (hj : j < s) : Sq (s - 1) (minor M i j) := ⟨by
  unfold minor
  rw [List.length_map, rest_len (by rw [h.1]; exact hi), h.1], fun r hr => by
  obtain ⟨x, hx, rfl⟩ := List.mem_map.mp hr
  have := h.2 x (rest_mem hx)
  simp [rst]
  omega⟩
theorem sms_minor {e i j : Nat} {M : List (List Int)} (h : Sms e M) : Sms e (minor M i j) := fun r hr x hx => by
  obtain ⟨z, hz, rfl⟩ := List.mem_map.mp hr
  have hm : x ∈ z := by
    rcases List.mem_append.mp hx with h | h
    · exact List.mem_of_mem_take h
    · exact List.mem_of_mem_drop h
  exact h z (rest_mem hz) x hm
def cst (A : D) (i j : Nat) (x3 x4 x5 : Option Vl) : Dl := ⟨[some (.fz A), some (.fz (.int (i : Int))), some (.fz (.int (j : Int))), x3, x4, x5], []⟩
theorem g_cof {s e i j : Nat} {M : List (List Int)} (hs : s ≤ 3) (h : Sq s M) (he : Sms e M) (he2 : e ≤ 499) (hi : i < s) (hj : j < s) : G_cofactor [.fz (mD M), .fz (.int (i : Int)), .fz (.int (j : Int))] [] = some (.val (.int (cof s M i j)), []) := by
  have s1 := sSet_ (i := 3) (d_rest (en := rowD) (δ := cst (mD M) i j none none none) (f := dVar 0) (fk := dVar 1) (L := M.map rowD) (k := i) (by rw [List.length_map, h.1]; omega) rfl rfl)
  have e1 : (M.map rowD).take i ++ (M.map rowD).drop (i + 1) = (rest M i).map rowD := by unfold rest; rw [List.map_append, List.map_take, List.map_drop]
  rw [e1] at s1
  have e2 := lc_map (m := false) (f := dVar 3) (elt := dOp (addD false) (dSl false (dVar 5) oNone (oSome (dVar 2))) (dSl false (dVar 5) (oSome (dOp (addD false) (dVar 2) (dC (.int 1)))) oNone)) (j := 5) (sl := (cst (mD M) i j (some (.fz (.lst ((rest M i).map rowD)))) none none).sl) (st := []) (xs := rest M i) (en := rowD) (out := fun x => rowD (rst x j)) rfl (by rw [rest_len (by rw [h.1]; exact hi), h.1]; omega) fun x hx => ⟨(cst (mD M) i j (some (.fz (.lst ((rest M i).map rowD)))) none (some (.fz (rowD x)))).sl, by
    have := d_rest (en := rowD) (δ := cst (mD M) i j (some (.fz (.lst ((rest M i).map rowD)))) none (some (.fz (rowD x)))) (f := dVar 5) (fk := dVar 2) (L := x.map D.int) (k := j) (by rw [List.length_map, h.2 x (rest_mem hx)]; omega) rfl rfl
    have e3 : (x.map D.int).take j ++ (x.map D.int).drop (j + 1) = (rst x j).map D.int := by unfold rst; rw [List.map_append, List.map_take, List.map_drop]
    rw [e3] at this
    exact this⟩
  have e4 : (rest M i).map (fun x => rowD (rst x j)) = (minor M i j).map rowD := by unfold minor; rw [List.map_map]; rfl
  rw [e4] at e2
  have e5 := aC (g := aNil) (show dLc false (iSq (dVar 3)) (.nm 5) [5] bYes (dOp (addD false) (dSl false (dVar 5) oNone (oSome (dVar 2))) (dSl false (dVar 5) (oSome (dOp (addD false) (dVar 2) (dC (.int 1)))) oNone)) (cst (mD M) i j (some (.fz (.lst ((rest M i).map rowD)))) none none) = _ from e2) rfl
  have s2 := sSet_ (i := 4) (cl0 (m := false) (n := 1) e5 rfl rfl (g_volume (by omega) (sq_minor h hi hj) (sms_minor he) he2))
  obtain ⟨v, hv⟩ : ∃ v, v = volN (s - 1) (minor M i j) 1 1 := ⟨_, rfl⟩
  have m1 : dOp modD (dOp (addD false) (dVar 1) (dVar 2)) (dC (.int 2)) (cst (mD M) i j (some (.fz (.lst ((rest M i).map rowD)))) (some (.fz (.int v))) none) = some (.fz (.int (((i : Int) + (j : Int)) % 2)), cst (mD M) i j (some (.fz (.lst ((rest M i).map rowD)))) (some (.fz (.int v))) none) := rfl
  have c := dB_ ((dOp_ (g := eqD false) (fb := dC (.int 1)) m1 rfl rfl rfl).trans eqD_int)
  unfold G_cofactor fnD f_cofactor
  show ((sSeq _ (sSeq _ _) (cst (mD M) i j none none none)).bind _) = _
  rw [sSeq_nx s1]
  show ((sSeq _ _ (cst (mD M) i j (some (.fz (.lst ((rest M i).map rowD)))) none none)).bind _) = _
  rw [sSeq_nx s2]
  show ((sRet _ (cst (mD M) i j (some (.fz (.lst ((rest M i).map rowD)))) (some (.fz (.int (volN (s - 1) (minor M i j) 1 1)))) none)).bind _) = _
  rw [cof, ← hv, sRet, dIfE, c, Option.bind_some]
  by_cases hk1 : (i + j) % 2 = 1
  · have : ((((i : Int) + (j : Int)) % 2) == 1) = true := by rw [beq_iff_eq]; omega
    simp only [this, hk1, if_true]
    rfl
  · have : ((((i : Int) + (j : Int)) % 2) == 1) = false := by rw [beq_eq_false_iff_ne]; omega
    simp only [this, hk1, if_false, Bool.false_eq_true]
    rfl
end K03
set_option maxHeartbeats 0
namespace K03
open PySem L2 PK
/-! ### the inverse -/
theorem vol_bd {B : Nat} : ∀ (n : Nat) (L : List (List Int)) (sg la : Int) (e : Nat), L.length = n → (∀ r ∈ L, r.length = n) → Sms e L → (e + 1) * 2 ^ n ≤ 2 * (B + 1) → la.natAbs < 2 ^ B → (sg = 1 ∨ sg = -1) → (volN n L sg la).natAbs < 2 ^ B
  | 0, [], sg, la, e, _, _, _, _, h7, h8 => by
    have : volN 0 [] sg la = sg * la := rfl
    rw [this, Int.natAbs_mul]
    rcases h8 with rfl | rfl <;> simpa using h7
  | n + 1, r :: rs, sg, la, e, h1, h2, h4, h5, h7, h8 => by
    have hp : (e + 1) * 2 ^ (n + 1) = 2 * ((e + 1) * 2 ^ n) := by rw [Nat.pow_succ, Nat.mul_comm (2 ^ n) 2, ← Nat.mul_assoc, Nat.mul_comm (e + 1) 2, Nat.mul_assoc]
    have he1 : e ≤ B := by
      have : (e + 1) * 1 ≤ (e + 1) * 2 ^ n := Nat.mul_le_mul_left _ (Nat.two_pow_pos _)
      omega
    rw [volN]
    cases hf : fp (r :: rs) with
    | none => exact Nat.two_pow_pos _
    | some k =>
      obtain ⟨hk, h0⟩ := fp_some hf
      have tm := getD_mem hk
      refine vol_bd n _ _ _ (2 * e + 1) ?_ ?_ ?_ ?_ ?_ ?_
      · rw [List.length_map, rest_len hk, h1]; omega
      · intro x hx
        obtain ⟨z, hz, rfl⟩ := List.mem_map.mp hx
        rw [clr_len, h2 z (rest_mem hz)]
        omega
      · intro x hx
        obtain ⟨z, hz, rfl⟩ := List.mem_map.mp hx
        exact clr_sm (h4 z (rest_mem hz)) (h4 _ tm)
      · have : (2 * e + 1 + 1) * 2 ^ n = 2 * ((e + 1) * 2 ^ n) := by
          rw [← Nat.mul_assoc]
          congr 1
        omega
      · exact Nat.lt_of_lt_of_le (mem_getD (h4 _ tm)) (Nat.pow_le_pow_right (by decide) he1)
      · split <;> omega
  | 0, _ :: _, _, _, _, h1, _, _, _, _, _ => by cases h1
  | n + 1, [], _, _, _, h1, _, _, _, _, _ => by cases h1
theorem vol_sm {s e B : Nat} {L : List (List Int)} (hq : Sq s L) (he : Sms e L) (hB : (e + 1) * 2 ^ s ≤ 2 * (B + 1)) (hB1 : 1 ≤ B) : (volN s L 1 1).natAbs < 2 ^ B :=
  vol_bd s L 1 1 e hq.1 hq.2 he hB (by
    have : (2 : Nat) ^ 1 ≤ 2 ^ B := Nat.pow_le_pow_right (by decide) hB1
    show 1 < 2 ^ B
    omega) (.inl rfl)
theorem cof_sm {s e B i j : Nat} {M : List (List Int)} (h : Sq s M) (he : Sms e M) (hi : i < s) (hj : j < s) (hB : (e + 1) * 2 ^ s ≤ 4 * (B + 1)) (hB1 : 1 ≤ B) : (cof s M i j).natAbs < 2 ^ B := by
  have hp : (e + 1) * 2 ^ s = 2 * ((e + 1) * 2 ^ (s - 1)) := by
    obtain ⟨t, rfl⟩ : ∃ t, s = t + 1 := ⟨s - 1, by omega⟩
    rw [Nat.add_sub_cancel, Nat.pow_succ, Nat.mul_comm (2 ^ t) 2, ← Nat.mul_assoc, Nat.mul_comm (e + 1) 2, Nat.mul_assoc]
  have := vol_sm (B := B) (sq_minor h hi hj) (sms_minor (i := i) (j := j) he) (by omega) hB1
  unfold cof
  split
  · rw [Int.natAbs_neg]; exact this
  · exact this
theorem sq_adj {s : Nat} {M : List (List Int)} : Sq s (adj s M) := ⟨by simp [adj], fun r hr => by
  obtain ⟨j, _, rfl⟩ := List.mem_map.mp hr
  simp⟩
theorem sms_adj {s e B : Nat} {M : List (List Int)} (h : Sq s M) (he : Sms e M) (hB : (e + 1) * 2 ^ s ≤ 4 * (B + 1)) (hB1 : 1 ≤ B) : Sms B (adj s M) := fun r hr x hx => by
  obtain ⟨j, hj, rfl⟩ := List.mem_map.mp hr
  obtain ⟨i, hi, rfl⟩ := List.mem_map.mp hx
  exact cof_sm h he (List.mem_range.mp hi) (List.mem_range.mp hj) hB hB1
theorem sq_sc {s : Nat} {k : Int} {M : List (List Int)} (h : Sq s M) : Sq s (sc k M) := ⟨by rw [sc, List.length_map]; exact h.1, fun r hr => by
  obtain ⟨x, hx, rfl⟩ := List.mem_map.mp hr
  rw [List.length_map]
  exact h.2 x hx⟩
theorem sms_sc {a c : Nat} {k : Int} {M : List (List Int)} (hk : k.natAbs < 2 ^ a) (h : Sms c M) : Sms (a + c) (sc k M) := fun r hr x hx => by
  obtain ⟨y, hy, rfl⟩ := List.mem_map.mp hr
  obtain ⟨z, hz, rfl⟩ := List.mem_map.mp hx
  rw [Int.natAbs_mul, Nat.pow_add]
  exact Nat.mul_lt_mul_of_lt_of_le hk (Nat.le_of_lt (h y hy z hz)) (Nat.two_pow_pos _)
def ist (A : D) (x1 x2 x3 x4 x5 x6 x7 x8 : Option Vl) : Dl := ⟨[some (.fz A), x1, x2, x3, x4, x5, x6, x7, x8], []⟩
def sgb (v b : Int) : Int := if 0 < v then b else -b
end K03
set_option maxHeartbeats 0
namespace K03
open PySem L2 PK
/-! ### the check of rows and bottom, with its errors -/
def wr (s : Nat) : Nat → List (List Int) → Option Nat
  | _, [] => none
  | i, r :: rs => if r.length = s then wr s (i + 1) rs else some i
theorem wr_sq {s : Nat} : ∀ {M : List (List Int)} (i : Nat), (∀ r ∈ M, r.length = s) → wr s i M = none
  | [], i, _ => rfl
  | r :: M, i, h => by rw [wr, if_pos (h r List.mem_cons_self)]; exact wr_sq (i + 1) fun z hz => h z (List.mem_cons_of_mem _ hz)
theorem wr_none {s : Nat} : ∀ {M : List (List Int)} (i : Nat), wr s i M = none → ∀ r ∈ M, r.length = s
  | [], i, _, r, hr => by cases hr
  | q :: M, i, h, r, hr => by
    rw [wr] at h
    by_cases e : q.length = s
    · rw [if_pos e] at h
      rcases List.mem_cons.mp hr with rfl | hr
      · exact e
      · exact wr_none (i + 1) h r hr
    · rw [if_neg e] at h
      cases h
noncomputable def ckI : XF := xIf (bOr (dB (dOp (eqD false) (dCB lenD (aCons (dVar 0) aNil)) (dC (.int 0)))) (dB (dOp ltD (dVar 1) (dC (.int 1))))) (xRaise "InvalidMatrix" (dC .non)) (xOk sNext)
noncomputable def ckB : XF := xIf (dB (dOp (eqD true) (dCB lenD (aCons (dVar 3) aNil)) (dCB lenD (aCons (dVar 0) aNil)))) (xRaise "InvalidMatrix" (dVar 2)) (xOk sNext)
theorem f_check_eq : f_check_matrix = xSeq ckI (xFor (iEnumD (dVar 0)) (.tp [2, 3]) ckB) := rfl
def ckst (M : List (List Int)) (b : Int) (x y : Option Vl) : Dl := ⟨[some (.fz (mD M)), some (.fz (.int b)), x, y], []⟩
theorem d_ckI {M : List (List Int)} {b : Int} : ckI (ckst M b none none) = if M = [] ∨ b < 1 then some (.ex "InvalidMatrix" .non, ckst M b none none) else some (.ok .nx, ckst M b none none) := by
  have l2 := ln_ (f := dVar 0) (ds := M.map rowD) (δ := ckst M b none none) rfl
  have c1 := dB_ ((dOp_ (g := eqD false) (fb := dC (.int 0)) l2 rfl rfl rfl).trans eqD_int)
  have c2 : dB (dOp ltD (dVar 1) (dC (.int 1))) (ckst M b none none) = some (decide (b < 1), ckst M b none none) := rfl
  rw [List.length_map] at c1
  unfold ckI
  cases M with
  | nil =>
    have o : bOr (dB (dOp (eqD false) (dCB lenD (aCons (dVar 0) aNil)) (dC (.int 0)))) (dB (dOp ltD (dVar 1) (dC (.int 1)))) (ckst [] b none none) = some (true, ckst [] b none none) := by
      rw [bOr, c1]
      rfl
    rw [xIf_ o, if_pos rfl, if_pos (.inl rfl)]
    rfl
  | cons r M =>
    have hz : ((((r :: M).length : Nat) : Int) == 0) = false := by
      rw [beq_eq_false_iff_ne, List.length_cons]
      omega
    have o : bOr (dB (dOp (eqD false) (dCB lenD (aCons (dVar 0) aNil)) (dC (.int 0)))) (dB (dOp ltD (dVar 1) (dC (.int 1)))) (ckst (r :: M) b none none) = some (decide (b < 1), ckst (r :: M) b none none) := by
      rw [hz] at c1
      rw [bOr, c1]
      exact c2
    rw [xIf_ o]
    by_cases h : b < 1
    · rw [if_pos (by simp [h]), if_pos (.inr h)]
      rfl
    · rw [if_neg (by simp [h]), if_neg (by simp [h])]
      rfl
theorem d_ckB {M : List (List Int)} {b : Int} {r : List Int} {i : Nat} : ckB (ckst M b (some (.fz (.int i))) (some (.fz (rowD r)))) = if r.length = M.length then some (.ok .nx, ckst M b (some (.fz (.int i))) (some (.fz (rowD r)))) else some (.ex "InvalidMatrix" (.int i), ckst M b (some (.fz (.int i))) (some (.fz (rowD r)))) := by
  have l1 := ln_ (f := dVar 3) (ds := r.map D.int) (δ := ckst M b (some (.fz (.int i))) (some (.fz (rowD r)))) rfl
  have l2 := ln_ (f := dVar 0) (ds := M.map rowD) (δ := ckst M b (some (.fz (.int i))) (some (.fz (rowD r)))) rfl
  have c := dB_ ((dOp_ (g := eqD true) l1 l2 rfl rfl).trans eqD_int)
  rw [List.length_map, List.length_map] at c
  unfold ckB
  rw [xIf_ c]
  by_cases h : r.length = M.length
  · rw [if_pos h, if_neg (by simp [h])]
    rfl
  · have h2 : ((r.length : Int) == (M.length : Int)) = false := by
      rw [beq_eq_false_iff_ne]
      omega
    rw [if_neg h, if_pos (by simp [h2])]
    rfl
theorem d_ckL {M : List (List Int)} {b : Int} : ∀ (rs : List (List Int)) (i : Nat) (x y : Option Vl), ∃ x' y', forX [] (.tp [2, 3]) ckB (enumD i (rs.map rowD)) (ckst M b x y) = match wr M.length i rs with
    | none => some (.ok .nx, ckst M b x' y')
    | some j => some (.ex "InvalidMatrix" (.int j), ckst M b x' y')
  | [], i, x, y => ⟨x, y, by simp [enumD, forX, wr, CkOk]⟩
  | r :: rs, i, x, y => by
    rw [wr, List.map_cons, enumD, forX, if_pos (by simp)]
    show ∃ x' y', ((asgT (ckst M b x y) (.tp [2, 3]) (.tup [.int i, rowD r])).bind _) = _
    rw [show asgT (ckst M b x y) (.tp [2, 3]) (.tup [.int i, rowD r]) = some (ckst M b (some (.fz (.int i))) (some (.fz (rowD r)))) from rfl]
    simp only [Option.bind_some, d_ckB]
    by_cases h : r.length = M.length
    · simp only [if_pos h, Option.bind_some]
      exact d_ckL rs (i + 1) _ _
    · simp only [if_neg h, Option.bind_some]
      exact ⟨_, _, rfl⟩
theorem gx_check {M : List (List Int)} {b : Int} (hM : M ≠ []) (hb : 1 ≤ b) : GX_check_matrix [.fz (mD M), .fz (.int b)] [] = match wr M.length 0 M with
    | none => some (.ok (.val .non), [])
    | some j => some (.ex "InvalidMatrix" (.int j), []) := by
  have s1 : ckI (ckst M b none none) = some (.ok .nx, ckst M b none none) := by
    rw [d_ckI, if_neg]
    rintro (h | h)
    · exact hM h
    · omega
  obtain ⟨x', y', e⟩ := d_ckL (M := M) (b := b) M 0 none none
  unfold GX_check_matrix fnX
  rw [f_check_eq]
  show ((xSeq ckI _ (ckst M b none none)).bind _) = _
  rw [xSeq_ok s1, xFor]
  show ((Option.bind (some (enumD 0 (M.map rowD), [], ckst M b none none)) _).bind _) = _
  rw [Option.bind_some]
  show ((forX [] (.tp [2, 3]) ckB (enumD 0 (M.map rowD)) (ckst M b none none)).bind _) = _
  rw [e]
  cases wr M.length 0 M with
  | none => rfl
  | some j => rfl
theorem gx_check0 {M : List (List Int)} {b : Int} (h : M = [] ∨ b < 1) : GX_check_matrix [.fz (mD M), .fz (.int b)] [] = some (.ex "InvalidMatrix" .non, []) := by
  have s1 : ckI (ckst M b none none) = some (.ex "InvalidMatrix" .non, ckst M b none none) := by
    rw [d_ckI, if_pos h]
  unfold GX_check_matrix fnX
  rw [f_check_eq]
  show ((xSeq ckI _ (ckst M b none none)).bind _) = _
  rw [xSeq_ex s1]
  rfl
theorem gx_checkM {s : Nat} (hs : 1 ≤ s) {M : List (List Int)} {b : Int} (h : Sq s M) (hb : 1 ≤ b) : GX_check_matrix [.fz (mD M), .fz (.int b)] [] = some (.ok (.val .non), []) := by
  have e := gx_check (M := M) (b := b) (by intro h0; rw [h0] at h; have := h.1; simp at this; omega) hb
  rw [wr_sq 0 (fun r hr => (h.2 r hr).trans h.1.symm)] at e
  exact e
end K03
set_option maxHeartbeats 0
namespace K03
open PySem L2 PK
theorem gx_initM {s : Nat} (hs : 1 ≤ s) (hs3 : s ≤ 100) {M : List (List Int)} {b : Int} (h : Sq s M) (h1 : 1 ≤ b) (h2 : b.natAbs < 2 ^ 4000) (h3 : Sms 4000 M) : GX_Matrix_init [.fz (mD M), .fz (.int b)] [] = some (.ok fsM [mD (lr M b), .int (lb M b)], []) := by
  have cp := cdv_pos M b h1
  have od := okDiv_pos cp.1 (by omega : (cdv b M).natAbs < 2 ^ 4000)
  have e1 := xcl0 (G := GX_check_matrix) (m := false) (n := 2) (fa := aCons (dVar 1) (aCons (dVar 2) aNil)) (δ := ⟨[none, some (.fz (mD M)), some (.fz (.int b)), none, none, none], []⟩) rfl rfl rfl (gx_checkM hs h h1)
  have e2 := cl0 (G := G_common_divisor) (m := false) (n := 2) (fa := aCons (dVar 1) (aCons (dVar 2) aNil)) (δ := ⟨[none, some (.fz (mD M)), some (.fz (.int b)), none, none, none], []⟩) rfl rfl rfl (g_common h1 h2 h3)
  have e3 : dLc false (iSq (dVar 1)) (.nm 4) [4] bYes (dLc false (iSq (dVar 4)) (.nm 5) [5] bYes (dOp divD (dVar 5) (dVar 3))) ⟨[none, some (.fz (mD M)), some (.fz (.int b)), some (.fz (.int (cdv b M))), none, none], []⟩ = some (.fz (mD (lr M b)), ⟨[none, some (.fz (mD M)), some (.fz (.int b)), some (.fz (.int (cdv b M))), none, none], []⟩) := by
    have := lc_map (m := false) (f := dVar 1) (elt := dLc false (iSq (dVar 4)) (.nm 5) [5] bYes (dOp divD (dVar 5) (dVar 3))) (j := 4) (sl := [none, some (.fz (mD M)), some (.fz (.int b)), some (.fz (.int (cdv b M))), none, none]) (st := []) (xs := M) (en := rowD) (out := fun r => rowD (r.map fun e => e / cdv b M)) rfl (by have := h.1; omega) fun r hr => ⟨_, by
      have := lc_map (m := false) (f := dVar 4) (elt := dOp divD (dVar 5) (dVar 3)) (j := 5) (sl := [none, some (.fz (mD M)), some (.fz (.int b)), some (.fz (.int (cdv b M))), some (.fz (rowD r)), none]) (st := []) (xs := r) (en := D.int) (out := fun e => .int (e / cdv b M)) rfl (by have := h.2 r hr; omega) fun e he => ⟨_, by
        refine (dOp_ (g := divD) (fa := dVar 5) (fb := dVar 3) rfl rfl rfl rfl).trans ?_
        simp [divD, od]
        rfl⟩
      have e2 : (r.map fun e => D.int (e / cdv b M)) = (r.map fun e => e / cdv b M).map D.int := by rw [List.map_map]; rfl
      rw [e2] at this
      exact this⟩
    have e3 : (M.map fun r => rowD (r.map fun e => e / cdv b M)) = (lr M b).map rowD := by unfold lr dvs; rw [List.map_map]; rfl
    rw [e3] at this
    exact this
  have e4 : dOp divD (dVar 2) (dVar 3) ⟨[none, some (.fz (mD M)), some (.fz (.int b)), some (.fz (.int (cdv b M))), none, none], []⟩ = some (.fz (.int (lb M b)), ⟨[none, some (.fz (mD M)), some (.fz (.int b)), some (.fz (.int (cdv b M))), none, none], []⟩) := by
    refine (dOp_ (g := divD) (fa := dVar 2) (fb := dVar 3) rfl rfl rfl rfl).trans ?_
    simp [divD, od, lb]
  have i1 : jDrop (xCallN false 2 GX_check_matrix (aCons (dVar 1) (aCons (dVar 2) aNil))) ⟨⟨[none, some (.fz (mD M)), some (.fz (.int b)), none, none, none], []⟩, [], []⟩ = some (.ok ⟨⟨[none, some (.fz (mD M)), some (.fz (.int b)), none, none, none], []⟩, [], []⟩) := by
    unfold jDrop
    rw [e1]
    rfl
  have i2 : jOk (iSet 2 (dCallN false 2 G_common_divisor (aCons (dVar 1) (aCons (dVar 2) aNil)))) ⟨⟨[none, some (.fz (mD M)), some (.fz (.int b)), none, none, none], []⟩, [], []⟩ = some (.ok ⟨⟨[none, some (.fz (mD M)), some (.fz (.int b)), some (.fz (.int (cdv b M))), none, none], []⟩, [], []⟩) := by
    unfold jOk iSet
    rw [e2]
    rfl
  have i3 : jOk (iFld "_rows" (dLc false (iSq (dVar 1)) (.nm 4) [4] bYes (dLc false (iSq (dVar 4)) (.nm 5) [5] bYes (dOp divD (dVar 5) (dVar 3))))) ⟨⟨[none, some (.fz (mD M)), some (.fz (.int b)), some (.fz (.int (cdv b M))), none, none], []⟩, [], []⟩ = some (.ok ⟨⟨[none, some (.fz (mD M)), some (.fz (.int b)), some (.fz (.int (cdv b M))), none, none], []⟩, ["_rows"], [mD (lr M b)]⟩) := by
    unfold jOk iFld
    rw [e3]
    rfl
  have i4 : jOk (iFld "_bottom" (dOp divD (dVar 2) (dVar 3))) ⟨⟨[none, some (.fz (mD M)), some (.fz (.int b)), some (.fz (.int (cdv b M))), none, none], []⟩, ["_rows"], [mD (lr M b)]⟩ = some (.ok ⟨⟨[none, some (.fz (mD M)), some (.fz (.int b)), some (.fz (.int (cdv b M))), none, none], []⟩, fsM, [mD (lr M b), .int (lb M b)]⟩) := by
    unfold jOk iFld
    simp only [knM]
    rw [e4]
    rfl
  unfold GX_Matrix_init PK.initX f_Matrix_init
  show ((jSeq _ (jSeq _ (jSeq _ _)) ⟨⟨[none, some (.fz (mD M)), some (.fz (.int b)), none, none, none], []⟩, [], []⟩).bind _) = _
  simp only [jSeq, i1, i2, i3, i4, Option.bind_some]
  rfl
theorem gx_init_ex {M : List (List Int)} {b : Int} {c : Str} {d : D} (h : GX_check_matrix [.fz (mD M), .fz (.int b)] [] = some (.ex c d, [])) : GX_Matrix_init [.fz (mD M), .fz (.int b)] [] = some (.ex c d, []) := by
  have e1 := xcl0e (G := GX_check_matrix) (m := false) (n := 2) (fa := aCons (dVar 1) (aCons (dVar 2) aNil)) (δ := ⟨[none, some (.fz (mD M)), some (.fz (.int b)), none, none, none], []⟩) rfl rfl rfl h
  have i1 : jDrop (xCallN false 2 GX_check_matrix (aCons (dVar 1) (aCons (dVar 2) aNil))) ⟨⟨[none, some (.fz (mD M)), some (.fz (.int b)), none, none, none], []⟩, [], []⟩ = some (.ex c d ⟨[none, some (.fz (mD M)), some (.fz (.int b)), none, none, none], []⟩) := by
    unfold jDrop
    rw [e1]
    rfl
  unfold GX_Matrix_init PK.initX f_Matrix_init
  show ((jSeq _ (jSeq _ (jSeq _ _)) ⟨⟨[none, some (.fz (mD M)), some (.fz (.int b)), none, none, none], []⟩, [], []⟩).bind _) = _
  simp only [jSeq, i1, Option.bind_some]
  rfl
theorem g_initM {s : Nat} (hs : 1 ≤ s) (hs3 : s ≤ 100) {M : List (List Int)} {b : Int} (h : Sq s M) (h1 : 1 ≤ b) (h2 : b.natAbs < 2 ^ 4000) (h3 : Sms 4000 M) : okI GX_Matrix_init [.fz (mD M), .fz (.int b)] [] = some (fsM, [mD (lr M b), .int (lb M b)], []) := by
  unfold okI
  rw [gx_initM hs hs3 h h1 h2 h3]
theorem mkM {s : Nat} (hs : 1 ≤ s) (hs3 : s ≤ 100) {M : List (List Int)} {b : Int} (h : Sq s M) (h1 : 1 ≤ b) (h2 : b.natAbs < 2 ^ 4000) (h3 : Sms 4000 M) {fa : AF} {δ δ' : Dl} (e : fa δ = some ([.fz (mD M), .fz (.int b)], δ')) : dMake "Matrix" 3 G_Matrix_init fa δ = some (.fz (matD (lr M b) (lb M b)), δ') := by
  simp [G_Matrix_init, dMake, e, makeG, refs, renum, lives, g_initM hs hs3 h h1 h2 h3, PK.putAll, matD]
theorem xmkM {s : Nat} (hs : 1 ≤ s) (hs3 : s ≤ 100) {M : List (List Int)} {b : Int} (h : Sq s M) (h1 : 1 ≤ b) (h2 : b.natAbs < 2 ^ 4000) (h3 : Sms 4000 M) {fa : AF} {δ δ' : Dl} (e : fa δ = some ([.fz (mD M), .fz (.int b)], δ')) : xMake "Matrix" 3 GX_Matrix_init fa δ = some (.ok (.fz (matD (lr M b) (lb M b))), δ') := by
  simp [xMake, e, makeX, makeG, refs, renum, lives, g_initM hs hs3 h h1 h2 h3, PK.putAll, matD]
theorem xmkE {M : List (List Int)} {b : Int} {c : Str} {d : D} (h : GX_check_matrix [.fz (mD M), .fz (.int b)] [] = some (.ex c d, [])) {fa : AF} {δ δ' : Dl} (e : fa δ = some ([.fz (mD M), .fz (.int b)], δ')) : xMake "Matrix" 3 GX_Matrix_init fa δ = some (.ex c d, δ') := by
  have g := gx_init_ex h
  simp [xMake, e, makeX, makeG, refs, renum, lives, okI, g, PK.putAll]
end K03
set_option maxHeartbeats 0
namespace K03
open PySem L2 PK
theorem gx_after {s : Nat} (hs : 1 ≤ s) (hs3 : s ≤ 3) {A B : List (List Int)} {a b : Int} (h1 : Sq s A) (h2 : Sq s B) (ha : Sms 1000 A) (hb : Sms 1000 B) (ha1 : 1 ≤ a) (hb1 : 1 ≤ b) (ha2 : a.natAbs < 2 ^ 1000) (hb2 : b.natAbs < 2 ^ 1000) :
    GX_Matrix_after [.fz (matD A a), .fz (matD B b)] [] = some (.ok (.val (matD (lr (mul s A B) (a * b)) (lb (mul s A B) (a * b)))), []) := by
  have sA := h1.1
  have sB := h2.1
  have s1 : sSet 2 (dCB lenD (aCons (dFld "Matrix" "_rows" (dVar 0)) aNil)) (ast (matD A a) (matD B b) none none none none) = some (.nx, ast (matD A a) (matD B b) (some (.fz (.int s))) none none none) := by
    have e := ln_ (fd_r (R := A) (b := a) (f := dVar 0) (δ := ast (matD A a) (matD B b) none none none none) rfl)
    rw [List.length_map, sA] at e
    rw [sSet_ e]
    rfl
  have s2 : xIf (dB (dOp (eqD true) (dLenI "Matrix" G_Matrix_len (dVar 1)) (dVar 2))) (xRaise "OtherChannels" (dLenI "Matrix" G_Matrix_len (dVar 1))) (xOk sNext) (ast (matD A a) (matD B b) (some (.fz (.int s))) none none none) = some (.ok .nx, ast (matD A a) (matD B b) (some (.fz (.int s))) none none none) := by
    have e := ln_f (R := B) (b := b) (by omega) (fo := dVar 1) (δ := ast (matD A a) (matD B b) (some (.fz (.int s))) none none none) rfl
    rw [sB] at e
    have c := dB_ ((dOp_ (g := eqD true) (fb := dVar 2) e rfl rfl rfl).trans (eqD_self (k := 0) nice_int (by decide)))
    rw [xIf_ c]
    rfl
  have s3 : sSet 3 (dMeth false "Matrix" "" 1 G_Matrix_rows (dVar 1) aNil) (ast (matD A a) (matD B b) (some (.fz (.int s))) none none none) = some (.nx, ast (matD A a) (matD B b) (some (.fz (.int s))) (some (.fz (mD B))) none none) := by
    have e := rw_f (R := B) (b := b) false (by omega) (fo := dVar 1) (δ := ast (matD A a) (matD B b) (some (.fz (.int s))) none none none) rfl
    rw [sSet_ e]
    rfl
  have s4 : sSet 4 (dLc false (iRg1 (dVar 2)) (.nm 6) [6] bYes (dLc false (iSq (dVar 3)) (.nm 8) [8] bYes (dOp ixD (dVar 8) (dVar 6)))) (ast (matD A a) (matD B b) (some (.fz (.int s))) (some (.fz (mD B))) none none) = some (.nx, ast (matD A a) (matD B b) (some (.fz (.int s))) (some (.fz (mD B))) (some (.fz (mD ((List.range s).map fun j => col j B)))) none) := by
    have hr := iRg_ (s := s) (f := dVar 2) (δ := ast (matD A a) (matD B b) (some (.fz (.int s))) (some (.fz (mD B))) none none) (by omega) rfl
    have e := lc_mapI (m := false) (fi := iRg1 (dVar 2)) (elt := dLc false (iSq (dVar 3)) (.nm 8) [8] bYes (dOp ixD (dVar 8) (dVar 6))) (j := 6) (sl := (ast (matD A a) (matD B b) (some (.fz (.int s))) (some (.fz (mD B))) none none).sl) (st := []) (xs := List.range s) (en := fun i : Nat => .int (0 + (i : Int))) (out := fun i => rowD (col i B)) hr (by simp; omega) fun i hi => ⟨_, by
      have hi' : i < s := List.mem_range.mp hi
      have e2 := lc_map (m := false) (f := dVar 3) (elt := dOp ixD (dVar 8) (dVar 6)) (j := 8) (sl := [some (.fz (matD A a)), some (.fz (matD B b)), some (.fz (.int s)), some (.fz (mD B)), none, none, some (.fz (.int (0 + (i : Int)))), none, none, none]) (st := []) (xs := B) (en := rowD) (out := fun r => .int (r.getD i 0)) rfl (by omega) fun r hr => ⟨_, (dOp_ (g := ixD) (fa := dVar 8) (fb := dVar 6) rfl rfl rfl rfl).trans (ix_row (by rw [h2.2 r hr]; exact hi') _)⟩
      have e3 : (B.map fun r => D.int (r.getD i 0)) = (col i B).map D.int := by unfold col; rw [List.map_map]; rfl
      rw [e3] at e2
      exact e2⟩
    have e4 : ((List.range s).map fun i => rowD (col i B)) = ((List.range s).map fun j => col j B).map rowD := by rw [List.map_map]; rfl
    rw [e4] at e
    rw [sSet_ (show dLc false (iRg1 (dVar 2)) (.nm 6) [6] bYes (dLc false (iSq (dVar 3)) (.nm 8) [8] bYes (dOp ixD (dVar 8) (dVar 6))) (ast (matD A a) (matD B b) (some (.fz (.int s))) (some (.fz (mD B))) none none) = _ from e)]
    rfl
  have s5 : sSet 5 (dLc false (iSq (dFld "Matrix" "_rows" (dVar 0))) (.nm 7) [7] bYes (dLc false (iSq (dVar 4)) (.nm 9) [9] bYes (dCallN false 2 G_dot (aCons (dVar 7) (aCons (dVar 9) aNil))))) (ast (matD A a) (matD B b) (some (.fz (.int s))) (some (.fz (mD B))) (some (.fz (mD ((List.range s).map fun j => col j B)))) none) = some (.nx, ast (matD A a) (matD B b) (some (.fz (.int s))) (some (.fz (mD B))) (some (.fz (mD ((List.range s).map fun j => col j B)))) (some (.fz (mD (mul s A B))))) := by
    have e := lc_map (m := false) (f := dFld "Matrix" "_rows" (dVar 0)) (elt := dLc false (iSq (dVar 4)) (.nm 9) [9] bYes (dCallN false 2 G_dot (aCons (dVar 7) (aCons (dVar 9) aNil)))) (j := 7) (sl := (ast (matD A a) (matD B b) (some (.fz (.int s))) (some (.fz (mD B))) (some (.fz (mD ((List.range s).map fun j => col j B)))) none).sl) (st := []) (xs := A) (en := rowD) (out := fun r => rowD ((List.range s).map fun j => dotI r (col j B))) (fd_r rfl) (by omega) fun r hr => ⟨_, by
      have e2 := lc_map (m := false) (f := dVar 4) (elt := dCallN false 2 G_dot (aCons (dVar 7) (aCons (dVar 9) aNil))) (j := 9) (sl := [some (.fz (matD A a)), some (.fz (matD B b)), some (.fz (.int s)), some (.fz (mD B)), some (.fz (mD ((List.range s).map fun j => col j B))), none, none, some (.fz (rowD r)), none, none]) (st := []) (xs := (List.range s).map fun j => col j B) (en := rowD) (out := fun c => .int (dotI r c)) rfl (by simp; omega) fun c hc => ⟨[some (.fz (matD A a)), some (.fz (matD B b)), some (.fz (.int s)), some (.fz (mD B)), some (.fz (mD ((List.range s).map fun j => col j B))), none, none, some (.fz (rowD r)), none, some (.fz (rowD c))], by
        obtain ⟨j, _, rfl⟩ := List.mem_map.mp hc
        exact cl0 (G := G_dot) (m := false) (n := 2) (fa := aCons (dVar 7) (aCons (dVar 9) aNil)) (δ := ⟨[some (.fz (matD A a)), some (.fz (matD B b)), some (.fz (.int s)), some (.fz (mD B)), some (.fz (mD ((List.range s).map fun j => col j B))), none, none, some (.fz (rowD r)), none, some (.fz (rowD (col j B)))], []⟩) (rs := [.fz (rowD r), .fz (rowD (col j B))]) rfl rfl rfl (g_dot (.inl rfl) (sm_up (ha r hr) (by decide)) (sm_up (sm_col hb) (by decide)) (by rw [h1.2 r hr]; omega))⟩
      have e3 : (((List.range s).map fun j => col j B).map fun c => D.int (dotI r c)) = ((List.range s).map fun j => dotI r (col j B)).map D.int := by rw [List.map_map, List.map_map]; rfl
      rw [e3] at e2
      exact e2⟩
    have e4 : (A.map fun r => rowD ((List.range s).map fun j => dotI r (col j B))) = (mul s A B).map rowD := by unfold mul; rw [List.map_map]; rfl
    rw [e4] at e
    rw [sSet_ (show dLc false (iSq (dFld "Matrix" "_rows" (dVar 0))) (.nm 7) [7] bYes (dLc false (iSq (dVar 4)) (.nm 9) [9] bYes (dCallN false 2 G_dot (aCons (dVar 7) (aCons (dVar 9) aNil)))) (ast (matD A a) (matD B b) (some (.fz (.int s))) (some (.fz (mD B))) (some (.fz (mD ((List.range s).map fun j => col j B)))) none) = _ from e)]
    rfl
  have pab : 1 ≤ a * b := by
    have := Int.mul_le_mul ha1 hb1 (by decide) (by omega)
    omega
  have pab2 : (a * b).natAbs < 2 ^ 2100 := by
    rw [Int.natAbs_mul]
    have : a.natAbs * b.natAbs ≤ 2 ^ 1000 * 2 ^ 1000 := Nat.mul_le_mul (Nat.le_of_lt ha2) (Nat.le_of_lt hb2)
    have h4 := pw2b
    omega
  have e6 : aCons (dVar 5) (aCons (dOp (mulD false) (dFld "Matrix" "_bottom" (dVar 0)) (dMeth false "Matrix" "" 1 G_Matrix_bottom (dVar 1) aNil)) aNil) (ast (matD A a) (matD B b) (some (.fz (.int s))) (some (.fz (mD B))) (some (.fz (mD ((List.range s).map fun j => col j B)))) (some (.fz (mD (mul s A B))))) = some ([.fz (mD (mul s A B)), .fz (.int (a * b))], ast (matD A a) (matD B b) (some (.fz (.int s))) (some (.fz (mD B))) (some (.fz (mD ((List.range s).map fun j => col j B)))) (some (.fz (mD (mul s A B))))) := by
    have ok : okMul a b = true := okMul_big (Nat.lt_of_lt_of_le ha2 (Nat.pow_le_pow_right (by decide) (by decide))) (Nat.lt_of_lt_of_le hb2 (Nat.pow_le_pow_right (by decide) (by decide)))
    have i1 := (dOp_ (g := mulD false) (fd_b (R := A) (b := a) (f := dVar 0) (δ := ast (matD A a) (matD B b) (some (.fz (.int s))) (some (.fz (mD B))) (some (.fz (mD ((List.range s).map fun j => col j B)))) (some (.fz (mD (mul s A B))))) rfl) (bt_f (R := B) (b := b) (fo := dVar 1) rfl) rfl rfl).trans (show mulD false _ (D.int a) (D.int b) = some (.fz (.int (a * b)), _) by simp [mulD, ok]; rfl)
    exact aC (f := dVar 5) rfl (aC (g := aNil) i1 rfl)
  have e7 := xmkM hs (by omega) (sq_mul (B := B) h1) pab (Nat.lt_of_lt_of_le pab2 (Nat.pow_le_pow_right (by decide) (by decide))) (sms_up (sms_mul hs3 h1 ha hb) (by decide)) e6
  unfold GX_Matrix_after fnX f_Matrix_after
  show ((xSeq _ (xSeq _ _) (ast (matD A a) (matD B b) none none none none)).bind _) = _
  rw [xSeq_ok (xOk_ s1), xSeq_ok s2, xSeq_ok (xOk_ s3), xSeq_ok (xOk_ s4), xSeq_ok (xOk_ s5), xRet_ok e7]
  rfl
theorem gx_after_ex {s t : Nat} (hs3 : s ≤ 3) (ht3 : t ≤ 3) {A B : List (List Int)} {a b : Int} (h1 : Sq s A) (h2 : Sq t B) (hst : t ≠ s) : GX_Matrix_after [.fz (matD A a), .fz (matD B b)] [] = some (.ex "OtherChannels" (.int t), []) := by
  have sA := h1.1
  have sB := h2.1
  have s1 : sSet 2 (dCB lenD (aCons (dFld "Matrix" "_rows" (dVar 0)) aNil)) (ast (matD A a) (matD B b) none none none none) = some (.nx, ast (matD A a) (matD B b) (some (.fz (.int s))) none none none) := by
    have e := ln_ (fd_r (R := A) (b := a) (f := dVar 0) (δ := ast (matD A a) (matD B b) none none none none) rfl)
    rw [List.length_map, sA] at e
    rw [sSet_ e]
    rfl
  have e := ln_f (R := B) (b := b) (by omega) (fo := dVar 1) (δ := ast (matD A a) (matD B b) (some (.fz (.int s))) none none none) rfl
  rw [sB] at e
  have s2 : xIf (dB (dOp (eqD true) (dLenI "Matrix" G_Matrix_len (dVar 1)) (dVar 2))) (xRaise "OtherChannels" (dLenI "Matrix" G_Matrix_len (dVar 1))) (xOk sNext) (ast (matD A a) (matD B b) (some (.fz (.int s))) none none none) = some (.ex "OtherChannels" (.int t), ast (matD A a) (matD B b) (some (.fz (.int s))) none none none) := by
    have c := dB_ ((dOp_ (g := eqD true) (fb := dVar 2) e rfl rfl rfl).trans eqD_int)
    have hz : (((t : Nat) : Int) == (s : Int)) = false := by
      rw [beq_eq_false_iff_ne]
      omega
    rw [hz] at c
    rw [xIf_ c, if_pos rfl]
    exact xRaise_ e
  unfold GX_Matrix_after fnX f_Matrix_after
  show ((xSeq _ (xSeq _ _) (ast (matD A a) (matD B b) none none none none)).bind _) = _
  rw [xSeq_ok (xOk_ s1), xSeq_ex s2]
  rfl
end K03
set_option maxHeartbeats 0
namespace K03
open PySem L2 PK
theorem gx_inv {s e : Nat} {M : List (List Int)} {b : Int} (hs : 1 ≤ s) (hs3 : s ≤ 3) (h : Sq s M) (he : Sms e M) (he2 : e ≤ 499) (h1 : 1 ≤ b) (h2 : b.natAbs < 2 ^ 499) (hv0 : volN s M 1 1 ≠ 0) :
    GX_Matrix_inverse [.fz (matD M b)] [] = some (.ok (.val (matD (lr (sc (sgb (volN s M 1 1) b) (adj s M)) ((volN s M 1 1).natAbs : Int)) (lb (sc (sgb (volN s M 1 1) b) (adj s M)) ((volN s M 1 1).natAbs : Int)))), []) := by
  have p3 : (2 : Nat) ^ s ≤ 2 ^ 3 := Nat.pow_le_pow_right (by decide) hs3
  have p4 := Nat.mul_le_mul (show e + 1 ≤ 500 by omega) p3
  have hvb := vol_sm (B := 3000) h he (by omega) (by decide)
  have hg := g_volume hs3 h he he2
  obtain ⟨v, hv⟩ : ∃ v, v = volN s M 1 1 := ⟨_, rfl⟩
  rw [← hv] at hg hvb hv0 ⊢
  have sM := h.1
  have e1 := sSet_ (i := 1) (cl0 (G := G_volume) (m := false) (n := 1) (aC (g := aNil) (fd_r (R := M) (b := b) (f := dVar 0) (δ := ist (matD M b) none none none none none none none none) rfl) rfl) rfl rfl hg)
  have c2 := dB_ ((dOp_ (g := eqD false) (fa := dVar 1) (fb := dC (.int 0)) (δ := ist (matD M b) (some (.fz (.int v))) none none none none none none none) rfl rfl rfl rfl).trans eqD_int)
  rw [show (if false = true then !(v == 0) else v == 0) = false by simpa using hv0] at c2
  have e2 : xIf (dB (dOp (eqD false) (dVar 1) (dC (.int 0)))) (xRaise "Singular" (dC .non)) (xOk sNext) (ist (matD M b) (some (.fz (.int v))) none none none none none none none) = some (.ok .nx, ist (matD M b) (some (.fz (.int v))) none none none none none none none) := by
    rw [xIf_ c2]
    rfl
  have e3 : sSet 2 (dIfE (dB (dOp gtD (dVar 1) (dC (.int 0)))) (dFld "Matrix" "_bottom" (dVar 0)) (dUn negD (dFld "Matrix" "_bottom" (dVar 0)))) (ist (matD M b) (some (.fz (.int v))) none none none none none none none) = some (.nx, ist (matD M b) (some (.fz (.int v))) (some (.fz (.int (sgb v b)))) none none none none none none) := by
    have c : dB (dOp gtD (dVar 1) (dC (.int 0))) (ist (matD M b) (some (.fz (.int v))) none none none none none none none) = some (decide (0 < v), ist (matD M b) (some (.fz (.int v))) none none none none none none none) := rfl
    have f := fd_b (R := M) (b := b) (f := dVar 0) (δ := ist (matD M b) (some (.fz (.int v))) none none none none none none none) rfl
    have q : dIfE (dB (dOp gtD (dVar 1) (dC (.int 0)))) (dFld "Matrix" "_bottom" (dVar 0)) (dUn negD (dFld "Matrix" "_bottom" (dVar 0))) (ist (matD M b) (some (.fz (.int v))) none none none none none none none) = some (.fz (.int (sgb v b)), ist (matD M b) (some (.fz (.int v))) none none none none none none none) := by
      rw [dIfE, c, Option.bind_some]
      unfold sgb
      by_cases hp : 0 < v
      · simp only [hp, decide_true, if_true]
        exact f
      · simp only [hp, decide_false, if_false, Bool.false_eq_true]
        rw [dUn, f]
        rfl
    rw [sSet_ q]
    rfl
  have e4 : sSet 3 (dCB lenD (aCons (dFld "Matrix" "_rows" (dVar 0)) aNil)) (ist (matD M b) (some (.fz (.int v))) (some (.fz (.int (sgb v b)))) none none none none none none) = some (.nx, ist (matD M b) (some (.fz (.int v))) (some (.fz (.int (sgb v b)))) (some (.fz (.int s))) none none none none none) := by
    have e := ln_ (fd_r (R := M) (b := b) (f := dVar 0) (δ := ist (matD M b) (some (.fz (.int v))) (some (.fz (.int (sgb v b)))) none none none none none none) rfl)
    rw [List.length_map, sM] at e
    rw [sSet_ e]
    rfl
  have e5 : sSet 4 (dLc false (iRg1 (dVar 3)) (.nm 5) [5] bYes (dLc false (iRg1 (dVar 3)) (.nm 6) [6] bYes (dCallN false 3 G_cofactor (aCons (dFld "Matrix" "_rows" (dVar 0)) (aCons (dVar 6) (aCons (dVar 5) aNil)))))) (ist (matD M b) (some (.fz (.int v))) (some (.fz (.int (sgb v b)))) (some (.fz (.int s))) none none none none none) = some (.nx, ist (matD M b) (some (.fz (.int v))) (some (.fz (.int (sgb v b)))) (some (.fz (.int s))) (some (.fz (mD (adj s M)))) none none none none) := by
    have hr := iRg_ (s := s) (f := dVar 3) (δ := ist (matD M b) (some (.fz (.int v))) (some (.fz (.int (sgb v b)))) (some (.fz (.int s))) none none none none none) (by omega) rfl
    have e := lc_mapI (m := false) (fi := iRg1 (dVar 3)) (elt := dLc false (iRg1 (dVar 3)) (.nm 6) [6] bYes (dCallN false 3 G_cofactor (aCons (dFld "Matrix" "_rows" (dVar 0)) (aCons (dVar 6) (aCons (dVar 5) aNil))))) (j := 5) (sl := (ist (matD M b) (some (.fz (.int v))) (some (.fz (.int (sgb v b)))) (some (.fz (.int s))) none none none none none).sl) (st := []) (xs := List.range s) (en := fun i : Nat => .int (0 + (i : Int))) (out := fun j => rowD ((List.range s).map fun i => cof s M i j)) hr (by simp; omega) fun j hj => ⟨(ist (matD M b) (some (.fz (.int v))) (some (.fz (.int (sgb v b)))) (some (.fz (.int s))) none (some (.fz (.int (0 + (j : Int))))) none none none).sl, by
      have hj' : j < s := List.mem_range.mp hj
      have hr2 := iRg_ (s := s) (f := dVar 3) (δ := ist (matD M b) (some (.fz (.int v))) (some (.fz (.int (sgb v b)))) (some (.fz (.int s))) none (some (.fz (.int (0 + (j : Int))))) none none none) (by omega) rfl
      have e2 := lc_mapI (m := false) (fi := iRg1 (dVar 3)) (elt := dCallN false 3 G_cofactor (aCons (dFld "Matrix" "_rows" (dVar 0)) (aCons (dVar 6) (aCons (dVar 5) aNil)))) (j := 6) (sl := (ist (matD M b) (some (.fz (.int v))) (some (.fz (.int (sgb v b)))) (some (.fz (.int s))) none (some (.fz (.int (0 + (j : Int))))) none none none).sl) (st := []) (xs := List.range s) (en := fun i : Nat => .int (0 + (i : Int))) (out := fun i => .int (cof s M i j)) hr2 (by simp; omega) fun i hi => ⟨(ist (matD M b) (some (.fz (.int v))) (some (.fz (.int (sgb v b)))) (some (.fz (.int s))) none (some (.fz (.int (0 + (j : Int))))) (some (.fz (.int (0 + (i : Int))))) none none).sl, by
        have hi' : i < s := List.mem_range.mp hi
        have gc := g_cof hs3 h he he2 hi' hj'
        rw [show (i : Int) = 0 + (i : Int) by omega, show (j : Int) = 0 + (j : Int) by omega] at gc
        exact cl0 (G := G_cofactor) (m := false) (n := 3) (aC (fd_r (R := M) (b := b) (f := dVar 0) (δ := ist (matD M b) (some (.fz (.int v))) (some (.fz (.int (sgb v b)))) (some (.fz (.int s))) none (some (.fz (.int (0 + (j : Int))))) (some (.fz (.int (0 + (i : Int))))) none none) rfl) (aC (f := dVar 6) rfl (aC (f := dVar 5) (g := aNil) rfl rfl))) rfl rfl gc⟩
      have e3 : ((List.range s).map fun i => D.int (cof s M i j)) = ((List.range s).map fun i => cof s M i j).map D.int := by rw [List.map_map]; rfl
      rw [e3] at e2
      exact e2⟩
    have e4 : ((List.range s).map fun j => rowD ((List.range s).map fun i => cof s M i j)) = (adj s M).map rowD := by unfold adj; rw [List.map_map]; rfl
    rw [e4] at e
    rw [sSet_ (show dLc false (iRg1 (dVar 3)) (.nm 5) [5] bYes (dLc false (iRg1 (dVar 3)) (.nm 6) [6] bYes (dCallN false 3 G_cofactor (aCons (dFld "Matrix" "_rows" (dVar 0)) (aCons (dVar 6) (aCons (dVar 5) aNil))))) (ist (matD M b) (some (.fz (.int v))) (some (.fz (.int (sgb v b)))) (some (.fz (.int s))) none none none none none) = _ from e)]
    rfl
  have sb2 : (sgb v b).natAbs < 2 ^ 499 := by
    unfold sgb
    split
    · exact h2
    · rw [Int.natAbs_neg]; exact h2
  have qa : Sq s (adj s M) := sq_adj
  have sa : Sms 1000 (adj s M) := sms_adj h he (by omega) (by decide)
  have e6 := lc_map (m := false) (f := dVar 4) (elt := dLc false (iSq (dVar 7)) (.nm 8) [8] bYes (dOp (mulD false) (dVar 2) (dVar 8))) (j := 7) (sl := (ist (matD M b) (some (.fz (.int v))) (some (.fz (.int (sgb v b)))) (some (.fz (.int s))) (some (.fz (mD (adj s M)))) none none none none).sl) (st := []) (xs := adj s M) (en := rowD) (out := fun r => rowD (r.map fun x => sgb v b * x)) rfl (by rw [qa.1]; omega) fun r hr => ⟨(ist (matD M b) (some (.fz (.int v))) (some (.fz (.int (sgb v b)))) (some (.fz (.int s))) (some (.fz (mD (adj s M)))) none none (some (.fz (rowD r))) none).sl, by
    have e2 := lc_map (m := false) (f := dVar 7) (elt := dOp (mulD false) (dVar 2) (dVar 8)) (j := 8) (sl := (ist (matD M b) (some (.fz (.int v))) (some (.fz (.int (sgb v b)))) (some (.fz (.int s))) (some (.fz (mD (adj s M)))) none none (some (.fz (rowD r))) none).sl) (st := []) (xs := r) (en := D.int) (out := fun x => .int (sgb v b * x)) rfl (by rw [qa.2 r hr]; omega) fun x hx => ⟨(ist (matD M b) (some (.fz (.int v))) (some (.fz (.int (sgb v b)))) (some (.fz (.int s))) (some (.fz (mD (adj s M)))) none none (some (.fz (rowD r))) (some (.fz (.int x)))).sl, by
      have ok : okMul (sgb v b) x = true := okMul_big (Nat.lt_of_lt_of_le sb2 (Nat.pow_le_pow_right (by decide) (by decide))) (Nat.lt_of_lt_of_le (sa r hr x hx) (Nat.pow_le_pow_right (by decide) (by decide)))
      exact (dOp_ (g := mulD false) (fa := dVar 2) (fb := dVar 8) (δ := ist (matD M b) (some (.fz (.int v))) (some (.fz (.int (sgb v b)))) (some (.fz (.int s))) (some (.fz (mD (adj s M)))) none none (some (.fz (rowD r))) (some (.fz (.int x)))) rfl rfl rfl rfl).trans (show mulD false _ (D.int (sgb v b)) (D.int x) = _ by simp only [mulD, ok, if_true]; rfl)⟩
    have e3 : (r.map fun x => D.int (sgb v b * x)) = (r.map fun x => sgb v b * x).map D.int := by rw [List.map_map]; rfl
    rw [e3] at e2
    exact e2⟩
  have e6b : (adj s M).map (fun r => rowD (r.map fun x => sgb v b * x)) = (sc (sgb v b) (adj s M)).map rowD := by unfold sc; rw [List.map_map]; rfl
  rw [e6b] at e6
  have e7 : dCB absD (aCons (dVar 1) aNil) (ist (matD M b) (some (.fz (.int v))) (some (.fz (.int (sgb v b)))) (some (.fz (.int s))) (some (.fz (mD (adj s M)))) none none none none) = some (.fz (.int (v.natAbs : Int)), ist (matD M b) (some (.fz (.int v))) (some (.fz (.int (sgb v b)))) (some (.fz (.int s))) (some (.fz (mD (adj s M)))) none none none none) := by
    refine (cb1_ (g := absD) (f := dVar 1) rfl rfl).trans ?_
    show some (Vl.fz (D.int (if v < 0 then -v else v)), _) = _
    rw [show (if v < 0 then -v else v) = (v.natAbs : Int) by split <;> omega]
  have e8 := xmkM hs (by omega) (sq_sc (k := sgb v b) qa) (show (1 : Int) ≤ (v.natAbs : Int) by omega) (show ((v.natAbs : Int)).natAbs < 2 ^ 4000 from Nat.lt_of_lt_of_le (by simpa using hvb) (Nat.pow_le_pow_right (by decide) (by decide))) (sms_up (sms_sc sb2 sa) (by decide))
    (aC (show dLc false (iSq (dVar 4)) (.nm 7) [7] bYes (dLc false (iSq (dVar 7)) (.nm 8) [8] bYes (dOp (mulD false) (dVar 2) (dVar 8))) (ist (matD M b) (some (.fz (.int v))) (some (.fz (.int (sgb v b)))) (some (.fz (.int s))) (some (.fz (mD (adj s M)))) none none none none) = _ from e6) (aC (g := aNil) e7 rfl))
  unfold GX_Matrix_inverse fnX f_Matrix_inverse
  show ((xSeq _ (xSeq _ _) (ist (matD M b) none none none none none none none none)).bind _) = _
  rw [xSeq_ok (xOk_ e1)]
  show ((xSeq _ (xSeq _ _) (ist (matD M b) (some (.fz (.int v))) none none none none none none none)).bind _) = _
  rw [xSeq_ok e2, xSeq_ok (xOk_ e3), xSeq_ok (xOk_ e4), xSeq_ok (xOk_ e5), xRet_ok e8]
  rfl
theorem gx_inv_ex {s e : Nat} {M : List (List Int)} {b : Int} (hs3 : s ≤ 3) (h : Sq s M) (he : Sms e M) (he2 : e ≤ 499) (hv0 : volN s M 1 1 = 0) :
    GX_Matrix_inverse [.fz (matD M b)] [] = some (.ex "Singular" .non, []) := by
  have hg := g_volume hs3 h he he2
  rw [hv0] at hg
  have e1 := sSet_ (i := 1) (cl0 (G := G_volume) (m := false) (n := 1) (aC (g := aNil) (fd_r (R := M) (b := b) (f := dVar 0) (δ := ist (matD M b) none none none none none none none none) rfl) rfl) rfl rfl hg)
  have c2 := dB_ ((dOp_ (g := eqD false) (fa := dVar 1) (fb := dC (.int 0)) (δ := ist (matD M b) (some (.fz (.int 0))) none none none none none none none) rfl rfl rfl rfl).trans eqD_int)
  have e2 : xIf (dB (dOp (eqD false) (dVar 1) (dC (.int 0)))) (xRaise "Singular" (dC .non)) (xOk sNext) (ist (matD M b) (some (.fz (.int 0))) none none none none none none none) = some (.ex "Singular" .non, ist (matD M b) (some (.fz (.int 0))) none none none none none none none) := by
    rw [xIf_ c2]
    rfl
  unfold GX_Matrix_inverse fnX f_Matrix_inverse
  show ((xSeq _ (xSeq _ _) (ist (matD M b) none none none none none none none none)).bind _) = _
  rw [xSeq_ok (xOk_ e1)]
  show ((xSeq _ (xSeq _ _) (ist (matD M b) (some (.fz (.int 0))) none none none none none none none)).bind _) = _
  rw [xSeq_ex e2]
  rfl
end K03
set_option maxHeartbeats 0
namespace K03
open PySem L2 PK
/-! ### the word of a class, and what the law catches -/
theorem am0 : (["InvalidMatrix"] : List Str).any (isE "InvalidMatrix") = true := by decide +kernel
theorem am1 : (["InvalidChain"] : List Str).any (isE "InvalidMatrix") = false := by decide +kernel
theorem am2 : (["OtherChannels"] : List Str).any (isE "InvalidMatrix") = false := by decide +kernel
theorem am3 : (["Singular"] : List Str).any (isE "InvalidMatrix") = false := by decide +kernel
theorem am4 : (["InvalidBox", "InvalidChannel", "InvalidNumber", "InvalidVector", "NothingToUndo", "NotTurning"] : List Str).any (isE "InvalidMatrix") = false := by decide +kernel
theorem am5 : (["NotTwo", "Unreadable"] : List Str).any (isE "InvalidMatrix") = false := by decide +kernel
theorem am6 : (["ValueError"] : List Str).any (isE "InvalidMatrix") = true := by decide +kernel
theorem ao0 : (["InvalidMatrix"] : List Str).any (isE "OtherChannels") = false := by decide +kernel
theorem ao1 : (["InvalidChain"] : List Str).any (isE "OtherChannels") = false := by decide +kernel
theorem ao2 : (["OtherChannels"] : List Str).any (isE "OtherChannels") = true := by decide +kernel
theorem ao3 : (["Singular"] : List Str).any (isE "OtherChannels") = false := by decide +kernel
theorem ao4 : (["InvalidBox", "InvalidChannel", "InvalidNumber", "InvalidVector", "NothingToUndo", "NotTurning"] : List Str).any (isE "OtherChannels") = false := by decide +kernel
theorem ao5 : (["NotTwo", "Unreadable"] : List Str).any (isE "OtherChannels") = false := by decide +kernel
theorem ao6 : (["ValueError"] : List Str).any (isE "OtherChannels") = true := by decide +kernel
theorem as_0 : (["InvalidMatrix"] : List Str).any (isE "Singular") = false := by decide +kernel
theorem as_1 : (["InvalidChain"] : List Str).any (isE "Singular") = false := by decide +kernel
theorem as_2 : (["OtherChannels"] : List Str).any (isE "Singular") = false := by decide +kernel
theorem as_3 : (["Singular"] : List Str).any (isE "Singular") = true := by decide +kernel
theorem as_4 : (["InvalidBox", "InvalidChannel", "InvalidNumber", "InvalidVector", "NothingToUndo", "NotTurning"] : List Str).any (isE "Singular") = false := by decide +kernel
theorem as_5 : (["NotTwo", "Unreadable"] : List Str).any (isE "Singular") = false := by decide +kernel
theorem as_6 : (["ValueError"] : List Str).any (isE "Singular") = true := by decide +kernel
theorem inM : ("InvalidMatrix" : Str) ∈ exRs := by decide +kernel
theorem inO : ("OtherChannels" : Str) ∈ exRs := by decide +kernel
theorem inS : ("Singular" : Str) ∈ exRs := by decide +kernel
theorem kind_ {C : Str} {v : D} {i : Nat} {w : Str} {b0 b1 b2 b3 : Bool} (hC : C ∈ exRs) (h0 : (["InvalidMatrix"] : List Str).any (isE C) = b0) (h1 : (["InvalidChain"] : List Str).any (isE C) = b1) (h2 : (["OtherChannels"] : List Str).any (isE C) = b2) (h3 : (["Singular"] : List Str).any (isE C) = b3)
    (h4 : (["InvalidBox", "InvalidChannel", "InvalidNumber", "InvalidVector", "NothingToUndo", "NotTurning"] : List Str).any (isE C) = false) (h5 : (["NotTwo", "Unreadable"] : List Str).any (isE C) = false) (h6 : (["ValueError"] : List Str).any (isE C) = true)
    (hc : [b0, b1, b2, b3].count true = 1) (hi : idxB true [b0, b1, b2, b3] = some i) (hw : atI ([.str "matrix", .str "chain", .str "other", .str "singular"] : List D) (i : Int) = some (.str w)) : G_law_kind [.fz (.exc C v)] [] = some (.val (.str w), []) := by
  have v0 : ∀ {x1 x2 : Option Vl} {st : List (Option (List D))}, dVar 0 ⟨[some (.fz (.exc C v)), x1, x2], st⟩ = some (.fz (.exc C v), ⟨[some (.fz (.exc C v)), x1, x2], st⟩) := rfl
  have k0 := fun {x1 x2 : Option Vl} {st : List (Option (List D))} => isD_ (ns := ["InvalidMatrix"]) (v0 (x1 := x1) (x2 := x2) (st := st)) hC
  have k1 := fun {x1 x2 : Option Vl} {st : List (Option (List D))} => isD_ (ns := ["InvalidChain"]) (v0 (x1 := x1) (x2 := x2) (st := st)) hC
  have k2 := fun {x1 x2 : Option Vl} {st : List (Option (List D))} => isD_ (ns := ["OtherChannels"]) (v0 (x1 := x1) (x2 := x2) (st := st)) hC
  have k3 := fun {x1 x2 : Option Vl} {st : List (Option (List D))} => isD_ (ns := ["Singular"]) (v0 (x1 := x1) (x2 := x2) (st := st)) hC
  have k4 := fun {x1 x2 : Option Vl} {st : List (Option (List D))} => isD_ (ns := ["InvalidBox", "InvalidChannel", "InvalidNumber", "InvalidVector", "NothingToUndo", "NotTurning"]) (v0 (x1 := x1) (x2 := x2) (st := st)) hC
  have k5 := fun {x1 x2 : Option Vl} {st : List (Option (List D))} => isD_ (ns := ["NotTwo", "Unreadable"]) (v0 (x1 := x1) (x2 := x2) (st := st)) hC
  have k6 := fun {x1 x2 : Option Vl} {st : List (Option (List D))} => isD_ (ns := ["ValueError"]) (v0 (x1 := x1) (x2 := x2) (st := st)) hC
  rw [h0] at k0
  rw [h1] at k1
  rw [h2] at k2
  rw [h3] at k3
  rw [h4] at k4
  rw [h5] at k5
  rw [h6] at k6
  let z (x1 x2 : Option Vl) (st : List (Option (List D))) : Dl := ⟨[some (.fz (.exc C v)), x1, x2], st⟩
  have s1 : sSet 1 (dLst true (aCons (isD exRs ["InvalidMatrix"] (dVar 0)) (aCons (isD exRs ["InvalidChain"] (dVar 0)) (aCons (isD exRs ["OtherChannels"] (dVar 0)) aNil)))) (z none none []) = some (.nx, z (some (.rf 0)) none [some [.bl b0, .bl b1, .bl b2]]) := by
    have e : dLst true (aCons (isD exRs ["InvalidMatrix"] (dVar 0)) (aCons (isD exRs ["InvalidChain"] (dVar 0)) (aCons (isD exRs ["OtherChannels"] (dVar 0)) aNil))) (z none none []) = some (.rf 0, z none none [some [.bl b0, .bl b1, .bl b2]]) := by
      rw [dLst, aC k0 (aC k1 (aC k2 (g := aNil) rfl))]
      rfl
    exact (sSet_ e).trans rfl
  have s2 : sDrop (dMt appD (dVar 1) (aCons (isD exRs ["Singular"] (dVar 0)) aNil)) (z (some (.rf 0)) none [some [.bl b0, .bl b1, .bl b2]]) = some (.nx, z (some (.rf 0)) none [some [.bl b0, .bl b1, .bl b2, .bl b3]]) := by
    have e : dMt appD (dVar 1) (aCons (isD exRs ["Singular"] (dVar 0)) aNil) (z (some (.rf 0)) none [some [.bl b0, .bl b1, .bl b2]]) = some (.fz .non, z (some (.rf 0)) none [some [.bl b0, .bl b1, .bl b2, .bl b3]]) := by
      rw [dMt, show dVar 1 (z (some (.rf 0)) none [some [.bl b0, .bl b1, .bl b2]]) = some (.rf 0, z (some (.rf 0)) none [some [.bl b0, .bl b1, .bl b2]]) from rfl, Option.bind_some]
      show ((aCons (isD exRs ["Singular"] (dVar 0)) aNil (z (some (.rf 0)) none [some [.bl b0, .bl b1, .bl b2]])).bind _) = _
      rw [aC k3 (g := aNil) rfl]
      rfl
    rw [sDrop, e]
    rfl
  let fl : List (Option (List D)) := [some [.bl b0, .bl b1, .bl b2, .bl b3]]
  have s3 : sSet 2 (isD exRs ["InvalidBox", "InvalidChannel", "InvalidNumber", "InvalidVector", "NothingToUndo", "NotTurning"] (dVar 0)) (z (some (.rf 0)) none fl) = some (.nx, z (some (.rf 0)) (some (.fz (.bl false))) fl) := (sSet_ k4).trans rfl
  have c1 : dMt cntD (dVar 1) (aCons (dC (.bl true)) aNil) (z (some (.rf 0)) (some (.fz (.bl false))) fl) = some (.fz (.int 1), z (some (.rf 0)) (some (.fz (.bl false))) fl) := by
    have : cntD [.bl true] [.bl b0, .bl b1, .bl b2, .bl b3] = some (.int 1, [.bl b0, .bl b1, .bl b2, .bl b3]) := by
      simp only [cntD, bls, Option.map_some, hc]
      rfl
    simp [dMt, dVar, z, fl, aCons, aNil, dC, frzs, frz, this]
  have t1 := dB_ ((dOp_ (g := eqD true) (fb := dC (.int 1)) c1 rfl rfl rfl).trans (eqD_int (neg := true)))
  have t4 : bOr (dB (dOp (eqD true) (dMt cntD (dVar 1) (aCons (dC (.bl true)) aNil)) (dC (.int 1)))) (bOr (dB (dVar 2)) (bOr (dB (isD exRs ["NotTwo", "Unreadable"] (dVar 0))) (bNot (dB (isD exRs ["ValueError"] (dVar 0)))))) (z (some (.rf 0)) (some (.fz (.bl false))) fl) = some (false, z (some (.rf 0)) (some (.fz (.bl false))) fl) :=
    bOr_ff t1 (bOr_ff (g := bOr (dB (isD exRs ["NotTwo", "Unreadable"] (dVar 0))) (bNot (dB (isD exRs ["ValueError"] (dVar 0))))) (show dB (dVar 2) (z (some (.rf 0)) (some (.fz (.bl false))) fl) = some (false, z (some (.rf 0)) (some (.fz (.bl false))) fl) from rfl) (bOr_ff (dB_ k5) (bNot_ (dB_ k6))))
  have i1 : dMt idxD (dVar 1) (aCons (dC (.bl true)) aNil) (z (some (.rf 0)) (some (.fz (.bl false))) fl) = some (.fz (.int (i : Int)), z (some (.rf 0)) (some (.fz (.bl false))) fl) := by
    have : idxD [.bl true] [.bl b0, .bl b1, .bl b2, .bl b3] = some (.int (i : Int), [.bl b0, .bl b1, .bl b2, .bl b3]) := by
      simp only [idxD, bls, Option.map_some, hi]
    simp [dMt, dVar, z, fl, aCons, aNil, dC, frzs, frz, this]
  have r1 := (dOp_ (g := ixD) (fa := dTup (aCons (dC (.str "matrix")) (aCons (dC (.str "chain")) (aCons (dC (.str "other")) (aCons (dC (.str "singular")) aNil))))) (x := .fz (.tup [.str "matrix", .str "chain", .str "other", .str "singular"])) rfl i1 rfl rfl).trans (show ixD (z (some (.rf 0)) (some (.fz (.bl false))) fl) (.tup [.str "matrix", .str "chain", .str "other", .str "singular"]) (.int (i : Int)) = some (.fz (.str w), z (some (.rf 0)) (some (.fz (.bl false))) fl) by
    simp only [ixD, hw]
    rfl)
  unfold G_law_kind fnD f_law_kind
  show ((sSeq _ _ (z none none [])).bind _) = _
  rw [sSeq_nx s1, sSeq_nx s2, sSeq_nx s3, sSeq, sIf_ t4, if_neg Bool.false_ne_true]
  show ((sRet _ (z (some (.rf 0)) (some (.fz (.bl false))) fl)).bind _) = _
  rw [sRet, r1]
  rfl
theorem g_kindM (v : D) : G_law_kind [.fz (.exc "InvalidMatrix" v)] [] = some (.val (.str "matrix"), []) := kind_ inM am0 am1 am2 am3 am4 am5 am6 (by decide) (i := 0) rfl rfl
theorem g_kindO (v : D) : G_law_kind [.fz (.exc "OtherChannels" v)] [] = some (.val (.str "other"), []) := kind_ inO ao0 ao1 ao2 ao3 ao4 ao5 ao6 (by decide) (i := 2) rfl rfl
theorem g_kindS (v : D) : G_law_kind [.fz (.exc "Singular" v)] [] = some (.val (.str "singular"), []) := kind_ inS as_0 as_1 as_2 as_3 as_4 as_5 as_6 (by decide) (i := 3) rfl rfl
end K03
set_option maxHeartbeats 0
namespace K03
open PySem L2 PK
noncomputable def cB : XF := (xIf (dB (dOp (eqD false) (dVar 0) (dC (.int 0)))) (xDrop (xMake "Matrix" 3 GX_Matrix_init (aCons (dVar 1) (aCons (dVar 2) aNil)))) (xIf (dB (dOp (eqD false) (dVar 0) (dC (.int 1)))) (xDrop (xMethK false "Matrix" "after" 2 1 [0, 1] GX_Matrix_after (dVar 1) (aCons (dVar 2) aNil))) (xDrop (xMeth false "Matrix" "inverse" 1 GX_Matrix_inverse (dVar 1) aNil))))
noncomputable def cS : SF := (sRet (dTup (aCons (dCallN false 1 G_law_kind (aCons (dVar 3) aNil)) (aCons (exvD exRs (dVar 3)) aNil))))
theorem f_caught_eq : f_law_caught = sSeq (sTry 3 ["InvalidMatrix", "OtherChannels", "Singular"] cB cS) (sRet (dC .non)) := rfl
theorem d_cS {x0 x1 x2 : Option Vl} {C w : Str} {d : D} (hC : C ∈ exRs) (hk : G_law_kind [.fz (.exc C d)] [] = some (.val (.str w), [])) : cS ⟨[x0, x1, x2, some (.fz (.exc C d))], []⟩ = some (.rt (.fz (.tup [.str w, d])), ⟨[x0, x1, x2, some (.fz (.exc C d))], []⟩) := by
  have k1 := cl0 (G := G_law_kind) (m := false) (n := 1) (fa := aCons (dVar 3) aNil) (δ := ⟨[x0, x1, x2, some (.fz (.exc C d))], []⟩) rfl rfl rfl hk
  have v := exvD_ (f := dVar 3) (δ := ⟨[x0, x1, x2, some (.fz (.exc C d))], []⟩) (c := C) (d := d) rfl hC
  unfold cS
  rw [sRet, dTup, aC k1 (aC (g := aNil) v rfl)]
  rfl
theorem caught_ex {x0 x1 x2 : Vl} {C w : Str} {d : D} (hC : C ∈ exRs) (hC2 : C ∈ (["InvalidMatrix", "OtherChannels", "Singular"] : List Str)) (hk : G_law_kind [.fz (.exc C d)] [] = some (.val (.str w), [])) (hB : cB ⟨[some x0, some x1, some x2, none], []⟩ = some (.ex C d, ⟨[some x0, some x1, some x2, none], []⟩)) : G_law_caught [x0, x1, x2] [] = some (.val (.tup [.str w, d]), []) := by
  unfold G_law_caught fnD
  rw [f_caught_eq]
  show ((sSeq _ _ ⟨[some x0, some x1, some x2, none], []⟩).bind _) = _
  rw [sSeq, sTry_rt hB hC2 (d_cS (x0 := some x0) (x1 := some x1) (x2 := some x2) hC hk)]
  rfl
theorem caught_ok {x0 x1 x2 : Vl} {fl : Fl} (hf : fl = .nx) (hB : cB ⟨[some x0, some x1, some x2, none], []⟩ = some (.ok fl, ⟨[some x0, some x1, some x2, none], []⟩)) : G_law_caught [x0, x1, x2] [] = some (.val .non, []) := by
  subst hf
  unfold G_law_caught fnD
  rw [f_caught_eq]
  show ((sSeq _ _ ⟨[some x0, some x1, some x2, none], []⟩).bind _) = _
  rw [sSeq_nx (sTry_ok hB)]
  rfl
theorem w0_ {x1 x2 : Vl} (j : Int) : dB (dOp (eqD false) (dVar 0) (dC (.int 0))) ⟨[some (.fz (.int j)), some x1, some x2, none], []⟩ = some (decide (j = 0), ⟨[some (.fz (.int j)), some x1, some x2, none], []⟩) := dB_ ((dOp_ (g := eqD false) (fa := dVar 0) (fb := dC (.int 0)) rfl rfl rfl rfl).trans eqD_int)
theorem w1_ {x1 x2 : Vl} (j : Int) : dB (dOp (eqD false) (dVar 0) (dC (.int 1))) ⟨[some (.fz (.int j)), some x1, some x2, none], []⟩ = some (decide (j = 1), ⟨[some (.fz (.int j)), some x1, some x2, none], []⟩) := dB_ ((dOp_ (g := eqD false) (fa := dVar 0) (fb := dC (.int 1)) rfl rfl rfl rfl).trans eqD_int)
theorem c2M : ("InvalidMatrix" : Str) ∈ (["InvalidMatrix", "OtherChannels", "Singular"] : List Str) := by decide +kernel
theorem c2O : ("OtherChannels" : Str) ∈ (["InvalidMatrix", "OtherChannels", "Singular"] : List Str) := by decide +kernel
theorem c2S : ("Singular" : Str) ∈ (["InvalidMatrix", "OtherChannels", "Singular"] : List Str) := by decide +kernel
/-- a matrix made of these -/
theorem g_made_ex {M : List (List Int)} {b : Int} {d : D} (h : GX_check_matrix [.fz (mD M), .fz (.int b)] [] = some (.ex "InvalidMatrix" d, [])) : G_law_caught [.fz (.int 0), .fz (mD M), .fz (.int b)] [] = some (.val (.tup [.str "matrix", d]), []) := by
  refine caught_ex inM c2M (g_kindM d) ?_
  unfold cB
  rw [xIf_ (w0_ 0), if_pos (by decide)]
  exact xDrop_ex (xmkE h rfl)
theorem g_made_ok {s : Nat} (hs : 1 ≤ s) (hs3 : s ≤ 100) {M : List (List Int)} {b : Int} (h : Sq s M) (h1 : 1 ≤ b) (h2 : b.natAbs < 2 ^ 4000) (h3 : Sms 4000 M) : G_law_caught [.fz (.int 0), .fz (mD M), .fz (.int b)] [] = some (.val .non, []) := by
  refine caught_ok rfl ?_
  unfold cB
  rw [xIf_ (w0_ 0), if_pos (by decide)]
  exact xDrop_ok (xmkM hs hs3 h h1 h2 h3 rfl)
/-- what a call of the law's answers to any rows -/
def madeA (M : List (List Int)) (b : Int) : D := if M = [] ∨ b < 1 then .tup [.str "matrix", .non] else match wr M.length 0 M with
  | none => .non
  | some j => .tup [.str "matrix", .int j]
theorem g_made {M : List (List Int)} {b : Int} (hl : M.length ≤ 100) (h2 : b.natAbs < 2 ^ 4000) (h3 : Sms 4000 M) : G_law_caught [.fz (.int 0), .fz (mD M), .fz (.int b)] [] = some (.val (madeA M b), []) := by
  unfold madeA
  by_cases h : M = [] ∨ b < 1
  · rw [if_pos h]
    exact g_made_ex (gx_check0 h)
  · rw [if_neg h]
    have hM : M ≠ [] := fun e => h (.inl e)
    have hb : 1 ≤ b := by
      have : ¬ b < 1 := fun e => h (.inr e)
      omega
    have hp : 1 ≤ M.length := by
      cases M with
      | nil => exact absurd rfl hM
      | cons r M => simp
    have e := gx_check hM hb
    cases hw : wr M.length 0 M with
    | none => exact g_made_ok hp hl ⟨rfl, wr_none 0 hw⟩ hb h2 h3
    | some j =>
      rw [hw] at e
      exact g_made_ex e
/-! ### a product, an inverse -/
theorem rvInv {R : List (List Int)} {b : Int} : recvOk "Matrix" "inverse" (.fz (matD R b)) = true := by
  show (decide (("Matrix" : Str) = ("Matrix" : Str)) && !fsM.contains ("inverse" : Str)) = true
  decide +kernel
theorem xmk1 {c m : Str} {G : GX} {fo : EF} {δ : Dl} {x y : D} {r : Vx} (eo : fo δ = some (.fz x, δ)) (hr : recvOk c m (.fz x) = true) (fk : AF) (ek : fk δ = some ([.fz y], δ)) (hc : callX false G [.fz x, .fz y] δ = some (r, δ)) : xMethK false c m 2 1 [0, 1] G fo fk δ = some (r, δ) := by
  simp [xMethK, eo, hr, ek, pick, hc]
theorem xm0 {c m : Str} {G : GX} {fo : EF} {δ : Dl} {x : D} {r : Vx} (eo : fo δ = some (.fz x, δ)) (hr : recvOk c m (.fz x) = true) (hc : callX false G [.fz x] δ = some (r, δ)) : xMeth false c m 1 G fo aNil δ = some (r, δ) := by
  simp [xMeth, eo, hr, aNil, hc]
theorem g_after_ok {s : Nat} (hs : 1 ≤ s) (hs3 : s ≤ 3) {A B : List (List Int)} {a b : Int} (h1 : Sq s A) (h2 : Sq s B) (ha : Sms 1000 A) (hb : Sms 1000 B) (ha1 : 1 ≤ a) (hb1 : 1 ≤ b) (ha2 : a.natAbs < 2 ^ 1000) (hb2 : b.natAbs < 2 ^ 1000) : G_law_caught [.fz (.int 1), .fz (matD A a), .fz (matD B b)] [] = some (.val .non, []) := by
  refine caught_ok rfl ?_
  unfold cB
  rw [xIf_ (w0_ 1), if_neg (by decide), xIf_ (w1_ 1), if_pos (by decide)]
  exact xDrop_ok (xmk1 (fo := dVar 1) rfl rvA (aCons (dVar 2) aNil) rfl (callX_ok (callG_0 rfl (okG_ok (gx_after hs hs3 h1 h2 ha hb ha1 hb1 ha2 hb2)))))
theorem g_after_ex {s t : Nat} (hs3 : s ≤ 3) (ht3 : t ≤ 3) {A B : List (List Int)} {a b : Int} (h1 : Sq s A) (h2 : Sq t B) (hst : t ≠ s) : G_law_caught [.fz (.int 1), .fz (matD A a), .fz (matD B b)] [] = some (.val (.tup [.str "other", .int t]), []) := by
  refine caught_ex inO c2O (g_kindO _) ?_
  unfold cB
  rw [xIf_ (w0_ 1), if_neg (by decide), xIf_ (w1_ 1), if_pos (by decide)]
  exact xDrop_ex (xmk1 (fo := dVar 1) rfl rvA (aCons (dVar 2) aNil) rfl (callX_ex rfl (gx_after_ex hs3 ht3 h1 h2 hst)))
theorem g_inv_ok {s e : Nat} {M : List (List Int)} {b : Int} (hs : 1 ≤ s) (hs3 : s ≤ 3) (h : Sq s M) (he : Sms e M) (he2 : e ≤ 499) (h1 : 1 ≤ b) (h2 : b.natAbs < 2 ^ 499) (hv0 : volN s M 1 1 ≠ 0) {x : D} : G_law_caught [.fz (.int 2), .fz (matD M b), .fz x] [] = some (.val .non, []) := by
  refine caught_ok rfl ?_
  unfold cB
  rw [xIf_ (w0_ 2), if_neg (by decide), xIf_ (w1_ 2), if_neg (by decide)]
  exact xDrop_ok (xm0 (fo := dVar 1) rfl rvInv (callX_ok (callG_0 rfl (okG_ok (gx_inv hs hs3 h he he2 h1 h2 hv0)))))
theorem g_inv_ex {s e : Nat} {M : List (List Int)} {b : Int} (hs3 : s ≤ 3) (h : Sq s M) (he : Sms e M) (he2 : e ≤ 499) (hv0 : volN s M 1 1 = 0) {x : D} : G_law_caught [.fz (.int 2), .fz (matD M b), .fz x] [] = some (.val (.tup [.str "singular", .non]), []) := by
  refine caught_ex inS c2S (g_kindS _) ?_
  unfold cB
  rw [xIf_ (w0_ 2), if_neg (by decide), xIf_ (w1_ 2), if_neg (by decide)]
  exact xDrop_ex (xm0 (fo := dVar 1) rfl rvInv (callX_ex rfl (gx_inv_ex hs3 h he he2 hv0)))
end K03
set_option maxHeartbeats 0
namespace K03
open PySem L2 PK
/-! ### rows of which some are spoilt -/
def sr (r : List Int) : Option (List D) := some (r.map D.int)
def sps (M : List (List Int)) (ks : List Nat) (x3 x4 x5 x6 : Option Vl) (p : List D) (N : List (List Int)) : Dl := ⟨[some (.rf 0), some (.fz (mD M)), some (.nl ks), x3, x4, x5, x6], some p :: N.map sr⟩
theorem d_lcN {a0 a1 a2 a3 a4 a5 : Option Vl} : ∀ (rs : List (List Int)) (ks : List Nat) (st : List (Option (List D))), ks.length + rs.length ≤ 1000 → lcGoN [] (.nm 6) [6] bYes (dCB (listD true) (aCons (dVar 6) aNil)) [a0, a1, a2, a3, a4, a5, none] (rs.map rowD) ks ⟨[a0, a1, a2, a3, a4, a5, none], st⟩ = some (ks ++ List.range' st.length rs.length, ⟨[a0, a1, a2, a3, a4, a5, none], st ++ rs.map sr⟩)
  | [], ks, st, _ => by simp [lcGoN, CkOk]
  | r :: rs, ks, st, h => by
    rw [List.length_cons] at h
    have ih := d_lcN (a0 := a0) (a1 := a1) (a2 := a2) (a3 := a3) (a4 := a4) (a5 := a5) rs (ks ++ [st.length]) (st ++ [sr r]) (by simp; omega)
    have e : dCB (listD true) (aCons (dVar 6) aNil) ⟨[a0, a1, a2, a3, a4, a5, some (.fz (rowD r))], st⟩ = some (.rf st.length, ⟨[a0, a1, a2, a3, a4, a5, some (.fz (rowD r))], st ++ [sr r]⟩) := rfl
    have t : asgT ⟨[a0, a1, a2, a3, a4, a5, none], st⟩ (.nm 6) (rowD r) = some ⟨[a0, a1, a2, a3, a4, a5, some (.fz (rowD r))], st⟩ := rfl
    have hs : ks.length < small := by unfold small; omega
    rw [List.map_cons, lcGoN, if_pos ⟨by simp, hs⟩, t]
    simp only [Option.bind_some, bYes, if_true, e]
    refine ih.trans ?_
    simp [List.range'_succ]
theorem d_sp1 {M : List (List Int)} {p : List D} (hM : M.length ≤ 3) : sSet 2 (dLcN (iSq (dVar 1)) (.nm 6) [6] bYes (dCB (listD true) (aCons (dVar 6) aNil))) ⟨[some (.rf 0), some (.fz (mD M)), none, none, none, none, none], [some p]⟩ = some (.nx, sps M (List.range' 1 M.length) none none none none p M) := by
  have e : dLcN (iSq (dVar 1)) (.nm 6) [6] bYes (dCB (listD true) (aCons (dVar 6) aNil)) ⟨[some (.rf 0), some (.fz (mD M)), none, none, none, none, none], [some p]⟩ = some (.nl (List.range' 1 M.length), ⟨[some (.rf 0), some (.fz (mD M)), none, none, none, none, none], some p :: M.map sr⟩) := by
    have g := d_lcN (a0 := some (.rf 0)) (a1 := some (.fz (mD M))) (a2 := none) (a3 := none) (a4 := none) (a5 := none) M [] [some p] (by simp; omega)
    rw [dLcN, show iSq (dVar 1) ⟨[some (.rf 0), some (.fz (mD M)), none, none, none, none, none], [some p]⟩ = some (M.map rowD, [], ⟨[some (.rf 0), some (.fz (mD M)), none, none, none, none, none], [some p]⟩) from rfl, Option.bind_some]
    show (Option.map _ (lcGoN [] (.nm 6) [6] bYes _ [some (.rf 0), some (.fz (mD M)), none, none, none, none, none] (M.map rowD) [] ⟨[some (.rf 0), some (.fz (mD M)), none, none, none, none, none], [some p]⟩)) = _
    rw [g]
    rfl
  exact (sSet_ e).trans rfl
/-- one turn -/
noncomputable def tD : EF := dCallN false 2 G_law_draw (aCons (dVar 0) (aCons (dLenF (dVar 2)) aNil))
noncomputable def tA : SF := sDrop (dMt appD (dNixF (dVar 2) (dVar 5)) (aCons (dCallN false 2 G_law_draw (aCons (dVar 0) (aCons (dC (.int 9)) aNil))) aNil))
noncomputable def tP : SF := sIf (dB (dOp (eqD true) (dNixF (dVar 2) (dVar 5)) (dLst false aNil))) (sDrop (dMt popD (dNixF (dVar 2) (dVar 5)) aNil)) sNext
noncomputable def tB : SF := sSeq (sSet 5 tD) (sIf (dB (dOp (eqD false) (dCallN false 2 G_law_draw (aCons (dVar 0) (aCons (dC (.int 2)) aNil))) (dC (.int 0)))) tA tP)
theorem ks_at {s j : Nat} (h : j < s) : atI (List.range' 1 s) (j : Int) = some (1 + j) := by
  unfold atI ixN
  simp [h]
theorem d_nix {M N : List (List Int)} {s j : Nat} {x3 x4 x6 : Option Vl} {p : List D} (h : j < s) : dNixF (dVar 2) (dVar 5) (sps M (List.range' 1 s) x3 x4 (some (.fz (.int j))) x6 p N) = some (.rf (1 + j), sps M (List.range' 1 s) x3 x4 (some (.fz (.int j))) x6 p N) := by
  show (Option.map _ (atI (List.range' 1 s) (j : Int))) = _
  rw [ks_at h]
  rfl
theorem st_at {N : List (List Int)} {p : List D} {j : Nat} (h : j < N.length) : (some p :: N.map sr)[1 + j]? = some (some ((N.getD j []).map D.int)) := by
  rw [Nat.add_comm, List.getElem?_cons_succ, List.getElem?_map, List.getElem?_eq_getElem h, List.getD_eq_getElem?_getD, List.getElem?_eq_getElem h]
  rfl
theorem st_set {N : List (List Int)} {p : List D} {j : Nat} {r : List Int} : (some p :: N.map sr).set (1 + j) (some (r.map D.int)) = some p :: (N.set j r).map sr := by
  rw [Nat.add_comm, List.set_cons_succ, List.map_set]
  rfl
/-- rows of bounded length and size -/
structure Rws (s k : Nat) (N : List (List Int)) : Prop where
  len : N.length = s
  row : ∀ r ∈ N, r.length ≤ k
  sm : Sms 200 N
theorem Rws.up {s k l : Nat} {N : List (List Int)} (h : Rws s k N) (hk : k ≤ l) : Rws s l N := ⟨h.len, fun r hr => Nat.le_trans (h.row r hr) hk, h.sm⟩
theorem Rws.set {s k j : Nat} {N : List (List Int)} {r : List Int} (h : Rws s k N) (h1 : r.length ≤ k + 1) (h2 : Sm 200 r) : Rws s (k + 1) (N.set j r) := ⟨by rw [List.length_set]; exact h.len, fun q hq => by
  rcases List.mem_or_eq_of_mem_set hq with e | e
  · have := h.row q e; omega
  · rw [e]; exact h1, fun q hq => by
  rcases List.mem_or_eq_of_mem_set hq with e | e
  · exact h.sm q e
  · rw [e]; exact h2⟩
theorem Rws.get {s k j : Nat} {N : List (List Int)} (h : Rws s k N) (hj : j < s) : (N.getD j []).length ≤ k ∧ Sm 200 (N.getD j []) := by
  have : N.getD j [] ∈ N := getD_mem (by rw [h.len]; exact hj)
  exact ⟨h.row _ this, h.sm _ this⟩
theorem d_turn {s k m : Nat} {M N : List (List Int)} {x3 x4 x5 x6 : Option Vl} {p : List D} (hs : 1 ≤ s) (hs3 : s ≤ 3) (hN : Rws s k N) (hk : k ≤ 50) (hp : Pool m p) (hm : m ≤ 9000) : ∃ N' p' y5, Rws s (k + 1) N' ∧ Pool (m + 3) p' ∧ tB (sps M (List.range' 1 s) x3 x4 x5 x6 p N) = some (.nx, sps M (List.range' 1 s) x3 x4 y5 x6 p' N') := by
  obtain ⟨a, p1, e1, a0, a1, hp1⟩ := g_draw (many := (s : Int)) hp (by omega) (by
    have : (3 : Int) < 2 ^ 200 := by decide
    omega) (by omega)
  obtain ⟨c, p2, e2, c0, c1, hp2⟩ := g_draw (many := 2) hp1 (by decide) (by decide) (by omega)
  obtain ⟨b, p3, e3, b0, b1, hp3⟩ := g_draw (many := 9) hp2 (by decide) (by decide) (by omega)
  obtain ⟨j, rfl⟩ : ∃ j : Nat, a = (j : Int) := ⟨a.toNat, by omega⟩
  have hj : j < s := by omega
  have hjN : j < N.length := by rw [hN.len]; exact hj
  have lf : dLenF (dVar 2) (sps M (List.range' 1 s) x3 x4 x5 x6 p N) = some (.fz (.int s), sps M (List.range' 1 s) x3 x4 x5 x6 p N) := by
    show some (Vl.fz (D.int (((List.range' 1 s).length : Nat) : Int)), _) = _
    rw [List.length_range']
  have k1 : tD (sps M (List.range' 1 s) x3 x4 x5 x6 p N) = some (.fz (.int j), sps M (List.range' 1 s) x3 x4 x5 x6 p1 N) := cl1 (G := G_law_draw) (m := false) (n := 2) (k := 0) (aC (f := dVar 0) (r := .rf 0) (δ := sps M (List.range' 1 s) x3 x4 x5 x6 p N) (δ1 := sps M (List.range' 1 s) x3 x4 x5 x6 p N) rfl (aC lf (g := aNil) rfl)) rfl rfl rfl e1
  have s1 := (sSet_ (i := 5) k1).trans (show _ = some (Fl.nx, sps M (List.range' 1 s) x3 x4 (some (.fz (.int j))) x6 p1 N) from rfl)
  have k2 : dCallN false 2 G_law_draw (aCons (dVar 0) (aCons (dC (.int 2)) aNil)) (sps M (List.range' 1 s) x3 x4 (some (.fz (.int j))) x6 p1 N) = some (.fz (.int c), sps M (List.range' 1 s) x3 x4 (some (.fz (.int j))) x6 p2 N) := cl1 (G := G_law_draw) (m := false) (n := 2) (fa := aCons (dVar 0) (aCons (dC (.int 2)) aNil)) (δ := sps M (List.range' 1 s) x3 x4 (some (.fz (.int j))) x6 p1 N) (k := 0) rfl rfl rfl rfl e2
  have t1 := dB_ ((dOp_ (g := eqD false) (fb := dC (.int 0)) k2 rfl rfl rfl).trans eqD_int)
  obtain ⟨g1, g2⟩ := hN.get hj
  have nx := fun (p : List D) => d_nix (M := M) (N := N) (s := s) (j := j) (x3 := x3) (x4 := x4) (x6 := x6) (p := p) hj
  unfold tB
  rw [sSeq_nx s1, sIf_ t1]
  by_cases hc : c = 0
  · subst hc
    rw [if_pos (by rfl)]
    have k3 : dCallN false 2 G_law_draw (aCons (dVar 0) (aCons (dC (.int 9)) aNil)) (sps M (List.range' 1 s) x3 x4 (some (.fz (.int j))) x6 p2 N) = some (.fz (.int b), sps M (List.range' 1 s) x3 x4 (some (.fz (.int j))) x6 p3 N) := cl1 (G := G_law_draw) (m := false) (n := 2) (fa := aCons (dVar 0) (aCons (dC (.int 9)) aNil)) (δ := sps M (List.range' 1 s) x3 x4 (some (.fz (.int j))) x6 p2 N) (k := 0) rfl rfl rfl rfl e3
    refine ⟨N.set j (N.getD j [] ++ [b]), p3, some (.fz (.int j)), hN.set (by rw [List.length_append, List.length_singleton]; omega) (fun x hx => ?_), hp3.up (by omega), ?_⟩
    · rcases List.mem_append.mp hx with h | h
      · exact g2 x h
      · rw [List.mem_singleton.mp h]
        have : (9 : Nat) < 2 ^ 200 := by decide
        omega
    · have ka := aC k3 (g := aNil) rfl
      have hl : ((N.getD j []).map D.int).length < small := by rw [List.length_map]; unfold small; omega
      unfold tA
      rw [sDrop, dMt, nx p2, Option.bind_some]
      show (Option.map _ (match (some p2 :: N.map sr)[1 + j]? with | some (some ds) => _ | _ => _)) = _
      rw [st_at hjN]
      show (Option.map _ ((aCons (dCallN false 2 G_law_draw (aCons (dVar 0) (aCons (dC (.int 9)) aNil))) aNil (sps M (List.range' 1 s) x3 x4 (some (.fz (.int j))) x6 p2 N)).bind _)) = _
      rw [ka, Option.bind_some]
      show (Option.map _ (match (some p3 :: N.map sr)[1 + j]? with | some (some ds) => _ | _ => _)) = _
      rw [st_at hjN]
      simp only [appD, hl, if_true, Option.map_some]
      show some (Fl.nx, (⟨_, (some p3 :: N.map sr).set (1 + j) _⟩ : Dl)) = _
      rw [show (N.getD j []).map D.int ++ [D.int b] = (N.getD j [] ++ [b]).map D.int by simp, st_set]
      rfl
  · rw [if_neg (by simp [hc])]
    have dq : dOp (eqD true) (dNixF (dVar 2) (dVar 5)) (dLst false aNil) (sps M (List.range' 1 s) x3 x4 (some (.fz (.int j))) x6 p2 N) = eqD true (sps M (List.range' 1 s) x3 x4 (some (.fz (.int j))) x6 p2 N) (.lst ((N.getD j []).map D.int)) (.lst []) := by
      refine dOp_ (g := eqD true) (nx p2) (fb := dLst false aNil) (y := .fz (.lst [])) rfl ?_ rfl
      show (match (some p2 :: N.map sr)[1 + j]? with | some (some ds) => _ | _ => _) = _
      rw [st_at hjN]
    by_cases hr : N.getD j [] = []
    · refine ⟨N, p2, some (.fz (.int j)), hN.up (by omega), hp2.up (by omega), ?_⟩
      have t2 : dB (dOp (eqD true) (dNixF (dVar 2) (dVar 5)) (dLst false aNil)) (sps M (List.range' 1 s) x3 x4 (some (.fz (.int j))) x6 p2 N) = some (false, sps M (List.range' 1 s) x3 x4 (some (.fz (.int j))) x6 p2 N) := dB_ (dq.trans (by rw [hr]; rfl))
      unfold tP
      rw [sIf_ t2]
      rfl
    · have t2 : dB (dOp (eqD true) (dNixF (dVar 2) (dVar 5)) (dLst false aNil)) (sps M (List.range' 1 s) x3 x4 (some (.fz (.int j))) x6 p2 N) = some (true, sps M (List.range' 1 s) x3 x4 (some (.fz (.int j))) x6 p2 N) := dB_ (dq.trans (eqD_ne (k := 0) (by simpa using hr) (fun x hx => by
        obtain ⟨y, _, rfl⟩ := List.mem_map.mp hx
        exact nice_int) (by decide)))
      refine ⟨N.set j (N.getD j []).dropLast, p2, some (.fz (.int j)), hN.set (by rw [List.length_dropLast]; omega) (fun x hx => g2 x (List.dropLast_subset _ hx)), hp2.up (by omega), ?_⟩
      have pd : popD [] ((N.getD j []).map D.int) = some (.int ((N.getD j []).getLast hr), ((N.getD j []).dropLast).map D.int) := by
        have hl : (N.getD j []).length - 1 < (N.getD j []).length := by
          have : 0 < (N.getD j []).length := List.length_pos_iff.mpr hr
          omega
        simp only [popD, List.length_map, List.getElem?_map, List.getElem?_eq_getElem hl, Option.map_some, List.map_dropLast, List.getLast_eq_getElem]
      unfold tP
      rw [sIf_ t2, if_pos rfl, sDrop, dMt, nx p2, Option.bind_some]
      show (Option.map _ (match (some p2 :: N.map sr)[1 + j]? with | some (some ds) => _ | _ => _)) = _
      rw [st_at hjN]
      show (Option.map _ (match (some p2 :: N.map sr)[1 + j]? with | some (some ds) => _ | _ => _)) = _
      rw [st_at hjN]
      simp only [pd, Option.map_some]
      show some (Fl.nx, (⟨_, (some p2 :: N.map sr).set (1 + j) _⟩ : Dl)) = _
      rw [st_set]
      rfl
end K03
set_option maxHeartbeats 0
namespace K03
open PySem L2 PK
/-! ### the number of the first wrong row -/
def wrs (s : Nat) : Nat → List (List Int) → List Nat
  | _, [] => []
  | i, r :: rs => if r.length = s then wrs s (i + 1) rs else i :: wrs s (i + 1) rs
theorem wrs_len {s : Nat} : ∀ (rs : List (List Int)) (i : Nat), (wrs s i rs).length ≤ rs.length
  | [], i => Nat.le_refl _
  | r :: rs, i => by
    have ih := wrs_len (s := s) rs (i + 1)
    rw [wrs]
    split <;> simp <;> omega
theorem wrs_head {s : Nat} : ∀ (rs : List (List Int)) (i : Nat), (wrs s i rs).head? = wr s i rs
  | [], i => rfl
  | r :: rs, i => by
    rw [wrs, wr]
    split
    · exact wrs_head rs (i + 1)
    · rfl
noncomputable def wT : BF := dB (dOp (eqD true) (dCB lenD (aCons (dVar 6) aNil)) (dLenF (dVar 2)))
theorem d_wr {N : List (List Int)} {a0 a1 a3 a4 : Option Vl} {st : List (Option (List D))} : ∀ (rs : List (List Int)) (i : Nat) (acc : List D), acc.length + rs.length ≤ 1000 → lcGo [] (.tp [5, 6]) [5, 6] wT (dVar 5) [a0, a1, some (.fz (mD N)), a3, a4, none, none] (enumD i (rs.map rowD)) acc ⟨[a0, a1, some (.fz (mD N)), a3, a4, none, none], st⟩ = some (acc ++ (wrs N.length i rs).map (fun j : Nat => D.int (j : Int)), ⟨[a0, a1, some (.fz (mD N)), a3, a4, none, none], st⟩)
  | [], i, acc, _ => by simp [enumD, lcGo, wrs, CkOk]
  | r :: rs, i, acc, h => by
    rw [List.length_cons] at h
    have hs : acc.length < small := by unfold small; omega
    let δ : Dl := ⟨[a0, a1, some (.fz (mD N)), a3, a4, some (.fz (.int i)), some (.fz (rowD r))], st⟩
    have t : asgT ⟨[a0, a1, some (.fz (mD N)), a3, a4, none, none], st⟩ (.tp [5, 6]) (.tup [.int i, rowD r]) = some δ := rfl
    have l1 := ln_ (f := dVar 6) (ds := r.map D.int) (δ := δ) rfl
    have l2 : dLenF (dVar 2) δ = some (.fz (.int (N.map rowD).length), δ) := rfl
    have c : wT δ = some (_, δ) := dB_ ((dOp_ (g := eqD true) l1 l2 rfl rfl).trans eqD_int)
    rw [List.length_map, List.length_map] at c
    rw [List.map_cons, enumD, lcGo, if_pos ⟨by simp, hs⟩, t]
    simp only [Option.bind_some, c]
    rw [wrs]
    by_cases hr : r.length = N.length
    · rw [if_neg (by simp [hr]), if_pos hr]
      exact d_wr rs (i + 1) acc (by omega)
    · have h2 : ((r.length : Int) == (N.length : Int)) = false := by
        rw [beq_eq_false_iff_ne]
        omega
      rw [if_pos (by simp [h2]), if_neg hr]
      have v : dVar 5 δ = some (.fz (.int i), δ) := rfl
      simp only [v, Option.bind_some, frz]
      have ih := d_wr (N := N) (a0 := a0) (a1 := a1) (a3 := a3) (a4 := a4) (st := st) rs (i + 1) (acc ++ [.int i]) (by simp; omega)
      refine ih.trans ?_
      simp
def wD (N : List (List Int)) : D := match wr N.length 0 N with
  | none => .non
  | some j => .int j
theorem frzK_ {sl : List (Option Vl)} : ∀ (rs : List (List Int)) (pre : List (Option (List D))), frzK ⟨sl, pre ++ rs.map sr⟩ (List.range' pre.length rs.length) = some (rs.map rowD, ⟨sl, pre ++ rs.map fun _ => none⟩)
  | [], pre => by simp [frzK]
  | r :: rs, pre => by
    have ih := frzK_ (sl := sl) rs (pre ++ [none])
    rw [List.length_append, List.length_singleton, List.append_assoc, List.append_assoc] at ih
    rw [List.length_cons, List.range'_succ, frzK]
    simp only [List.map_cons, List.getElem?_append_right (Nat.le_refl _), Nat.sub_self, List.getElem?_cons_zero, sr]
    have st : (pre ++ some (r.map D.int) :: rs.map sr).set pre.length none = pre ++ [none] ++ rs.map sr := by simp
    show (Option.map _ (frzK ⟨sl, (pre ++ some (r.map D.int) :: rs.map sr).set pre.length none⟩ _)) = _
    rw [st, List.append_assoc, ih]
    simp [rowD]
def stf (p : List D) (N : List (List Int)) : List (Option (List D)) := some p :: N.map fun _ => none
theorem d_frzV {M N : List (List Int)} {s : Nat} {x3 x4 x5 x6 : Option Vl} {p : List D} (h : N.length = s) : dFrzV 2 (sps M (List.range' 1 s) x3 x4 x5 x6 p N) = some (.fz (mD N), ⟨[some (.rf 0), some (.fz (mD M)), some (.fz (mD N)), x3, x4, x5, x6], stf p N⟩) := by
  have e : frzK ⟨[some (.rf 0), some (.fz (mD M)), some (.nl (List.range' 1 s)), x3, x4, x5, x6], [some p] ++ N.map sr⟩ (List.range' 1 s) = some (N.map rowD, ⟨[some (.rf 0), some (.fz (mD M)), some (.nl (List.range' 1 s)), x3, x4, x5, x6], [some p] ++ N.map fun _ => none⟩) := by
    have e := frzK_ (sl := [some (.rf 0), some (.fz (mD M)), some (.nl (List.range' 1 s)), x3, x4, x5, x6]) N [some p]
    rw [h] at e
    exact e
  show (Option.map _ (Option.map _ (frzK ⟨[some (.rf 0), some (.fz (mD M)), some (.nl (List.range' 1 s)), x3, x4, x5, x6], [some p] ++ N.map sr⟩ (List.range' 1 s)))) = _
  rw [e]
  rfl
noncomputable def sp1 : SF := sSet 2 (dLcN (iSq (dVar 1)) (.nm 6) [6] bYes (dCB (listD true) (aCons (dVar 6) aNil)))
noncomputable def sp2 : SF := sFor (iRg1 (dCallN false 2 G_law_draw (aCons (dVar 0) (aCons (dC (.int 3)) aNil)))) (.nm 3) tB
noncomputable def sp3 : SF := sSet 4 (dLc false (iEnumD (dFrzV 2)) (.tp [5, 6]) [5, 6] wT (dVar 5))
noncomputable def sp4 : SF := sRet (dLst true (aCons (dFrzV 2) (aCons (dOp ixD (dOp (addD false) (dVar 4) (dLst false (aCons (dC .non) aNil))) (dC (.int 0))) aNil)))
theorem f_spoilt_eq : f_law_spoilt = sSeq sp1 (sSeq sp2 (sSeq sp3 sp4)) := rfl
theorem d_turns {s : Nat} {M : List (List Int)} (hs : 1 ≤ s) (hs3 : s ≤ 3) : ∀ (T : List D) (k m : Nat) (N : List (List Int)) (x3 x4 x5 x6 : Option Vl) (p : List D), T.length ≤ 10 → k + T.length ≤ 50 → m + 3 * T.length ≤ 9000 → Rws s k N → Pool m p → ∃ N' p' y3 y5, Rws s (k + T.length) N' ∧ Pool (m + 3 * T.length) p' ∧ forD [] (.nm 3) tB T (sps M (List.range' 1 s) x3 x4 x5 x6 p N) = some (.nx, sps M (List.range' 1 s) y3 x4 y5 x6 p' N')
  | [], k, m, N, x3, x4, x5, x6, p, _, _, _, hN, hp => ⟨N, p, x3, x5, hN, hp, forD_nil0⟩
  | d :: T, k, m, N, x3, x4, x5, x6, p, h1, h2, h3, hN, hp => by
    rw [List.length_cons] at h1 h2 h3 ⊢
    obtain ⟨N1, p1, y5, a, b, e⟩ := d_turn (M := M) (x3 := some (.fz d)) (x4 := x4) (x5 := x5) (x6 := x6) hs hs3 hN (by omega) hp (by omega)
    obtain ⟨N2, p2, z3, z5, a2, b2, e2⟩ := d_turns hs hs3 T (k + 1) (m + 3) N1 (some (.fz d)) x4 y5 x6 p1 (by omega) (by omega) (by omega) a b
    exact ⟨N2, p2, z3, z5, a2.up (by omega), b2.up (by omega), forD_nm e e2⟩
theorem g_spoilt {s m : Nat} {p : List D} {M : List (List Int)} (hs : 1 ≤ s) (hs3 : s ≤ 3) (hM : Rws s 3 M) (hp : Pool m p) (hm : m ≤ 8000) : ∃ N p', G_law_spoilt [.rf 0, .fz (mD M)] [p] = some (.fresh [mD N, wD N], [p']) ∧ Rws s 10 N ∧ Pool (m + 20) p' := by
  obtain ⟨t, p1, e1, t0, t1, hp1⟩ := g_draw (many := 3) hp (by decide) (by decide) (by omega)
  have hl := hM.len
  have s1 : sp1 ⟨[some (.rf 0), some (.fz (mD M)), none, none, none, none, none], [some p]⟩ = some (.nx, sps M (List.range' 1 s) none none none none p M) := by
    rw [← hl]
    exact d_sp1 (by omega)
  have k1 : dCallN false 2 G_law_draw (aCons (dVar 0) (aCons (dC (.int 3)) aNil)) (sps M (List.range' 1 s) none none none none p M) = some (.fz (.int t), sps M (List.range' 1 s) none none none none p1 M) := cl1 (G := G_law_draw) (m := false) (n := 2) (fa := aCons (dVar 0) (aCons (dC (.int 3)) aNil)) (δ := sps M (List.range' 1 s) none none none none p M) (k := 0) rfl rfl rfl rfl e1
  obtain ⟨n, rfl⟩ : ∃ n : Nat, t = (n : Int) := ⟨t.toNat, by omega⟩
  have ir : iRg1 (dCallN false 2 G_law_draw (aCons (dVar 0) (aCons (dC (.int 3)) aNil))) (sps M (List.range' 1 s) none none none none p M) = some (rangeD 0 n, [], sps M (List.range' 1 s) none none none none p1 M) := by
    have ok : okR (n : Int) := by unfold okR; omega
    rw [iRg1, k1, Option.bind_some]
    show (if okR (n : Int) then _ else _) = _
    rw [if_pos ok]
    rfl
  have rl : (rangeD 0 n).length = n := by simp [rangeD]
  obtain ⟨N, p2, y3, y5, a, b, e⟩ := d_turns (M := M) hs hs3 (rangeD 0 n) 3 (m + 1) M none none none none p1 (by omega) (by omega) (by omega) hM hp1
  rw [rl] at a b
  have s2 : sp2 (sps M (List.range' 1 s) none none none none p M) = some (.nx, sps M (List.range' 1 s) y3 none y5 none p2 N) := by
    unfold sp2
    rw [sFor, ir]
    exact e
  have fz := d_frzV (M := M) (x3 := y3) (x4 := none) (x5 := y5) (x6 := none) (p := p2) a.len
  have w := d_wr (N := N) (a0 := some (.rf 0)) (a1 := some (.fz (mD M))) (a3 := y3) (a4 := none) (st := stf p2 N) N 0 [] (by have := a.len; simp; omega)
  let W : D := .lst ((wrs N.length 0 N).map (fun j : Nat => D.int (j : Int)))
  have s3 : sp3 (sps M (List.range' 1 s) y3 none y5 none p2 N) = some (.nx, ⟨[some (.rf 0), some (.fz (mD M)), some (.fz (mD N)), y3, some (.fz W), y5, none], stf p2 N⟩) := by
    have ie : iEnumD (dFrzV 2) (sps M (List.range' 1 s) y3 none y5 none p2 N) = some (enumD 0 (N.map rowD), [], ⟨[some (.rf 0), some (.fz (mD M)), some (.fz (mD N)), y3, none, y5, none], stf p2 N⟩) := by
      rw [iEnumD, fz]
      rfl
    have e : dLc false (iEnumD (dFrzV 2)) (.tp [5, 6]) [5, 6] wT (dVar 5) (sps M (List.range' 1 s) y3 none y5 none p2 N) = some (.fz W, ⟨[some (.rf 0), some (.fz (mD M)), some (.fz (mD N)), y3, none, y5, none], stf p2 N⟩) := by
      rw [dLc, ie, Option.bind_some]
      show (Option.map _ (lcGo [] (.tp [5, 6]) [5, 6] wT (dVar 5) [some (.rf 0), some (.fz (mD M)), some (.fz (mD N)), y3, none, none, none] (enumD 0 (N.map rowD)) [] ⟨[some (.rf 0), some (.fz (mD M)), some (.fz (mD N)), y3, none, none, none], stf p2 N⟩)) = _
      rw [w]
      rfl
    unfold sp3
    exact (sSet_ e).trans rfl
  let δ : Dl := ⟨[some (.rf 0), some (.fz (mD M)), some (.fz (mD N)), y3, some (.fz W), y5, none], stf p2 N⟩
  have vi : dOp ixD (dOp (addD false) (dVar 4) (dLst false (aCons (dC .non) aNil))) (dC (.int 0)) δ = some (.fz (wD N), δ) := by
    have ad := add_l (xs := (wrs N.length 0 N).map (fun j : Nat => D.int (j : Int))) (ys := [.non]) (fa := dVar 4) (fb := dLst false (aCons (dC .non) aNil)) (δ := δ) (δ1 := δ) (δ2 := δ) rfl rfl (by
      have := wrs_len (s := N.length) N 0
      have := a.len
      simp; omega)
    refine (dOp_ (g := ixD) ad (fb := dC (.int 0)) rfl rfl rfl).trans ?_
    unfold wD
    rw [← wrs_head]
    cases wrs N.length 0 N with
    | nil => rfl
    | cons j js =>
      simp [ixD, atI, ixN]
      rw [if_pos (by omega)]
      rfl
  have s4 : sp4 δ = some (.rt (.rf (1 + N.length)), ⟨δ.sl, stf p2 N ++ [some [mD N, wD N]]⟩) := by
    have v2 : dFrzV 2 δ = some (.fz (mD N), δ) := rfl
    unfold sp4
    rw [sRet, dLst, aC v2 (aC (g := aNil) vi rfl)]
    show some (Fl.rt (.rf (stf p2 N).length), _) = _
    rw [show (stf p2 N).length = 1 + N.length by simp [stf, Nat.add_comm]]
    rfl
  refine ⟨N, p2, ?_, a.up (by omega), b.up (by omega)⟩
  unfold G_law_spoilt fnD
  rw [f_spoilt_eq]
  show ((sSeq sp1 _ ⟨[some (.rf 0), some (.fz (mD M)), none, none, none, none, none], [some p]⟩).bind _) = _
  rw [sSeq_nx s1, sSeq_nx s2, sSeq_nx s3, s4]
  have gt : (stf p2 N ++ [some [mD N, wD N]])[1 + N.length]? = some (some [mD N, wD N]) := by
    rw [List.getElem?_append_right (by simp [stf, Nat.add_comm])]
    simp [stf, Nat.add_comm]
  have gt2 : (some p2 :: (N.map (fun _ => (none : Option (List D))) ++ [some [mD N, wD N]]))[1 + N.length]? = some (some [mD N, wD N]) := gt
  simp [lives, List.range, List.range.loop, stf]
  rw [gt2]
end K03
set_option maxHeartbeats 0
namespace K03
open PySem L2 PK
/-! ### rows of which one is a mix of the others -/
theorem vol1 {p sg la : Int} : volN 1 [[p]] sg la = sg * p := by
  by_cases h : p = 0
  · subst h
    simp [volN, fp, hd]
  · simp [volN, fp, hd, h, rest]
theorem vol2 {p q r t sg la z : Int} (hz : p * t - r * q = la * z) (hla : la ≠ 0) : volN 2 [[p, q], [r, t]] sg la = sg * z := by
  by_cases h : p = 0
  · subst h
    by_cases h2 : r = 0
    · subst h2
      have hz0 : z = 0 := by
        have : la * z = 0 := by rw [← hz]; simp
        rcases Int.mul_eq_zero.mp this with h | h
        · exact absurd h hla
        · exact h
      subst hz0
      simp [volN, fp, hd]
    · have e : r * q - 0 * t = la * (-z) := by grind
      have e2 : (r * q - 0 * t).fdiv la = -z := by rw [e]; exact Int.mul_fdiv_cancel_left _ hla
      have e3 : volN 2 [[0, q], [r, t]] sg la = volN 1 [[(r * q - 0 * t).fdiv la]] (-sg) r := by
        simp [volN, fp, hd, h2, rest, clr, List.range, List.range.loop]
      rw [e3, e2, vol1]
      grind
  · have e2 : (p * t - r * q).fdiv la = z := by rw [hz]; exact Int.mul_fdiv_cancel_left _ hla
    have e3 : volN 2 [[p, q], [r, t]] sg la = volN 1 [[(p * t - r * q).fdiv la]] sg p := by
      simp [volN, fp, hd, h, rest, clr, List.range, List.range.loop]
    rw [e3, e2, vol1]
def det3 (a b c d e f g h i : Int) : Int := a * (e * i - f * h) - b * (d * i - f * g) + c * (d * h - e * g)
theorem vol3 {a b c d e f g h i : Int} : volN 3 [[a, b, c], [d, e, f], [g, h, i]] 1 1 = det3 a b c d e f g h i := by
  unfold det3
  by_cases ha : a = 0
  · subst ha
    by_cases hd' : d = 0
    · subst hd'
      by_cases hg : g = 0
      · subst hg
        simp [volN, fp, hd]
      · have e3 : volN 3 [[0, b, c], [0, e, f], [g, h, i]] 1 1 = volN 2 [[g * b, g * c], [g * e, g * f]] 1 g := by
          simp [volN, fp, hd, hg, rest, clr, List.range, List.range.loop, Int.fdiv_one]
        rw [e3, vol2 (z := g * (b * f - c * e)) (by grind) hg]
        grind
    · have e3 : volN 3 [[0, b, c], [d, e, f], [g, h, i]] 1 1 = volN 2 [[d * b, d * c], [d * h - g * e, d * i - g * f]] (-1) d := by
        simp [volN, fp, hd, hd', rest, clr, List.range, List.range.loop, Int.fdiv_one]
      rw [e3, vol2 (z := b * (d * i - g * f) - c * (d * h - g * e)) (by grind) hd']
      grind
  · have e3 : volN 3 [[a, b, c], [d, e, f], [g, h, i]] 1 1 = volN 2 [[a * e - d * b, a * f - d * c], [a * h - g * b, a * i - g * c]] 1 a := by
      simp [volN, fp, hd, ha, rest, clr, List.range, List.range.loop, Int.fdiv_one]
    rw [e3, vol2 (z := a * (e * i - f * h) - b * (d * i - f * g) + c * (d * h - e * g)) (by grind) ha]
    grind
theorem vol2' {p q r t : Int} : volN 2 [[p, q], [r, t]] 1 1 = p * t - r * q := by
  rw [vol2 (z := p * t - r * q) (by grind) (by decide)]
  grind
def lin (f : List Int) (t : Int) (r : List Int) : List Int := (f.zip r).map fun p => p.1 + t * p.2
noncomputable def flD : EF := dOp subD (dCallN false 2 G_law_draw (aCons (dVar 0) (aCons (dC (.int 5)) aNil))) (dC (.int 2))
noncomputable def flE : EF := dOp (addD false) (dVar 7) (dOp (mulD false) (dVar 6) (dVar 8))
noncomputable def flC : EF := dLc false (iZipD (dVar 4) (dOp ixD (dVar 2) (dVar 5))) (.tp [7, 8]) [7, 8] bYes flE
noncomputable def flB : SF := sIf (dB (dOp (eqD true) (dVar 5) (dVar 3))) (sSeq (sSet 6 flD) (sSet 4 flC)) sNext
noncomputable def fl1 : SF := (sPar [2, 3] (aCons (dCallN true 2 G_law_lines (aCons (dVar 0) (aCons (dVar 1) aNil))) (aCons (dCallN false 2 G_law_draw (aCons (dVar 0) (aCons (dVar 1) aNil))) aNil)))
noncomputable def fl2 : SF := (sSet 4 (dOp (mulD false) (dLst false (aCons (dC (.int 0)) aNil)) (dVar 1)))
noncomputable def fl4 : SF := (sAsg (hSub (dVar 2) (dVar 3)) (dVar 4))
theorem f_flat_eq : f_law_flat = sSeq fl1 (sSeq fl2 (sSeq (sFor (iRg1 (dVar 1)) (.nm 5) flB) (sSeq fl4 (sRet (dVar 2))))) := rfl
def fs (s one : Nat) (F : List Int) (x5 x6 : Option Vl) (p : List D) (M : List (List Int)) : Dl := ⟨[some (.rf 0), some (.fz (.int s)), some (.rf 1), some (.fz (.int one)), some (.fz (rowD F)), x5, x6, none, none], [some p, some (M.map rowD)]⟩
theorem d_flT {s one j : Nat} {F : List Int} {x6 : Option Vl} {p : List D} {M : List (List Int)} : dB (dOp (eqD true) (dVar 5) (dVar 3)) (fs s one F (some (.fz (.int j))) x6 p M) = some (!decide (j = one), fs s one F (some (.fz (.int j))) x6 p M) := by
  refine (dB_ ((dOp_ (g := eqD true) (fa := dVar 5) (fb := dVar 3) (δ := fs s one F (some (.fz (.int j))) x6 p M) rfl rfl rfl rfl).trans eqD_int)).trans ?_
  by_cases h : j = one
  · subst h; simp
  · have : ((j : Int) == (one : Int)) = false := by rw [beq_eq_false_iff_ne]; omega
    simp [h, this]
theorem d_flB0 {s one : Nat} {F : List Int} {x6 : Option Vl} {p : List D} {M : List (List Int)} : flB (fs s one F (some (.fz (.int one))) x6 p M) = some (.nx, fs s one F (some (.fz (.int one))) x6 p M) := by
  unfold flB
  rw [sIf_ d_flT, if_neg (by simp)]
  rfl
theorem d_flB1 {s one j m : Nat} {F : List Int} {x6 : Option Vl} {p : List D} {M : List (List Int)} (hj : j ≠ one) (hM : j < M.length) (hp : Pool m p) (hm : m ≤ 9000) (hF : Sm 200 F) (hR : Sms 200 M) (hl : F.length ≤ 50) : ∃ t p' y6, (-2 ≤ t ∧ t ≤ 2) ∧ Pool (m + 1) p' ∧ flB (fs s one F (some (.fz (.int j))) x6 p M) = some (.nx, fs s one (lin F t (M.getD j [])) (some (.fz (.int j))) y6 p' M) := by
  obtain ⟨a, p1, e1, a0, a1, hp1⟩ := g_draw (many := 5) hp (by decide) (by decide) (by omega)
  refine ⟨a - 2, p1, some (.fz (.int (a - 2))), ⟨by omega, by omega⟩, hp1, ?_⟩
  have k1 := cl1 (G := G_law_draw) (m := false) (n := 2) (fa := aCons (dVar 0) (aCons (dC (.int 5)) aNil)) (δ := fs s one F (some (.fz (.int j))) x6 p M) (k := 0) rfl rfl rfl rfl e1
  have k2 : flD (fs s one F (some (.fz (.int j))) x6 p M) = some (.fz (.int (a - 2)), fs s one F (some (.fz (.int j))) x6 p1 M) := (dOp_ (g := subD) (fb := dC (.int 2)) (y := .fz (.int 2)) k1 rfl rfl rfl).trans rfl
  let δ := fs s one F (some (.fz (.int j))) (some (.fz (.int (a - 2)))) p1 M
  have s1 : sSet 6 flD (fs s one F (some (.fz (.int j))) x6 p M) = some (.nx, δ) := (sSet_ k2).trans rfl
  obtain ⟨R, hR2⟩ : ∃ R, R = M.getD j [] := ⟨_, rfl⟩
  have ix : dOp ixD (dVar 2) (dVar 5) δ = some (.fz (rowD R), δ) := by
    rw [hR2]
    exact (dOp_ (g := ixD) (fa := dVar 2) (fb := dVar 5) (δ := δ) (x := .rf 1) (a := mD M) rfl rfl rfl rfl).trans (ixm hM _)
  have sR : Sm 200 R := by
    rw [hR2]
    exact hR _ (getD_mem hM)
  have it : iZipD (dVar 4) (dOp ixD (dVar 2) (dVar 5)) δ = some ((F.zip R).map fun p => .tup [.int p.1, .int p.2], [], δ) := by
    rw [← zipD_ints, iZipD, show dVar 4 δ = some (.fz (rowD F), δ) from rfl, Option.bind_some]
    show Option.bind (dOp ixD (dVar 2) (dVar 5) δ) _ = _
    rw [ix]
    rfl
  have b2 : (2 : Nat) < 2 ^ 4000 := by decide +kernel
  have b3 : (2 : Nat) ^ 200 ≤ 2 ^ 4000 := Nat.pow_le_pow_right (by decide) (by decide)
  have e2 := lcGo_tp (own := [7, 8]) (elt := flE) (i := 7) (j := 8) (sl := δ.sl) (st := δ.st) (e1 := fun p : Int × Int => .int p.1) (e2 := fun p => .int p.2) (out := fun p => .int (p.1 + (a - 2) * p.2)) (F.zip R) [] (by simp [small]; omega) fun q hq => ⟨_, by
    have ok : okMul (a - 2) q.2 = true := okMul_big (by omega) (Nat.lt_of_lt_of_le (sR _ (List.of_mem_zip (a := q.1) (b := q.2) hq).2) b3)
    have i1 := (dOp_ (g := mulD false) (fa := dVar 6) (fb := dVar 8) (δ := ⟨(δ.sl.set 7 (some (.fz (.int q.1)))).set 8 (some (.fz (.int q.2))), δ.st⟩) (x := .fz (.int (a - 2))) (y := .fz (.int q.2)) rfl rfl rfl rfl).trans (show mulD false _ (D.int (a - 2)) (D.int q.2) = some (.fz (.int ((a - 2) * q.2)), _) by simp only [mulD, ok, if_true]; rfl)
    exact (dOp_ (g := addD false) (fa := dVar 7) (x := .fz (.int q.1)) rfl i1 rfl rfl).trans rfl⟩
  have e3 : ((F.zip R).map fun p => D.int (p.1 + (a - 2) * p.2)) = (lin F (a - 2) R).map D.int := by unfold lin; rw [List.map_map]; rfl
  rw [List.nil_append, e3] at e2
  have e4 : flC δ = some (.fz (rowD (lin F (a - 2) R)), δ) := by
    unfold flC
    rw [dLc, it, Option.bind_some]
    show (Option.map _ (lcGo [] (.tp [7, 8]) [7, 8] bYes _ δ.sl _ [] ⟨δ.sl, δ.st⟩)) = _
    rw [e2]
    rfl
  have s2 : sSet 4 flC δ = some (.nx, fs s one (lin F (a - 2) R) (some (.fz (.int j))) (some (.fz (.int (a - 2)))) p1 M) := (sSet_ e4).trans rfl
  unfold flB
  rw [sIf_ d_flT, if_pos (by simp [hj]), sSeq_nx s1, s2, hR2]
/-- one row of a mix has no inverse -/
theorem v1 : volN 1 [[0]] 1 1 = 0 := by rw [vol1]; rfl
end K03
set_option maxHeartbeats 0
namespace K03
open PySem L2 PK
theorem lin_sm {F R : List Int} {t : Int} {k : Nat} (hF : Sm k F) (hR : Sm k R) (h1 : -2 ≤ t) (h2 : t ≤ 2) : Sm (k + 2) (lin F t R) := fun x hx => by
  obtain ⟨q, hq, rfl⟩ := List.mem_map.mp hx
  have a := hF _ (List.of_mem_zip (a := q.1) (b := q.2) hq).1
  have b := hR _ (List.of_mem_zip (a := q.1) (b := q.2) hq).2
  have c : (t * q.2).natAbs ≤ 2 * q.2.natAbs := by
    rw [Int.natAbs_mul]
    exact Nat.mul_le_mul_right _ (by omega)
  have d : (q.1 + t * q.2).natAbs ≤ q.1.natAbs + (t * q.2).natAbs := Int.natAbs_add_le _ _
  rw [Nat.pow_add]
  omega
theorem lin_len {F R : List Int} {t : Int} (h : F.length = R.length) : (lin F t R).length = R.length := by simp [lin, h]
/-- the loop over the rows: from zeros to a mix -/
theorem d_fl2 {s one m : Nat} {p : List D} {M : List (List Int)} (hs : s = 1 ∨ s = 2 ∨ s = 3) (ho : one < s) (hM : Sq s M) (hR : Sms 110 M) (hp : Pool m p) (hm : m ≤ 8000) : ∃ F p' y5 y6, F.length = s ∧ Sm 120 F ∧ volN s (M.set one F) 1 1 = 0 ∧ Pool (m + 3) p' ∧ forD [] (.nm 5) flB (rangeD 0 s) (fs s one (List.replicate s 0) none none p M) = some (.nx, fs s one F y5 y6 p' M) := by
  have z : ∀ k, Sm 110 (List.replicate k 0) := fun k x hx => by
    rw [List.eq_of_mem_replicate hx]
    decide
  have hl := hM.1
  have R2 : Sms 200 M := sms_up hR (by decide)
  have row : ∀ j, j < s → Sm 110 (M.getD j []) ∧ (M.getD j []).length = s := fun j hj => by
    have := getD_mem (L := M) (k := j) (by omega)
    exact ⟨hR _ this, hM.2 _ this⟩
  rcases hs with rfl | rfl | rfl
  · obtain rfl : one = 0 := by omega
    obtain ⟨a, rfl⟩ := rows1 hM
    refine ⟨[0], p, some (.fz (.int (0 : Nat))), none, rfl, sm_up (z 1) (by decide), v1, hp.up (by omega), ?_⟩
    exact forD_nm d_flB0 forD_nil0
  · have st1 := fun (j : Nat) (h1 : j < 2) (h2 : j ≠ one) (x6 : Option Vl) => d_flB1 (s := 2) (one := one) (j := j) (F := [0, 0]) (x6 := x6) (p := p) (M := M) h2 (by omega) hp (by omega) (sm_up (z 2) (by decide)) R2 (by simp)
    rcases (show one = 0 ∨ one = 1 by omega) with rfl | rfl
    · obtain ⟨t, p1, y6, ⟨t1, t2⟩, hp1, e1⟩ := st1 1 (by decide) (by decide) none
      refine ⟨_, p1, some (.fz (.int (1 : Nat))), y6, ?_, sm_up (lin_sm (z 2) (row 1 (by decide)).1 t1 t2) (by decide), ?_, hp1.up (by omega), forD_nm d_flB0 (forD_nm e1 forD_nil0)⟩
      · rw [lin_len (by rw [(row 1 (by decide)).2]; rfl)]; exact (row 1 (by decide)).2
      · obtain ⟨a, b, c, d, rfl⟩ := rows2 hM
        show volN 2 [[0 + t * c, 0 + t * d], [c, d]] 1 1 = 0
        rw [vol2']
        grind
    · obtain ⟨t, p1, y6, ⟨t1, t2⟩, hp1, e1⟩ := st1 0 (by decide) (by decide) none
      refine ⟨_, p1, some (.fz (.int (1 : Nat))), y6, ?_, sm_up (lin_sm (z 2) (row 0 (by decide)).1 t1 t2) (by decide), ?_, hp1.up (by omega), forD_nm e1 (forD_nm d_flB0 forD_nil0)⟩
      · rw [lin_len (by rw [(row 0 (by decide)).2]; rfl)]; exact (row 0 (by decide)).2
      · obtain ⟨a, b, c, d, rfl⟩ := rows2 hM
        show volN 2 [[a, b], [0 + t * a, 0 + t * b]] 1 1 = 0
        rw [vol2']
        grind
  · have st1 := fun (j : Nat) (h1 : j < 3) (h2 : j ≠ one) (x6 : Option Vl) => d_flB1 (s := 3) (one := one) (j := j) (F := [0, 0, 0]) (x6 := x6) (p := p) (M := M) h2 (by omega) hp (by omega) (sm_up (z 3) (by decide)) R2 (by simp)
    have st2 := fun (i j : Nat) (t : Int) (p1 : List D) (hp1 : Pool (m + 1) p1) (h1 : j < 3) (h2 : j ≠ one) (hi : i < 3) (t1 : -2 ≤ t) (t2 : t ≤ 2) (x6 : Option Vl) => d_flB1 (s := 3) (one := one) (j := j) (F := lin [0, 0, 0] t (M.getD i [])) (x6 := x6) (p := p1) (M := M) h2 (by omega) hp1 (by omega) (sm_up (lin_sm (z 3) (row i hi).1 t1 t2) (by decide)) R2 (by rw [lin_len (by rw [(row i hi).2]; rfl), (row i hi).2]; decide)
    have ln1 := fun (i : Nat) (t : Int) (hi : i < 3) => show (lin [0, 0, 0] t (M.getD i [])).length = 3 by rw [lin_len (by rw [(row i hi).2]; rfl), (row i hi).2]
    have ln2 := fun (i j : Nat) (t u : Int) (hi : i < 3) (hj : j < 3) => show (lin (lin [0, 0, 0] t (M.getD i [])) u (M.getD j [])).length = 3 by rw [lin_len (by rw [ln1 i t hi, (row j hj).2]), (row j hj).2]
    have sm2 := fun (i j : Nat) (t u : Int) (hi : i < 3) (hj : j < 3) (t1 : -2 ≤ t) (t2 : t ≤ 2) (u1 : -2 ≤ u) (u2 : u ≤ 2) => sm_up (k := 120) (lin_sm (k := 112) (lin_sm (z 3) (row i hi).1 t1 t2) (sm_up (row j hj).1 (by decide)) u1 u2) (by decide)
    rcases (show one = 0 ∨ one = 1 ∨ one = 2 by omega) with rfl | rfl | rfl
    · obtain ⟨t, p1, y6, ⟨t1, t2⟩, hp1, e1⟩ := st1 1 (by decide) (by decide) none
      obtain ⟨u, p2, w6, ⟨u1, u2⟩, hp2, e2⟩ := st2 1 2 t p1 hp1 (by decide) (by decide) (by decide) t1 t2 y6
      refine ⟨_, p2, some (.fz (.int (2 : Nat))), w6, ln2 1 2 t u (by decide) (by decide), sm2 1 2 t u (by decide) (by decide) t1 t2 u1 u2, ?_, hp2.up (by omega), forD_nm d_flB0 (forD_nm e1 (forD_nm e2 forD_nil0))⟩
      obtain ⟨a, b, c, d, e, f, g, i, j, rfl⟩ := rows3 hM
      show volN 3 [[0 + t * d + u * g, 0 + t * e + u * i, 0 + t * f + u * j], [d, e, f], [g, i, j]] 1 1 = 0
      rw [vol3, det3]
      grind
    · obtain ⟨t, p1, y6, ⟨t1, t2⟩, hp1, e1⟩ := st1 0 (by decide) (by decide) none
      obtain ⟨u, p2, w6, ⟨u1, u2⟩, hp2, e2⟩ := st2 0 2 t p1 hp1 (by decide) (by decide) (by decide) t1 t2 y6
      refine ⟨_, p2, some (.fz (.int (2 : Nat))), w6, ln2 0 2 t u (by decide) (by decide), sm2 0 2 t u (by decide) (by decide) t1 t2 u1 u2, ?_, hp2.up (by omega), forD_nm e1 (forD_nm d_flB0 (forD_nm e2 forD_nil0))⟩
      obtain ⟨a, b, c, d, e, f, g, i, j, rfl⟩ := rows3 hM
      show volN 3 [[a, b, c], [0 + t * a + u * g, 0 + t * b + u * i, 0 + t * c + u * j], [g, i, j]] 1 1 = 0
      rw [vol3, det3]
      grind
    · obtain ⟨t, p1, y6, ⟨t1, t2⟩, hp1, e1⟩ := st1 0 (by decide) (by decide) none
      obtain ⟨u, p2, w6, ⟨u1, u2⟩, hp2, e2⟩ := st2 0 1 t p1 hp1 (by decide) (by decide) (by decide) t1 t2 y6
      refine ⟨_, p2, some (.fz (.int (2 : Nat))), w6, ln2 0 1 t u (by decide) (by decide), sm2 0 1 t u (by decide) (by decide) t1 t2 u1 u2, ?_, hp2.up (by omega), forD_nm e1 (forD_nm e2 (forD_nm d_flB0 forD_nil0))⟩
      obtain ⟨a, b, c, d, e, f, g, i, j, rfl⟩ := rows3 hM
      show volN 3 [[a, b, c], [d, e, f], [0 + t * a + u * d, 0 + t * b + u * e, 0 + t * c + u * f]] 1 1 = 0
      rw [vol3, det3]
      grind
theorem g_flat {s m : Nat} {p : List D} (hs : s = 1 ∨ s = 2 ∨ s = 3) (hp : Pool m p) (hm : m ≤ 5000) : ∃ M p', G_law_flat [.rf 0, .fz (.int s)] [p] = some (.fresh (M.map rowD), [p']) ∧ Sq s M ∧ Sms 120 M ∧ volN s M 1 1 = 0 ∧ Pool (m + 70) p' := by
  obtain ⟨M, p1, e1, hq, hs1, hp1⟩ := g_lines (s := s) (by omega) hp (by omega)
  obtain ⟨o, p2, e2, o0, o1, hp2⟩ := g_draw (many := (s : Int)) hp1 (by omega) (by
    have : (3 : Int) < 2 ^ 200 := by decide
    omega) (by omega)
  obtain ⟨one, rfl⟩ : ∃ n : Nat, o = (n : Int) := ⟨o.toNat, by omega⟩
  have ho : one < s := by omega
  obtain ⟨F, p3, y5, y6, hF, sF, hv, hp3, e3⟩ := d_fl2 hs ho hq hs1 hp2 (by omega)
  let δ0 : Dl := ⟨[some (.rf 0), some (.fz (.int s)), none, none, none, none, none, none, none], [some p]⟩
  let δ1 : Dl := ⟨[some (.rf 0), some (.fz (.int s)), none, none, none, none, none, none, none], [some p1, some (M.map rowD)]⟩
  have k1 : dCallN true 2 G_law_lines (aCons (dVar 0) (aCons (dVar 1) aNil)) δ0 = some (.rf 1, δ1) := cl1f (G := G_law_lines) (m := true) (n := 2) (fa := aCons (dVar 0) (aCons (dVar 1) aNil)) (δ := δ0) (k := 0) rfl rfl rfl rfl e1
  have k2 := cl1 (G := G_law_draw) (m := false) (n := 2) (fa := aCons (dVar 0) (aCons (dVar 1) aNil)) (δ := δ1) (k := 0) rfl rfl rfl rfl e2
  have s1 : fl1 δ0 = some (.nx, ⟨[some (.rf 0), some (.fz (.int s)), some (.rf 1), some (.fz (.int one)), none, none, none, none, none], [some p2, some (M.map rowD)]⟩) := by
    unfold fl1
    exact (sPar2 (aC k1 (aC k2 (g := aNil) rfl))).trans rfl
  have s2 : fl2 ⟨[some (.rf 0), some (.fz (.int s)), some (.rf 1), some (.fz (.int one)), none, none, none, none, none], [some p2, some (M.map rowD)]⟩ = some (.nx, fs s one (List.replicate s 0) none none p2 M) := by
    have e : dOp (mulD false) (dLst false (aCons (dC (.int 0)) aNil)) (dVar 1) ⟨[some (.rf 0), some (.fz (.int s)), some (.rf 1), some (.fz (.int one)), none, none, none, none, none], [some p2, some (M.map rowD)]⟩ = some (.fz (rowD (List.replicate s 0)), ⟨[some (.rf 0), some (.fz (.int s)), some (.rf 1), some (.fz (.int one)), none, none, none, none, none], [some p2, some (M.map rowD)]⟩) := by
      rcases hs with rfl | rfl | rfl <;> rfl
    unfold fl2
    exact (sSet_ e).trans rfl
  have ir := iRg_ (s := s) (f := dVar 1) (δ := fs s one (List.replicate s 0) none none p2 M) (by omega) rfl
  have s3 : sFor (iRg1 (dVar 1)) (.nm 5) flB (fs s one (List.replicate s 0) none none p2 M) = some (.nx, fs s one F y5 y6 p3 M) := by
    rw [sFor, ir]
    exact e3
  have s4 : fl4 (fs s one F y5 y6 p3 M) = some (.nx, fs s one F y5 y6 p3 (M.set one F)) := by
    have ixn : ixN (M.map rowD).length (one : Int) = some one := by
      rw [List.length_map, hq.1]
      simp [ixN, ho]
    unfold fl4 sAsg
    show (Option.map _ (setIx (fs s one F y5 y6 p3 M) (.rf 1) (.fz (.int one)) (rowD F))) = _
    simp only [setIx, fs, List.getElem?_cons_zero, List.getElem?_cons_succ, ixn, Option.map_some]
    rw [← List.map_set]
    rfl
  refine ⟨M.set one F, p3, ?_, ⟨by rw [List.length_set]; exact hq.1, fun r hr => ?_⟩, fun r hr => ?_, hv, hp3.up (by omega)⟩
  · unfold G_law_flat fnD
    rw [f_flat_eq]
    show ((sSeq fl1 _ δ0).bind _) = _
    rw [sSeq_nx s1, sSeq_nx s2, sSeq_nx s3, sSeq_nx s4]
    rfl
  · rcases List.mem_or_eq_of_mem_set hr with e | e
    · exact hq.2 r e
    · rw [e]; exact hF
  · rcases List.mem_or_eq_of_mem_set hr with e | e
    · exact sm_up (hs1 r e) (by decide)
    · rw [e]; exact sF
end K03
set_option maxHeartbeats 0
namespace K03
open PySem L2 PK
/-! ### the law's own case: the first part -/
def rS (s : Nat) (u : Int) (x3 x4 x5 x6 x7 x8 x9 x10 x11 x12 x13 : Option Vl) (st : List (Option (List D))) : Dl := ⟨[some (.rf 0), some (.fz (.int s)), some (.fz (.int u)), x3, x4, x5, x6, x7, x8, x9, x10, x11, x12, x13, none, none], st⟩
noncomputable def r1 : SF := (sAsg (hTup 2 (hCons (hNm 1) (hCons (hNm 2) hNil))) (dTup (aCons (dOp (addD false) (dC (.int 1)) (dCallN false 2 G_law_draw (aCons (dVar 0) (aCons (dC (.int 3)) aNil)))) (aCons (dCallN false 1 G_law_under (aCons (dVar 0) aNil)) aNil))))
noncomputable def r2 : SF := (sAsg (hUnl 2 (hCons (hNm 3) (hCons (hNm 4) hNil))) (dCallN false 2 G_law_spoilt (aCons (dVar 0) (aCons (dCallN false 2 G_law_lines (aCons (dVar 0) (aCons (dVar 1) aNil))) aNil))))
noncomputable def r3 : SF := (sSet 5 (dCB reprD (aCons (dVar 3) aNil)))
noncomputable def r4 : SF := (sSet 6 (dIfE (dB (dOp isND (dVar 4) (dC .non))) (dC .non) (dTup (aCons (dC (.str "matrix")) (aCons (dVar 4) aNil)))))
noncomputable def r5 : SF := (sIf (bOr (dB (dOp (eqS true) (dCB reprD (aCons (dCallN false 3 G_law_caught (aCons (dC (.int 0)) (aCons (dVar 3) (aCons (dVar 2) aNil)))) aNil)) (dCB reprD (aCons (dVar 6) aNil)))) (dB (dOp (eqS true) (dCB reprD (aCons (dVar 3) aNil)) (dVar 5)))) (sRet (dC (.bl false))) sNext)
noncomputable def mN : EF := (dTup (aCons (dC (.str "matrix")) (aCons (dC .non) aNil)))
noncomputable def r6B : SF := (sIf (dB (dOp (eqD true) (dCallN false 3 G_law_caught (aCons (dC (.int 0)) (aCons (dVar 3) (aCons (dVar 7) aNil)))) mN)) (sRet (dC (.bl false))) sNext)
noncomputable def r6T : EF := (dTup (aCons (dC (.int 0)) (aCons (dUn negD (dC (.int 1))) (aCons (dOp subD (dC (.int 0)) (dVar 2)) aNil))))
noncomputable def r7 : SF := (sIf (bOr (dB (dOp (eqD true) (dCallN false 3 G_law_caught (aCons (dC (.int 0)) (aCons (dLst false aNil) (aCons (dVar 2) aNil)))) mN)) (dB (dOp (eqD true) (dCallN false 3 G_law_caught (aCons (dC (.int 0)) (aCons (dLst false aNil) (aCons (dC (.int 0)) aNil)))) mN))) (sRet (dC (.bl false))) sNext)
noncomputable def r8L : EF := (dLc false (iTupD (dTup (aCons (dC (.int 1)) (aCons (dC (.int 2)) (aCons (dC (.int 3)) aNil))))) (.nm 14) [14] (dB (dOp (eqD true) (dVar 14) (dVar 1))) (dVar 14))
noncomputable def r8 : SF := (sSet 8 (dOp ixD r8L (dCallN false 2 G_law_draw (aCons (dVar 0) (aCons (dC (.int 2)) aNil)))))
noncomputable def r9A : EF := (dMake "Matrix" 3 G_Matrix_init (aCons (dCallN false 2 G_law_lines (aCons (dVar 0) (aCons (dVar 1) aNil))) (aCons (dVar 2) aNil)))
noncomputable def r9B : EF := (dMake "Matrix" 3 G_Matrix_init (aCons (dCallN false 2 G_law_lines (aCons (dVar 0) (aCons (dVar 8) aNil))) (aCons (dC (.int 2)) aNil)))
noncomputable def r9 : SF := (sPar [9, 10] (aCons r9A (aCons r9B aNil)))
noncomputable def oN : EF := (dTup (aCons (dC (.str "other")) (aCons (dLenI "Matrix" G_Matrix_len (dVar 10)) aNil)))
noncomputable def r10 : SF := (sIf (bOr (dB (dOp (eqD true) (dCallN false 3 G_law_caught (aCons (dC (.int 1)) (aCons (dVar 9) (aCons (dVar 10) aNil)))) oN)) (dB (dOp notND (dCallN false 3 G_law_caught (aCons (dC (.int 1)) (aCons (dVar 9) (aCons (dVar 9) aNil)))) (dC .non)))) (sRet (dC (.bl false))) sNext)
noncomputable def r11M : EF := (dMake "Matrix" 3 G_Matrix_init (aCons (dCallN false 2 G_law_flat (aCons (dVar 0) (aCons (dVar 1) aNil))) (aCons (dVar 2) aNil)))
noncomputable def sN : EF := (dTup (aCons (dC (.str "singular")) (aCons (dC .non) aNil)))
noncomputable def r11 : SF := (sIf (dB (dOp (eqD true) (dCallN false 3 G_law_caught (aCons (dC (.int 2)) (aCons r11M (aCons (dC .non) aNil)))) sN)) (sRet (dC (.bl false))) sNext)
noncomputable def gE : EF := (dOp (mulD false) (dCB intD (aCons (dOp gtD (dVar 15) (dVar 12)) aNil)) (dCallN false 2 G_law_draw (aCons (dVar 0) (aCons (dC (.int 9)) aNil))))
noncomputable def g1 : SF := (sSet 13 (dLc true (iRg1 (dVar 1)) (.nm 15) [15] bYes gE))
noncomputable def g2 : SF := (sAsg (hSub (dVar 13) (dVar 12)) (dC (.int 1)))
noncomputable def g3 : SF := (sDrop (dMt appD (dVar 11) (aCons (dVar 13) aNil)))
noncomputable def gB : SF := sSeq g1 (sSeq g2 g3)
noncomputable def r14 : SF := (sRet (dOp isND (dCallN false 3 G_law_caught (aCons (dC (.int 2)) (aCons (dMake "Matrix" 3 G_Matrix_init (aCons (dFrzV 11) (aCons (dVar 2) aNil))) (aCons (dC .non) aNil)))) (dC .non)))
theorem f_law_right_eq : f_law_right = sSeq r1 (sSeq r2 (sSeq r3 (sSeq r4 (sSeq r5 (sSeq (sFor (iTupD r6T) (.nm 7) r6B) (sSeq r7 (sSeq r8 (sSeq r9 (sSeq r10 (sSeq r11 (sSeq (sSet 11 (dLst true aNil)) (sSeq (sFor (iRg1 (dVar 1)) (.nm 12) gB) r14)))))))))))) := rfl
theorem okMa : PyData.strOk "matrix" = true := by decide +kernel
theorem okOt : PyData.strOk "other" = true := by decide +kernel
theorem okSi : PyData.strOk "singular" = true := by decide +kernel
theorem nice_wN {w : Str} (h : PyData.strOk w = true) : Nice 1 (.tup [.str w, .non]) := nice_tup (k := 0) fun x hx => by
  simp only [List.mem_cons, List.not_mem_nil, or_false] at hx
  rcases hx with rfl | rfl
  · exact nice_str h
  · exact ⟨.none, rfl, rfl, Nat.zero_le _⟩
theorem nice_wI {w : Str} (h : PyData.strOk w = true) (i : Int) : Nice 1 (.tup [.str w, .int i]) := nice_tup (k := 0) fun x hx => by
  simp only [List.mem_cons, List.not_mem_nil, or_false] at hx
  rcases hx with rfl | rfl
  · exact nice_str h
  · exact nice_int
def dueD (N : List (List Int)) : D := match wr N.length 0 N with
  | none => .non
  | some j => .tup [.str "matrix", .int j]
theorem wr_lt {s : Nat} : ∀ {rs : List (List Int)} {i j : Nat}, wr s i rs = some j → j < i + rs.length
  | [], i, j, h => by cases h
  | r :: rs, i, j, h => by
    rw [wr] at h
    rw [List.length_cons]
    split at h
    · have := wr_lt h; omega
    · cases h; omega
theorem made_due {N : List (List Int)} {u : Int} (h : 1 ≤ N.length) (hu : 1 ≤ u) : madeA N u = dueD N := by
  unfold madeA dueD
  have hn : ¬ (N = [] ∨ u < 1) := by
    rintro (e | e)
    · rw [e] at h; simp at h
    · omega
  refine (if_neg hn).trans ?_
  cases wr N.length 0 N <;> rfl
theorem shw_due {N : List (List Int)} (h : N.length ≤ 100) : Shw 800 1 (dueD N) := by
  unfold dueD
  cases hw : wr N.length 0 N with
  | none => exact shw_non.up (by decide) (by decide)
  | some j =>
    have hj := wr_lt hw
    refine (shw_tup (w := 390) (k := 0) fun d hd => ?_).up (by rw [List.length_cons, List.length_singleton]; decide) (by decide)
    simp only [List.mem_cons, List.not_mem_nil, or_false] at hd
    rcases hd with rfl | rfl
    · exact (shw_str okMa).up (by decide +kernel) (by decide)
    · refine shw_int ?_
      have : (1000 : Nat) < 2 ^ 390 := by decide +kernel
      omega
theorem shw_rows {s : Nat} {N : List (List Int)} (h : Rws s 10 N) (hs : s ≤ 3) : Shw 12000 2 (mD N) := by
  refine (shw_lst (w := 3910) (k := 1) fun d hd => ?_).up (by rw [List.length_map, h.len]; omega) (by decide)
  obtain ⟨r, hr, rfl⟩ := List.mem_map.mp hd
  refine (shw_lst (w := 390) (k := 0) fun d hd => ?_).up (by
    rw [List.length_map]
    have := h.row r hr
    omega) (by decide)
  obtain ⟨x, hx, rfl⟩ := List.mem_map.mp hd
  exact shw_int (Nat.lt_of_lt_of_le (h.sm r hr x hx) (Nat.pow_le_pow_right (by decide) (by decide)))
section
variable {s m : Nat} {u : Int} {p : List D} {N : List (List Int)} {x5 x6 x7 x8 x9 x10 x11 x12 x13 : Option Vl} {st : List (Option (List D))}
theorem d_r4 : r4 (rS s u (some (.fz (mD N))) (some (.fz (wD N))) x5 none none none none none none none none st) = some (.nx, rS s u (some (.fz (mD N))) (some (.fz (wD N))) x5 (some (.fz (dueD N))) none none none none none none none st) := by
  unfold r4 wD dueD
  cases wr N.length 0 N with
  | none => rfl
  | some j => rfl
theorem d_r6B {c : Int} (hN : N.length ≤ 100) (hs : Sms 200 N) (hc : c < 1) (hc2 : c.natAbs < 2 ^ 4000) : r6B (rS s u (some (.fz (mD N))) (some (.fz (wD N))) x5 x6 (some (.fz (.int c))) x8 x9 x10 x11 x12 x13 st) = some (.nx, rS s u (some (.fz (mD N))) (some (.fz (wD N))) x5 x6 (some (.fz (.int c))) x8 x9 x10 x11 x12 x13 st) := by
  let δ := rS s u (some (.fz (mD N))) (some (.fz (wD N))) x5 x6 (some (.fz (.int c))) x8 x9 x10 x11 x12 x13 st
  have g := g_made (b := c) hN hc2 (sms_up hs (by decide))
  unfold madeA at g
  rw [if_pos (.inr hc)] at g
  have e1 := cl0 (G := G_law_caught) (m := false) (n := 3) (fa := aCons (dC (.int 0)) (aCons (dVar 3) (aCons (dVar 7) aNil))) (δ := δ) rfl rfl rfl g
  have e0 : mN δ = some (.fz (.tup [.str "matrix", .non]), δ) := rfl
  have t := dB_ ((dOp_ (g := eqD true) e1 e0 rfl rfl).trans (eqD_self (neg := true) (nice_wN okMa) (by decide)))
  show r6B δ = _
  unfold r6B
  rw [sIf_ t]
  rfl
theorem d_r7 (hu : u.natAbs < 2 ^ 4000) {x3 x4 : Option Vl} : r7 (rS s u x3 x4 x5 x6 x7 x8 x9 x10 x11 x12 x13 st) = some (.nx, rS s u x3 x4 x5 x6 x7 x8 x9 x10 x11 x12 x13 st) := by
  let δ := rS s u x3 x4 x5 x6 x7 x8 x9 x10 x11 x12 x13 st
  have g1 : G_law_caught [.fz (.int 0), .fz (mD []), .fz (.int u)] [] = some (.val (.tup [.str "matrix", .non]), []) := g_made_ex (gx_check0 (.inl rfl))
  have g2 : G_law_caught [.fz (.int 0), .fz (mD []), .fz (.int 0)] [] = some (.val (.tup [.str "matrix", .non]), []) := g_made_ex (gx_check0 (.inl rfl))
  have e1 := cl0 (G := G_law_caught) (m := false) (n := 3) (fa := aCons (dC (.int 0)) (aCons (dLst false aNil) (aCons (dVar 2) aNil))) (δ := δ) rfl rfl rfl g1
  have e2 := cl0 (G := G_law_caught) (m := false) (n := 3) (fa := aCons (dC (.int 0)) (aCons (dLst false aNil) (aCons (dC (.int 0)) aNil))) (δ := δ) rfl rfl rfl g2
  have e0 : mN δ = some (.fz (.tup [.str "matrix", .non]), δ) := rfl
  have t1 := dB_ ((dOp_ (g := eqD true) e1 e0 rfl rfl).trans (eqD_self (neg := true) (nice_wN okMa) (by decide)))
  have t2 := dB_ ((dOp_ (g := eqD true) e2 e0 rfl rfl).trans (eqD_self (neg := true) (nice_wN okMa) (by decide)))
  show r7 δ = _
  unfold r7
  rw [sIf_ (bOr_ff t1 t2)]
  rfl
/-- the first seven statements -/
theorem d_first (hs : 1 ≤ s) (hs3 : s ≤ 3) (hu : 1 ≤ u) (hu2 : u.natAbs < 2 ^ 390) (hN : Rws s 10 N) : ∃ y5 y7, sSeq r3 (sSeq r4 (sSeq r5 (sSeq (sFor (iTupD r6T) (.nm 7) r6B) r7))) (rS s u (some (.fz (mD N))) (some (.fz (wD N))) none none none none none none none none none st) = some (.nx, rS s u (some (.fz (mD N))) (some (.fz (wD N))) y5 (some (.fz (dueD N))) y7 none none none none none none st) := by
  obtain ⟨t, ht⟩ := (shw_rows hN hs3).rp (by decide) (by decide)
  have hu3 : u.natAbs < 2 ^ 4000 := Nat.lt_of_lt_of_le hu2 (Nat.pow_le_pow_right (by decide) (by decide))
  have hl := hN.len
  let δ0 := rS s u (some (.fz (mD N))) (some (.fz (wD N))) none none none none none none none none none st
  let T := some (Vl.fz (.str t))
  let δ1 := rS s u (some (.fz (mD N))) (some (.fz (wD N))) T none none none none none none none none st
  let δ2 := rS s u (some (.fz (mD N))) (some (.fz (wD N))) T (some (.fz (dueD N))) none none none none none none none st
  have rp : ∀ δ : Dl, dVar 3 δ = some (.fz (mD N), δ) → dCB reprD (aCons (dVar 3) aNil) δ = some (.fz (.str t), δ) := fun δ e => (cb1_ (g := reprD) e rfl).trans (ht δ)
  have s3 : r3 δ0 = some (.nx, δ1) := (sSet_ (rp δ0 rfl)).trans rfl
  have s4 : r4 δ1 = some (.nx, δ2) := d_r4
  have g := g_made (M := N) (b := u) (by omega) hu3 (sms_up hN.sm (by decide))
  rw [made_due (by omega) hu] at g
  have k1 := cl0 (G := G_law_caught) (m := false) (n := 3) (fa := aCons (dC (.int 0)) (aCons (dVar 3) (aCons (dVar 2) aNil))) (δ := δ2) rfl rfl rfl g
  have t1 := dB_ (rp_same (neg := true) (fb := dVar 6) (δ := δ2) (δ1 := δ2) (δ2 := δ2) (r2 := .fz (dueD N)) (shw_due (N := N) (by omega)) (by decide) (by decide) k1 rfl rfl rfl)
  have t2 : dB (dOp (eqS true) (dCB reprD (aCons (dVar 3) aNil)) (dVar 5)) δ2 = some (false, δ2) := dB_ ((dOp_ (g := eqS true) (fb := dVar 5) (rp δ2 rfl) (y := .fz (.str t)) rfl rfl rfl).trans (by simp [eqS]))
  have s5 : r5 δ2 = some (.nx, δ2) := by
    unfold r5
    rw [sIf_ (bOr_ff t1 t2)]
    rfl
  have it : iTupD r6T δ2 = some ([.int 0, .int (-1), .int (0 - u)], [], δ2) := rfl
  have b0 : ∀ k : Nat, (0 : Nat) < 2 ^ k := fun k => Nat.pow_pos (by decide)
  have p1 : (1 : Nat) < 2 ^ 4000 := by decide +kernel
  have B := fun (c : Int) (y7 : Option Vl) (hc : c < 1) (hc2 : c.natAbs < 2 ^ 4000) => d_r6B (s := s) (u := u) (N := N) (x5 := T) (x6 := some (.fz (dueD N))) (x8 := none) (x9 := none) (x10 := none) (x11 := none) (x12 := none) (x13 := none) (st := st) (c := c) (by omega) hN.sm hc hc2
  refine ⟨T, some (.fz (.int (0 - u))), ?_⟩
  show sSeq r3 _ δ0 = _
  have s6 : sFor (iTupD r6T) (.nm 7) r6B δ2 = some (.nx, rS s u (some (.fz (mD N))) (some (.fz (wD N))) T (some (.fz (dueD N))) (some (.fz (.int (0 - u)))) none none none none none none st) := by
    rw [sFor, it]
    exact forD_nm (B 0 none (by decide) (b0 _)) (forD_nm (B (-1) none (by decide) p1) (forD_nm (B (0 - u) none (by omega) (by
      have : (0 - u).natAbs = u.natAbs := by omega
      rw [this]; exact hu3)) forD_nil0))
  rw [sSeq_nx s3, sSeq_nx s4, sSeq_nx s5, sSeq_nx s6]
  exact d_r7 hu3
end
end K03
set_option maxHeartbeats 0
namespace K03
open PySem L2 PK
theorem vol_sc {s : Nat} (hs : s = 1 ∨ s = 2 ∨ s = 3) {M : List (List Int)} (h : Sq s M) (k : Int) : volN s (sc k M) 1 1 = k ^ s * volN s M 1 1 := by
  rcases hs with rfl | rfl | rfl
  · obtain ⟨a, rfl⟩ := rows1 h
    simp only [sc, List.map_cons, List.map_nil]
    rw [vol1, vol1]
    grind
  · obtain ⟨a, b, c, d, rfl⟩ := rows2 h
    simp only [sc, List.map_cons, List.map_nil]
    rw [vol2', vol2']
    grind
  · obtain ⟨a, b, c, d, e, f, g, i, j, rfl⟩ := rows3 h
    simp only [sc, List.map_cons, List.map_nil]
    rw [vol3, vol3]
    simp only [det3]
    grind
theorem vol_lr {s : Nat} (hs : s = 1 ∨ s = 2 ∨ s = 3) {M : List (List Int)} (h : Sq s M) {b : Int} (hb : 1 ≤ b) : volN s (lr M b) 1 1 = 0 ↔ volN s M 1 1 = 0 := by
  have e := vol_sc hs (sq_lr (b := b) h) (cdv b M)
  rw [(self_sc M b).1] at e
  have p := cdv_pos M b hb
  rw [e]
  have q : cdv b M ^ s ≠ 0 := Int.pow_ne_zero (by omega)
  constructor
  · intro h; rw [h, Int.mul_zero]
  · intro h
    rcases Int.mul_eq_zero.mp h with h | h
    · exact absurd h q
    · exact h
/-! ### rows with ones on the diagonal, zeros below or above -/
def Tr (i : Nat) : List Nat → List Int → Prop
  | [], [] => True
  | j :: js, v :: vs => (j ≤ i → v = 0) ∧ 0 ≤ v ∧ v < 9 ∧ Tr i js vs
  | _, _ => False
def gsl (s : Nat) (u : Int) (x3 x4 x5 x6 x7 x8 x9 x10 x13 x15 : Option Vl) (i : Nat) : List (Option Vl) := [some (.rf 0), some (.fz (.int s)), some (.fz (.int u)), x3, x4, x5, x6, x7, x8, x9, x10, some (.rf 1), some (.fz (.int i)), x13, none, x15]
section
variable {s : Nat} {u : Int} {x3 x4 x5 x6 x7 x8 x9 x10 x13 : Option Vl}
theorem d_gE {i j m : Nat} {p : List D} {rest : List (Option (List D))} (hp : Pool m p) (hm : m ≤ 9000) : ∃ v p', (j ≤ i → v = 0) ∧ 0 ≤ v ∧ v < 9 ∧ Pool (m + 1) p' ∧ gE ⟨gsl s u x3 x4 x5 x6 x7 x8 x9 x10 x13 (some (.fz (.int (0 + (j : Int))))) i, some p :: rest⟩ = some (.fz (.int v), ⟨gsl s u x3 x4 x5 x6 x7 x8 x9 x10 x13 (some (.fz (.int (0 + (j : Int))))) i, some p' :: rest⟩) := by
  obtain ⟨d, p1, e1, d0, d1, hp1⟩ := g_draw (many := 9) hp (by decide) (by decide) (by omega)
  let δ (p : List D) : Dl := ⟨gsl s u x3 x4 x5 x6 x7 x8 x9 x10 x13 (some (.fz (.int (0 + (j : Int))))) i, some p :: rest⟩
  have k1 := cl1 (G := G_law_draw) (m := false) (n := 2) (fa := aCons (dVar 0) (aCons (dC (.int 9)) aNil)) (δ := δ p) (k := 0) rfl rfl rfl rfl e1
  have t : dOp gtD (dVar 15) (dVar 12) (δ p) = some (.fz (.bl (decide ((i : Int) < 0 + (j : Int)))), δ p) := rfl
  have a : dCB intD (aCons (dOp gtD (dVar 15) (dVar 12)) aNil) (δ p) = some (.fz (.int (if decide ((i : Int) < 0 + (j : Int)) = true then 1 else 0)), δ p) := by
    rw [dCB, aC t (g := aNil) rfl]
    rfl
  have b2 : (9 : Nat) < 2 ^ 4000 := by decide +kernel
  by_cases h : i < j
  · rw [if_pos (by simp; omega)] at a
    have ok : okMul 1 d = true := okMul_big (by omega) (by omega)
    refine ⟨d, p1, by omega, d0, d1, hp1, ?_⟩
    refine (dOp_ (g := mulD false) a k1 rfl rfl).trans ?_
    show mulD false _ (.int 1) (.int d) = _
    simp only [mulD, ok, if_true, Int.one_mul]
    rfl
  · rw [if_neg (by simp; omega)] at a
    have ok : okMul 0 d = true := okMul_big (by omega) (by omega)
    refine ⟨0, p1, fun _ => rfl, by decide, by decide, hp1, ?_⟩
    refine (dOp_ (g := mulD false) a k1 rfl rfl).trans ?_
    show mulD false _ (.int 0) (.int d) = _
    simp only [mulD, ok, if_true, Int.zero_mul]
    rfl
theorem d_gL {i : Nat} {rest : List (Option (List D))} : ∀ (js : List Nat) (acc : List D) (m : Nat) (p : List D), acc.length + js.length ≤ 100 → m + js.length ≤ 9000 → Pool m p → ∃ vs p', Tr i js vs ∧ Pool (m + js.length) p' ∧ lcGo [] (.nm 15) [15] bYes gE (gsl s u x3 x4 x5 x6 x7 x8 x9 x10 x13 none i) (js.map fun j : Nat => D.int (0 + (j : Int))) acc ⟨gsl s u x3 x4 x5 x6 x7 x8 x9 x10 x13 none i, some p :: rest⟩ = some (acc ++ vs.map D.int, ⟨gsl s u x3 x4 x5 x6 x7 x8 x9 x10 x13 none i, some p' :: rest⟩)
  | [], acc, m, p, _, _, hp => ⟨[], p, trivial, hp, by simp [lcGo]⟩
  | j :: js, acc, m, p, h1, h2, hp => by
    rw [List.length_cons] at h1 h2
    obtain ⟨v, p1, a, b, c, hp1, e⟩ := d_gE (s := s) (u := u) (x3 := x3) (x4 := x4) (x5 := x5) (x6 := x6) (x7 := x7) (x8 := x8) (x9 := x9) (x10 := x10) (x13 := x13) (i := i) (j := j) (rest := rest) hp (by omega)
    obtain ⟨vs, p2, ht, hp2, e2⟩ := d_gL js (acc ++ [.int v]) (m + 1) p1 (by simp; omega) (by omega) hp1
    refine ⟨v :: vs, p2, ⟨a, b, c, ht⟩, hp2.up (by rw [List.length_cons]; omega), ?_⟩
    have hs : acc.length < small := by unfold small; omega
    rw [List.map_cons, lcGo, if_pos ⟨by simp, hs⟩]
    rw [show asgT ⟨gsl s u x3 x4 x5 x6 x7 x8 x9 x10 x13 none i, some p :: rest⟩ (.nm 15) (.int (0 + (j : Int))) = some ⟨gsl s u x3 x4 x5 x6 x7 x8 x9 x10 x13 (some (.fz (.int (0 + (j : Int))))) i, some p :: rest⟩ from rfl]
    simp only [Option.bind_some, bYes, if_true, e, frz]
    refine e2.trans ?_
    simp
theorem d_gB {i m : Nat} {p G : List D} {rest : List (Option (List D))} (hs : s ≤ 3) (hi : i < s) (hp : Pool m p) (hm : m ≤ 8000) (hG : G.length ≤ 100) : ∃ vs p', Tr i (List.range s) vs ∧ vs.length = s ∧ Pool (m + 3) p' ∧ gB ⟨gsl s u x3 x4 x5 x6 x7 x8 x9 x10 x13 none i, some p :: some G :: rest⟩ = some (.nx, ⟨gsl s u x3 x4 x5 x6 x7 x8 x9 x10 (some (.rf (2 + rest.length))) none i, some p' :: some (G ++ [rowD (vs.set i 1)]) :: (rest ++ [none])⟩) := by
  let δ : Dl := ⟨gsl s u x3 x4 x5 x6 x7 x8 x9 x10 x13 none i, some p :: some G :: rest⟩
  obtain ⟨vs, p1, ht, hp1, e⟩ := d_gL (s := s) (u := u) (x3 := x3) (x4 := x4) (x5 := x5) (x6 := x6) (x7 := x7) (x8 := x8) (x9 := x9) (x10 := x10) (x13 := x13) (i := i) (rest := some G :: rest) (List.range s) [] m p (by simp; omega) (by simp; omega) hp
  rw [List.length_range] at hp1
  have trl : ∀ (js : List Nat) (vs : List Int), Tr i js vs → vs.length = js.length := by
    intro js
    induction js with
    | nil => intro vs h; cases vs with
      | nil => rfl
      | cons v vs => exact h.elim
    | cons j js ih => intro vs h; cases vs with
      | nil => exact h.elim
      | cons v vs => simp [ih vs h.2.2.2]
  have hl : vs.length = s := by rw [trl _ _ ht, List.length_range]
  have ir := iRg_ (s := s) (f := dVar 1) (δ := δ) (by omega) rfl
  have e1 : dLc true (iRg1 (dVar 1)) (.nm 15) [15] bYes gE δ = some (.rf (2 + rest.length), ⟨δ.sl, some p1 :: some G :: (rest ++ [some (vs.map D.int)])⟩) := by
    rw [dLc, ir, Option.bind_some]
    show (Option.map _ (lcGo [] (.nm 15) [15] bYes gE (gsl s u x3 x4 x5 x6 x7 x8 x9 x10 x13 none i) ((List.range s).map fun j : Nat => D.int (0 + (j : Int))) [] ⟨gsl s u x3 x4 x5 x6 x7 x8 x9 x10 x13 none i, some p :: some G :: rest⟩)) = _
    rw [e, List.nil_append]
    show some (Vl.rf (rest.length + 1 + 1), _) = _
    rw [show rest.length + 1 + 1 = 2 + rest.length by omega]
    rfl
  let δ1 (L : Option (List D)) : Dl := ⟨gsl s u x3 x4 x5 x6 x7 x8 x9 x10 (some (.rf (2 + rest.length))) none i, some p1 :: some G :: (rest ++ [L])⟩
  have s1 : g1 δ = some (.nx, δ1 (some (vs.map D.int))) := (sSet_ e1).trans rfl
  have at_ : ∀ L : Option (List D), (some p1 :: some G :: (rest ++ [L]))[2 + rest.length]? = some L := fun L => by
    rw [show 2 + rest.length = rest.length + 1 + 1 by omega]
    simp
  have set_ : ∀ L K : Option (List D), (some p1 :: some G :: (rest ++ [L])).set (2 + rest.length) K = some p1 :: some G :: (rest ++ [K]) := fun L K => by
    rw [show 2 + rest.length = rest.length + 1 + 1 by omega]
    simp
  have ixn : ixN (vs.map D.int).length (i : Int) = some i := by
    rw [List.length_map, hl]
    simp [ixN, hi]
  have s2 : g2 (δ1 (some (vs.map D.int))) = some (.nx, δ1 (some ((vs.set i 1).map D.int))) := by
    unfold g2 sAsg
    show (Option.map _ (setIx (δ1 (some (vs.map D.int))) (.rf (2 + rest.length)) (.fz (.int i)) (.int 1))) = _
    simp only [setIx, δ1, at_, ixn, Option.map_some, set_, List.map_set]
  have s3 : g3 (δ1 (some ((vs.set i 1).map D.int))) = some (.nx, ⟨gsl s u x3 x4 x5 x6 x7 x8 x9 x10 (some (.rf (2 + rest.length))) none i, some p1 :: some (G ++ [rowD (vs.set i 1)]) :: (rest ++ [none])⟩) := by
    have hG2 : G.length < small := by unfold small; omega
    have v : aCons (dVar 13) aNil (δ1 (some ((vs.set i 1).map D.int))) = some ([.rf (2 + rest.length)], δ1 (some ((vs.set i 1).map D.int))) := rfl
    have fz : frzs (δ1 (some ((vs.set i 1).map D.int))) [.rf (2 + rest.length)] = some ([.lst ((vs.set i 1).map D.int)], δ1 none) := by
      show Option.bind (match (some p1 :: some G :: (rest ++ [some ((vs.set i 1).map D.int)]))[2 + rest.length]? with | some (some ds) => _ | _ => _) _ = _
      rw [at_]
      show Option.bind (some (D.lst _, (⟨_, (some p1 :: some G :: (rest ++ [some ((vs.set i 1).map D.int)])).set (2 + rest.length) none⟩ : Dl))) _ = _
      rw [set_]
      rfl
    unfold g3
    rw [sDrop, dMt, show dVar 11 (δ1 (some ((vs.set i 1).map D.int))) = some (.rf 1, δ1 (some ((vs.set i 1).map D.int))) from rfl, Option.bind_some]
    show (Option.map _ ((aCons (dVar 13) aNil (δ1 (some ((vs.set i 1).map D.int)))).bind _)) = _
    rw [v, Option.bind_some]
    show (Option.map _ ((frzs (δ1 (some ((vs.set i 1).map D.int))) [.rf (2 + rest.length)]).bind _)) = _
    rw [fz, Option.bind_some]
    show (Option.map _ (Option.map _ (appD [.lst ((vs.set i 1).map D.int)] G))) = _
    simp only [appD, hG2, if_true, Option.map_some]
    rfl
  refine ⟨vs, p1, ht, hl, hp1.up (by omega), ?_⟩
  show gB δ = _
  unfold gB
  rw [sSeq_nx s1, sSeq_nx s2, s3]
theorem tri1 {vs : List Int} {i : Nat} (h : Tr i (List.range 1) vs) : ∃ a, vs = [a] := by
  match vs, h with
  | [a], _ => exact ⟨a, rfl⟩
theorem tri2 {vs : List Int} {i : Nat} (h : Tr i (List.range 2) vs) : ∃ a b, vs = [a, b] ∧ (1 ≤ i → b = 0) ∧ a = 0 ∧ (0 ≤ b ∧ b < 9) := by
  match vs, h with
  | [a, b], ⟨h1, h2, h3, h4, h5, h6, _⟩ => exact ⟨a, b, rfl, h4, h1 (Nat.zero_le _), h5, h6⟩
theorem tri3 {vs : List Int} {i : Nat} (h : Tr i (List.range 3) vs) : ∃ a b c, vs = [a, b, c] ∧ (1 ≤ i → b = 0) ∧ (2 ≤ i → c = 0) ∧ a = 0 ∧ (0 ≤ b ∧ b < 9) ∧ (0 ≤ c ∧ c < 9) := by
  match vs, h with
  | [a, b, c], ⟨h1, h2, h3, h4, h5, h6, h7, h8, h9, _⟩ => exact ⟨a, b, c, rfl, h4, h7, h1 (Nat.zero_le _), ⟨h5, h6⟩, ⟨h8, h9⟩⟩
/-- all the rows -/
theorem d_good {m : Nat} {p : List D} (hs : s = 1 ∨ s = 2 ∨ s = 3) (hp : Pool m p) (hm : m ≤ 7000) : ∃ L p' y12 y13 rest, Sq s L ∧ Sms 120 L ∧ volN s L 1 1 = 1 ∧ Pool (m + 9) p' ∧ forD [] (.nm 12) gB (rangeD 0 s) (rS s u x3 x4 x5 x6 x7 x8 x9 x10 (some (.rf 1)) none none [some p, some []]) = some (.nx, rS s u x3 x4 x5 x6 x7 x8 x9 x10 (some (.rf 1)) y12 y13 (some p' :: some (L.map rowD) :: rest)) := by
  have b1 : (1 : Nat) < 2 ^ 120 := by decide
  rcases hs with rfl | rfl | rfl
  · obtain ⟨vs, p1, ht, hl, hp1, e1⟩ := d_gB (s := 1) (u := u) (x3 := x3) (x4 := x4) (x5 := x5) (x6 := x6) (x7 := x7) (x8 := x8) (x9 := x9) (x10 := x10) (x13 := none) (i := 0) (G := []) (rest := []) (by decide) (by decide) hp (by omega) (by simp)
    obtain ⟨a, rfl⟩ := tri1 ht
    refine ⟨[[1]], p1, some (.fz (.int (0 : Nat))), some (.rf 2), [none], ⟨rfl, fun r hr => by rw [List.mem_singleton.mp hr]; rfl⟩, fun r hr x hx => by rw [List.mem_singleton.mp hr] at hx; rw [List.mem_singleton.mp hx]; exact b1, by rw [vol1]; rfl, hp1.up (by omega), ?_⟩
    exact forD_nm e1 forD_nil0
  · obtain ⟨vs, p1, ht, hl, hp1, e1⟩ := d_gB (s := 2) (u := u) (x3 := x3) (x4 := x4) (x5 := x5) (x6 := x6) (x7 := x7) (x8 := x8) (x9 := x9) (x10 := x10) (x13 := none) (i := 0) (G := []) (rest := []) (by decide) (by decide) hp (by omega) (by simp)
    obtain ⟨a, b, rfl, _, _, b2⟩ := tri2 ht
    obtain ⟨ws, p2, ht2, hl2, hp2, e2⟩ := d_gB (s := 2) (u := u) (x3 := x3) (x4 := x4) (x5 := x5) (x6 := x6) (x7 := x7) (x8 := x8) (x9 := x9) (x10 := x10) (x13 := some (.rf 2)) (i := 1) (G := [rowD [1, b]]) (rest := [none]) (by decide) (by decide) hp1 (by omega) (by simp)
    obtain ⟨c, d, rfl, _, c0, _⟩ := tri2 ht2
    subst c0
    refine ⟨[[1, b], [0, 1]], p2, some (.fz (.int (1 : Nat))), some (.rf 3), [none, none], ⟨rfl, fun r hr => ?_⟩, fun r hr x hx => ?_, by rw [vol2']; grind, hp2.up (by omega), ?_⟩
    · simp only [List.mem_cons, List.not_mem_nil, or_false] at hr
      rcases hr with rfl | rfl <;> rfl
    · simp only [List.mem_cons, List.not_mem_nil, or_false] at hr
      rcases hr with rfl | rfl <;> simp only [List.mem_cons, List.not_mem_nil, or_false] at hx <;> rcases hx with rfl | rfl <;> omega
    · exact forD_nm e1 (forD_nm e2 forD_nil0)
  · obtain ⟨vs, p1, ht, hl, hp1, e1⟩ := d_gB (s := 3) (u := u) (x3 := x3) (x4 := x4) (x5 := x5) (x6 := x6) (x7 := x7) (x8 := x8) (x9 := x9) (x10 := x10) (x13 := none) (i := 0) (G := []) (rest := []) (by decide) (by decide) hp (by omega) (by simp)
    obtain ⟨a, b, c, rfl, _, _, _, b2, c2⟩ := tri3 ht
    obtain ⟨ws, p2, ht2, hl2, hp2, e2⟩ := d_gB (s := 3) (u := u) (x3 := x3) (x4 := x4) (x5 := x5) (x6 := x6) (x7 := x7) (x8 := x8) (x9 := x9) (x10 := x10) (x13 := some (.rf 2)) (i := 1) (G := [rowD [1, b, c]]) (rest := [none]) (by decide) (by decide) hp1 (by omega) (by simp)
    obtain ⟨d, e, f, rfl, _, _, d0, _, f2⟩ := tri3 ht2
    obtain ⟨zs, p3, ht3, hl3, hp3, e3⟩ := d_gB (s := 3) (u := u) (x3 := x3) (x4 := x4) (x5 := x5) (x6 := x6) (x7 := x7) (x8 := x8) (x9 := x9) (x10 := x10) (x13 := some (.rf 3)) (i := 2) (G := [rowD [1, b, c], rowD [d, 1, f]]) (rest := [none, none]) (by decide) (by decide) hp2 (by omega) (by simp)
    obtain ⟨g, h, k, rfl, h0, _, g0, _, _⟩ := tri3 ht3
    have h0 := h0 (by decide)
    subst d0 g0 h0
    refine ⟨[[1, b, c], [0, 1, f], [0, 0, 1]], p3, some (.fz (.int (2 : Nat))), some (.rf 4), [none, none, none], ⟨rfl, fun r hr => ?_⟩, fun r hr x hx => ?_, by rw [vol3, det3]; grind, hp3.up (by omega), ?_⟩
    · simp only [List.mem_cons, List.not_mem_nil, or_false] at hr
      rcases hr with rfl | rfl | rfl <;> rfl
    · simp only [List.mem_cons, List.not_mem_nil, or_false] at hr
      rcases hr with rfl | rfl | rfl <;> simp only [List.mem_cons, List.not_mem_nil, or_false] at hx <;> rcases hx with rfl | rfl | rfl <;> omega
    · exact forD_nm e1 (forD_nm e2 (forD_nm e3 forD_nil0))
end
end K03
set_option maxHeartbeats 0
namespace K03
open PySem L2 PK
/-! ### the law's own case: the other parts -/
section
variable {s m : Nat} {u : Int} {p : List D} {x3 x4 x5 x6 x7 x8 x9 x10 x11 x12 x13 : Option Vl}
theorem d_r8L (hs : s = 1 ∨ s = 2 ∨ s = 3) {st : List (Option (List D))} : r8L (rS s u x3 x4 x5 x6 x7 x8 x9 x10 x11 x12 x13 st) = some (.fz (.lst ((([1, 2, 3] : List Int).filter fun x => !(x == (s : Int))).map D.int)), rS s u x3 x4 x5 x6 x7 x8 x9 x10 x11 x12 x13 st) := by
  let δ := rS s u x3 x4 x5 x6 x7 x8 x9 x10 x11 x12 x13 st
  have e := lcGo_fil (ck := []) (own := [14]) (test := dB (dOp (eqD true) (dVar 14) (dVar 1))) (elt := dVar 14) (i := 14) (sl := δ.sl) (st := st) (en := D.int) (out := D.int) (keep := fun x => !(x == (s : Int))) (by simp) [1, 2, 3] [] (by simp [small]) fun x _ => ⟨(δ.sl.set 14 (some (.fz (.int x)))), dB_ ((dOp_ (g := eqD true) (fa := dVar 14) (fb := dVar 1) (δ := ⟨δ.sl.set 14 (some (.fz (.int x))), st⟩) (x := .fz (.int x)) (y := .fz (.int s)) rfl rfl rfl rfl).trans eqD_int), fun _ => ⟨δ.sl.set 14 (some (.fz (.int x))), rfl⟩⟩
  have it : iTupD (dTup (aCons (dC (.int 1)) (aCons (dC (.int 2)) (aCons (dC (.int 3)) aNil)))) δ = some ([1, 2, 3].map D.int, [], δ) := rfl
  show r8L δ = _
  unfold r8L
  rw [dLc, it, Option.bind_some]
  show (Option.map _ (lcGo [] (.nm 14) [14] _ (dVar 14) δ.sl _ [] ⟨δ.sl, st⟩)) = _
  rw [e]
  rfl
theorem d_r8 (hs : s = 1 ∨ s = 2 ∨ s = 3) (hp : Pool m p) (hm : m ≤ 9000) : ∃ (t : Nat) (p' : List D), (t = 1 ∨ t = 2 ∨ t = 3) ∧ t ≠ s ∧ Pool (m + 1) p' ∧ r8 (rS s u x3 x4 x5 x6 x7 x8 x9 x10 x11 x12 x13 [some p]) = some (.nx, rS s u x3 x4 x5 x6 x7 (some (.fz (.int t))) x9 x10 x11 x12 x13 [some p']) := by
  obtain ⟨k, p1, e1, k0, k1, hp1⟩ := g_draw (many := 2) hp (by decide) (by decide) (by omega)
  have eL := d_r8L (u := u) (x3 := x3) (x4 := x4) (x5 := x5) (x6 := x6) (x7 := x7) (x8 := x8) (x9 := x9) (x10 := x10) (x11 := x11) (x12 := x12) (x13 := x13) (st := [some p]) hs
  have e2 := cl1 (G := G_law_draw) (m := false) (n := 2) (fa := aCons (dVar 0) (aCons (dC (.int 2)) aNil)) (δ := rS s u x3 x4 x5 x6 x7 x8 x9 x10 x11 x12 x13 [some p]) (k := 0) rfl rfl rfl rfl e1
  have z := dOp_ (g := ixD) eL e2 rfl rfl
  have fin : ∀ t : Nat, ixD (rS s u x3 x4 x5 x6 x7 x8 x9 x10 x11 x12 x13 [some p1]) (.lst ((([1, 2, 3] : List Int).filter fun x => !(x == (s : Int))).map D.int)) (.int k) = some (.fz (.int t), rS s u x3 x4 x5 x6 x7 x8 x9 x10 x11 x12 x13 [some p1]) → r8 (rS s u x3 x4 x5 x6 x7 x8 x9 x10 x11 x12 x13 [some p]) = some (.nx, rS s u x3 x4 x5 x6 x7 (some (.fz (.int t))) x9 x10 x11 x12 x13 [some p1]) := fun t h => (sSet_ (z.trans h)).trans rfl
  rcases hs with rfl | rfl | rfl
  · rcases (show k = 0 ∨ k = 1 by omega) with rfl | rfl
    · exact ⟨2, p1, by decide, by decide, hp1, fin 2 rfl⟩
    · exact ⟨3, p1, by decide, by decide, hp1, fin 3 rfl⟩
  · rcases (show k = 0 ∨ k = 1 by omega) with rfl | rfl
    · exact ⟨1, p1, by decide, by decide, hp1, fin 1 rfl⟩
    · exact ⟨3, p1, by decide, by decide, hp1, fin 3 rfl⟩
  · rcases (show k = 0 ∨ k = 1 by omega) with rfl | rfl
    · exact ⟨1, p1, by decide, by decide, hp1, fin 1 rfl⟩
    · exact ⟨2, p1, by decide, by decide, hp1, fin 2 rfl⟩
/-- a matrix as the program keeps it -/
structure Mx (s : Nat) (d : D) : Prop where
  ex : ∃ (A : List (List Int)) (a : Int), d = matD A a ∧ Sq s A ∧ Sms 200 A ∧ 1 ≤ a ∧ a.natAbs < 2 ^ 200
theorem mx_of {s : Nat} {M : List (List Int)} {u : Int} (h : Sq s M) (hs : Sms 120 M) (hu : 1 ≤ u) (hu2 : u.natAbs < 2 ^ 110) : Mx s (matD (lr M u) (lb M u)) := by
  obtain ⟨a, b⟩ := lb_pos (M := M) hu
  refine ⟨lr M u, lb M u, rfl, sq_lr h, sms_up (sms_lr hs) (by decide), a, ?_⟩
  have : (2 : Nat) ^ 110 ≤ 2 ^ 200 := Nat.pow_le_pow_right (by decide) (by decide)
  omega
theorem d_mk {t m : Nat} {u : Int} {p : List D} {fe fu : EF} {δ : Dl} {δ' : List D → Dl} (ht : t = 1 ∨ t = 2 ∨ t = 3) (hu : 1 ≤ u) (hu2 : u.natAbs < 2 ^ 110) (hp : Pool m p) (hm : m ≤ 6000)
    (ea : ∀ (es : List D) (p' : List D), G_law_lines [.rf 0, .fz (.int t)] [p] = some (.fresh es, [p']) → fe δ = some (.fz (.lst es), δ' p')) (eu : ∀ p', fu (δ' p') = some (.fz (.int u), δ' p')) : ∃ d p', Mx t d ∧ Pool (m + 60) p' ∧ dMake "Matrix" 3 G_Matrix_init (aCons fe (aCons fu aNil)) δ = some (.fz d, δ' p') := by
  obtain ⟨M, p1, e1, hq, hs1, hp1⟩ := g_lines (s := t) (by omega) hp (by omega)
  have e := aC (ea _ _ e1) (aC (eu p1) (g := aNil) rfl)
  have b1 : (2 : Nat) ^ 110 ≤ 2 ^ 4000 := Nat.pow_le_pow_right (by decide) (by decide)
  exact ⟨_, p1, mx_of hq (sms_up hs1 (by decide)) hu hu2, hp1, mkM (s := t) (by omega) (by omega) hq hu (Nat.lt_of_lt_of_le hu2 b1) (sms_up hs1 (by decide)) e⟩
theorem d_r9 (hs : s = 1 ∨ s = 2 ∨ s = 3) {t : Nat} (ht : t = 1 ∨ t = 2 ∨ t = 3) (hu : 1 ≤ u) (hu2 : u.natAbs < 2 ^ 110) (hp : Pool m p) (hm : m ≤ 5000) : ∃ d e p', Mx s d ∧ Mx t e ∧ Pool (m + 120) p' ∧ r9 (rS s u x3 x4 x5 x6 x7 (some (.fz (.int t))) x9 x10 x11 x12 x13 [some p]) = some (.nx, rS s u x3 x4 x5 x6 x7 (some (.fz (.int t))) (some (.fz d)) (some (.fz e)) x11 x12 x13 [some p']) := by
  let δ (p : List D) := rS s u x3 x4 x5 x6 x7 (some (.fz (.int t))) x9 x10 x11 x12 x13 [some p]
  obtain ⟨d, p1, md, hp1, e1⟩ := d_mk (fe := dCallN false 2 G_law_lines (aCons (dVar 0) (aCons (dVar 1) aNil))) (fu := dVar 2) (δ := δ p) (δ' := δ) hs hu hu2 hp (by omega) (fun es p' h => cl1f (G := G_law_lines) (m := false) (n := 2) (fa := aCons (dVar 0) (aCons (dVar 1) aNil)) (δ := δ p) (k := 0) rfl rfl rfl rfl h) (fun _ => rfl)
  obtain ⟨e, p2, me, hp2, e2⟩ := d_mk (u := 2) (fe := dCallN false 2 G_law_lines (aCons (dVar 0) (aCons (dVar 8) aNil))) (fu := dC (.int 2)) (δ := δ p1) (δ' := δ) ht (by decide) (by decide) hp1 (by omega) (fun es p' h => cl1f (G := G_law_lines) (m := false) (n := 2) (fa := aCons (dVar 0) (aCons (dVar 8) aNil)) (δ := δ p1) (k := 0) rfl rfl rfl rfl h) (fun _ => rfl)
  refine ⟨d, e, p2, md, me, hp2.up (by omega), ?_⟩
  unfold r9
  exact (sPar2 (aC e1 (aC e2 (g := aNil) rfl))).trans rfl
theorem d_r10 (hs : s = 1 ∨ s = 2 ∨ s = 3) {t : Nat} (ht : t = 1 ∨ t = 2 ∨ t = 3) (hts : t ≠ s) {d e : D} (hd : Mx s d) (he : Mx t e) {st : List (Option (List D))} : r10 (rS s u x3 x4 x5 x6 x7 x8 (some (.fz d)) (some (.fz e)) x11 x12 x13 st) = some (.nx, rS s u x3 x4 x5 x6 x7 x8 (some (.fz d)) (some (.fz e)) x11 x12 x13 st) := by
  obtain ⟨A, a, rfl, qA, sA, a1, a2⟩ := hd
  obtain ⟨B, b, rfl, qB, sB, b1, b2⟩ := he
  let δ := rS s u x3 x4 x5 x6 x7 x8 (some (.fz (matD A a))) (some (.fz (matD B b))) x11 x12 x13 st
  have w : (2 : Nat) ^ 200 ≤ 2 ^ 1000 := Nat.pow_le_pow_right (by decide) (by decide)
  have g1 := g_after_ex (s := s) (t := t) (a := a) (b := b) (by omega) (by omega) qA qB hts
  have g2 := g_after_ok (s := s) (by omega) (by omega) qA qA (sms_up sA (by decide)) (sms_up sA (by decide)) a1 a1 (Nat.lt_of_lt_of_le a2 w) (Nat.lt_of_lt_of_le a2 w)
  have k1 := cl0 (G := G_law_caught) (m := false) (n := 3) (fa := aCons (dC (.int 1)) (aCons (dVar 9) (aCons (dVar 10) aNil))) (δ := δ) rfl rfl rfl g1
  have k2 := cl0 (G := G_law_caught) (m := false) (n := 3) (fa := aCons (dC (.int 1)) (aCons (dVar 9) (aCons (dVar 9) aNil))) (δ := δ) rfl rfl rfl g2
  have ln := ln_f (R := B) (b := b) (by have := qB.1; omega) (fo := dVar 10) (δ := δ) rfl
  rw [qB.1] at ln
  have e0 : oN δ = some (.fz (.tup [.str "other", .int t]), δ) := by
    unfold oN
    rw [dTup, aC (f := dC (.str "other")) rfl (aC ln (g := aNil) rfl)]
    rfl
  have t1 := dB_ ((dOp_ (g := eqD true) k1 e0 rfl rfl).trans (eqD_self (neg := true) (nice_wI okOt _) (by decide)))
  have t2 : dB (dOp notND (dCallN false 3 G_law_caught (aCons (dC (.int 1)) (aCons (dVar 9) (aCons (dVar 9) aNil)))) (dC .non)) δ = some (false, δ) := dB_ ((dOp_ (g := notND) (fb := dC .non) k2 rfl rfl rfl).trans rfl)
  show r10 δ = _
  unfold r10
  rw [sIf_ (bOr_ff t1 t2)]
  rfl
theorem d_r11 (hs : s = 1 ∨ s = 2 ∨ s = 3) (hu : 1 ≤ u) (hu2 : u.natAbs < 2 ^ 110) (hp : Pool m p) (hm : m ≤ 5000) : ∃ p', Pool (m + 70) p' ∧ r11 (rS s u x3 x4 x5 x6 x7 x8 x9 x10 x11 x12 x13 [some p]) = some (.nx, rS s u x3 x4 x5 x6 x7 x8 x9 x10 x11 x12 x13 [some p']) := by
  obtain ⟨M, p1, e1, hq, hs1, hv, hp1⟩ := g_flat (s := s) hs hp (by omega)
  let δ (p : List D) := rS s u x3 x4 x5 x6 x7 x8 x9 x10 x11 x12 x13 [some p]
  have k1 : dCallN false 2 G_law_flat (aCons (dVar 0) (aCons (dVar 1) aNil)) (δ p) = some (.fz (mD M), δ p1) := cl1f (G := G_law_flat) (m := false) (n := 2) (fa := aCons (dVar 0) (aCons (dVar 1) aNil)) (δ := δ p) (k := 0) rfl rfl rfl rfl e1
  have b1 : (2 : Nat) ^ 110 ≤ 2 ^ 4000 := Nat.pow_le_pow_right (by decide) (by decide)
  have k2 : r11M (δ p) = some (.fz (matD (lr M u) (lb M u)), δ p1) := mkM (s := s) (by omega) (by omega) hq hu (Nat.lt_of_lt_of_le hu2 b1) (sms_up hs1 (by decide)) (aC k1 (aC (f := dVar 2) (r := .fz (.int u)) (δ := δ p1) (δ1 := δ p1) rfl (rfl : aNil (δ p1) = some ([], δ p1))))
  have g := g_inv_ex (x := .non) (b := lb M u) (e := 120) (by omega) (sq_lr (b := u) hq) (sms_lr hs1) (by decide) ((vol_lr hs hq hu).mpr hv)
  have k3 := cl0 (G := G_law_caught) (m := false) (n := 3) (aC (f := dC (.int 2)) (r := .fz (.int 2)) (δ := δ p) (δ1 := δ p) rfl (aC k2 (aC (f := dC .non) (r := .fz .non) (δ := δ p1) (δ1 := δ p1) rfl (rfl : aNil (δ p1) = some ([], δ p1))))) rfl rfl g
  have e0 : sN (δ p1) = some (.fz (.tup [.str "singular", .non]), δ p1) := rfl
  have t := dB_ ((dOp_ (g := eqD true) k3 e0 rfl rfl).trans (eqD_self (neg := true) (nice_wN okSi) (by decide)))
  refine ⟨p1, hp1, ?_⟩
  show r11 (δ p) = _
  unfold r11
  rw [sIf_ t]
  rfl
theorem d_last (hs : s = 1 ∨ s = 2 ∨ s = 3) (hu : 1 ≤ u) (hu2 : u.natAbs < 2 ^ 110) (hp : Pool m p) (hm : m ≤ 5000) : ∃ p' sl2 rest, Pool (m + 9) p' ∧ sSeq (sSet 11 (dLst true aNil)) (sSeq (sFor (iRg1 (dVar 1)) (.nm 12) gB) r14) (rS s u x3 x4 x5 x6 x7 x8 x9 x10 none none none [some p]) = some (.rt (.fz (.bl true)), ⟨sl2, some p' :: rest⟩) := by
  obtain ⟨L, p1, y12, y13, rest, hq, hs1, hv, hp1, e⟩ := d_good (u := u) (x3 := x3) (x4 := x4) (x5 := x5) (x6 := x6) (x7 := x7) (x8 := x8) (x9 := x9) (x10 := x10) hs hp (by omega)
  let δ0 := rS s u x3 x4 x5 x6 x7 x8 x9 x10 none none none [some p]
  let δ1 := rS s u x3 x4 x5 x6 x7 x8 x9 x10 (some (.rf 1)) none none [some p, some []]
  let δ2 := rS s u x3 x4 x5 x6 x7 x8 x9 x10 (some (.rf 1)) y12 y13 (some p1 :: some (L.map rowD) :: rest)
  let δ3 := rS s u x3 x4 x5 x6 x7 x8 x9 x10 (some (.fz (mD L))) y12 y13 (some p1 :: none :: rest)
  have s1 : sSet 11 (dLst true aNil) δ0 = some (.nx, δ1) := rfl
  have ir := iRg_ (s := s) (f := dVar 1) (δ := δ1) (by omega) rfl
  have s2 : sFor (iRg1 (dVar 1)) (.nm 12) gB δ1 = some (.nx, δ2) := by
    rw [sFor, ir]
    exact e
  have fz : dFrzV 11 δ2 = some (.fz (mD L), δ3) := rfl
  have b1 : (2 : Nat) ^ 110 ≤ 2 ^ 4000 := Nat.pow_le_pow_right (by decide) (by decide)
  have b3 : (2 : Nat) ^ 110 ≤ 2 ^ 499 := Nat.pow_le_pow_right (by decide) (by decide)
  obtain ⟨a1, a2⟩ := lb_pos (M := L) hu
  have k2 := mkM (s := s) (by omega) (by omega) hq hu (Nat.lt_of_lt_of_le hu2 b1) (sms_up hs1 (by decide)) (aC fz (aC (f := dVar 2) (r := .fz (.int u)) (δ := δ3) (δ1 := δ3) rfl (rfl : aNil δ3 = some ([], δ3))))
  have g := g_inv_ok (x := .non) (b := lb L u) (e := 120) (s := s) (by omega) (by omega) (sq_lr (b := u) hq) (sms_lr hs1) (by decide) a1 (by omega) (fun h => by
    have := (vol_lr hs hq hu).mp h
    rw [hv] at this
    exact absurd this (by decide))
  have k3 := cl0 (G := G_law_caught) (m := false) (n := 3) (aC (f := dC (.int 2)) (r := .fz (.int 2)) (δ := δ2) (δ1 := δ2) rfl (aC k2 (aC (f := dC .non) (r := .fz .non) (δ := δ3) (δ1 := δ3) rfl (rfl : aNil δ3 = some ([], δ3))))) rfl rfl g
  have t := (dOp_ (g := isND) (fb := dC .non) k3 rfl rfl rfl).trans (show _ = some (.fz (.bl true), δ3) from rfl)
  refine ⟨p1, δ3.sl, none :: rest, hp1, ?_⟩
  show sSeq _ _ δ0 = _
  rw [sSeq_nx s1, sSeq_nx s2]
  unfold r14
  rw [sRet, t]
  rfl
end
theorem g_right {m : Nat} {p : List D} (hp : Pool m p) (hm : m ≤ 4000) : ∃ p', G_law_right [.rf 0] [p] = some (.val (.bl true), [p']) ∧ Pool (m + 400) p' := by
  obtain ⟨k, p1, e1, k0, k1, hp1⟩ := g_draw (many := 3) hp (by decide) (by decide) (by omega)
  obtain ⟨u, p2, e2, u1, u2, hp2⟩ := g_under hp1 (by omega)
  obtain ⟨s, hsk⟩ : ∃ s : Nat, 1 + k = (s : Int) := ⟨(1 + k).toNat, by omega⟩
  have hs : s = 1 ∨ s = 2 ∨ s = 3 := by omega
  let z (x1 x2 : Option Vl) (p : List D) : Dl := ⟨[some (.rf 0), x1, x2, none, none, none, none, none, none, none, none, none, none, none, none, none], [some p]⟩
  have a1 := cl1 (G := G_law_draw) (m := false) (n := 2) (fa := aCons (dVar 0) (aCons (dC (.int 3)) aNil)) (δ := z none none p) (k := 0) rfl rfl rfl rfl e1
  have a2 : dOp (addD false) (dC (.int 1)) (dCallN false 2 G_law_draw (aCons (dVar 0) (aCons (dC (.int 3)) aNil))) (z none none p) = some (.fz (.int s), z none none p1) := by
    rw [← hsk]
    exact (dOp_ (g := addD false) (fa := dC (.int 1)) (x := .fz (.int 1)) rfl a1 rfl rfl).trans rfl
  have a3 := cl1 (G := G_law_under) (m := false) (n := 1) (fa := aCons (dVar 0) aNil) (δ := z none none p1) (k := 0) rfl rfl rfl rfl e2
  have s1 : r1 (z none none p) = some (.nx, rS s u none none none none none none none none none none none [some p2]) := by
    have t : dTup (aCons (dOp (addD false) (dC (.int 1)) (dCallN false 2 G_law_draw (aCons (dVar 0) (aCons (dC (.int 3)) aNil)))) (aCons (dCallN false 1 G_law_under (aCons (dVar 0) aNil)) aNil)) (z none none p) = some (.fz (.tup [.int s, .int u]), z none none p2) := by
      rw [dTup, aC a2 (aC a3 (g := aNil) rfl)]
      rfl
    unfold r1 sAsg
    rw [t]
    rfl
  obtain ⟨M, p3, e3, hq, hs1, hp3⟩ := g_lines (s := s) (by omega) hp2 (by omega)
  have hM : Rws s 3 M := ⟨hq.1, fun r hr => by rw [hq.2 r hr]; omega, sms_up hs1 (by decide)⟩
  obtain ⟨N, p4, e4, hN, hp4⟩ := g_spoilt (s := s) (by omega) (by omega) hM hp3 (by omega)
  let y (p : List D) := rS s u none none none none none none none none none none none [some p]
  have c1 : dCallN false 2 G_law_lines (aCons (dVar 0) (aCons (dVar 1) aNil)) (y p2) = some (.fz (mD M), y p3) := cl1f (G := G_law_lines) (m := false) (n := 2) (fa := aCons (dVar 0) (aCons (dVar 1) aNil)) (δ := y p2) (k := 0) rfl rfl rfl rfl e3
  have c2 : dCallN false 2 G_law_spoilt (aCons (dVar 0) (aCons (dCallN false 2 G_law_lines (aCons (dVar 0) (aCons (dVar 1) aNil))) aNil)) (y p2) = some (.fz (.lst [mD N, wD N]), y p4) := cl1f (G := G_law_spoilt) (m := false) (n := 2) (k := 0) (aC (f := dVar 0) (r := .rf 0) (δ := y p2) (δ1 := y p2) rfl (aC c1 (rfl : aNil (y p3) = some ([], y p3)))) rfl rfl rfl e4
  have s2 : r2 (y p2) = some (.nx, rS s u (some (.fz (mD N))) (some (.fz (wD N))) none none none none none none none none none [some p4]) := by
    unfold r2 sAsg
    rw [c2]
    rfl
  have w1 : (2 : Nat) ^ 110 ≤ 2 ^ 390 := Nat.pow_le_pow_right (by decide) (by decide)
  obtain ⟨y5, y7, s3⟩ := d_first (u := u) (st := [some p4]) (by omega) (by omega) u1 (Nat.lt_of_lt_of_le u2 w1) hN
  obtain ⟨t, p5, ht, hts, hp5, s4⟩ := d_r8 (u := u) (x3 := some (.fz (mD N))) (x4 := some (.fz (wD N))) (x5 := y5) (x6 := some (.fz (dueD N))) (x7 := y7) (x8 := none) (x9 := none) (x10 := none) (x11 := none) (x12 := none) (x13 := none) hs hp4 (by omega)
  obtain ⟨d, e, p6, md, me, hp6, s5⟩ := d_r9 (u := u) (x3 := some (.fz (mD N))) (x4 := some (.fz (wD N))) (x5 := y5) (x6 := some (.fz (dueD N))) (x7 := y7) (x9 := none) (x10 := none) (x11 := none) (x12 := none) (x13 := none) hs ht u1 u2 hp5 (by omega)
  have s6 := d_r10 (u := u) (x3 := some (.fz (mD N))) (x4 := some (.fz (wD N))) (x5 := y5) (x6 := some (.fz (dueD N))) (x7 := y7) (x8 := some (.fz (.int t))) (x11 := none) (x12 := none) (x13 := none) (st := [some p6]) hs ht hts md me
  obtain ⟨p7, hp7, s7⟩ := d_r11 (u := u) (x3 := some (.fz (mD N))) (x4 := some (.fz (wD N))) (x5 := y5) (x6 := some (.fz (dueD N))) (x7 := y7) (x8 := some (.fz (.int t))) (x9 := some (.fz d)) (x10 := some (.fz e)) (x11 := none) (x12 := none) (x13 := none) hs u1 u2 hp6 (by omega)
  obtain ⟨p8, sl2, rest, hp8, s8⟩ := d_last (u := u) (x3 := some (.fz (mD N))) (x4 := some (.fz (wD N))) (x5 := y5) (x6 := some (.fz (dueD N))) (x7 := y7) (x8 := some (.fz (.int t))) (x9 := some (.fz d)) (x10 := some (.fz e)) hs u1 u2 hp7 (by omega)
  have join5 : ∀ {a b c d e k : SF} {δ δ' : Dl}, sSeq a (sSeq b (sSeq c (sSeq d e))) δ = some (.nx, δ') → sSeq a (sSeq b (sSeq c (sSeq d (sSeq e k)))) δ = k δ' := by
    intro a b c d e k δ δ' h
    simp only [sSeq] at h ⊢
    revert h
    cases a δ with
    | none => intro h; cases h
    | some v =>
      obtain ⟨f1, δ1⟩ := v
      simp only [Option.bind_some]
      cases f1 <;> simp only <;> try (intro h; cases h)
      cases b δ1 with
      | none => intro h; cases h
      | some v =>
        obtain ⟨f2, δ2⟩ := v
        simp only [Option.bind_some]
        cases f2 <;> simp only <;> try (intro h; cases h)
        cases c δ2 with
        | none => intro h; cases h
        | some v =>
          obtain ⟨f3, δ3⟩ := v
          simp only [Option.bind_some]
          cases f3 <;> simp only <;> try (intro h; cases h)
          cases d δ3 with
          | none => intro h; cases h
          | some v =>
            obtain ⟨f4, δ4⟩ := v
            simp only [Option.bind_some]
            cases f4 <;> simp only <;> try (intro h; cases h)
            intro h
            rw [h]
            rfl
  refine ⟨p8, ?_, hp8.up (by omega)⟩
  unfold G_law_right fnD
  rw [f_law_right_eq]
  show ((sSeq r1 _ (z none none p)).bind _) = _
  rw [sSeq_nx s1, sSeq_nx s2, join5 s3, sSeq_nx s4, sSeq_nx s5, sSeq_nx s6, sSeq_nx s7, s8]
  rfl
end K03
set_option maxHeartbeats 0
namespace K03
open PySem L2 PK PySem.Spec
/-! ### the law -/
noncomputable def lI : IF := (iRg1 (dCB maxD (aCons (dC (.int 1)) (aCons (dCB minD (aCons (dC (.int 6)) (aCons (dCB lenD (aCons (dVar 0) aNil)) aNil))) aNil))))
noncomputable def lwC : SF := (sIf (bNot (dB (dCallN false 1 G_law_right (aCons (dVar 2) aNil)))) (sRet (dC (.bl false))) sNext)
noncomputable def lwB : SF := (sSeq (sSet 2 (dCallN true 2 G_law_pool (aCons (dVar 0) (aCons (dVar 1) aNil)))) (sFor (iRg1 (dC (.int 5))) (.nm 3) lwC))
theorem f_law_eq : f_law = sSeq (sFor lI (.nm 1) lwB) (sRet (dC (.bl true))) := rfl
def lw (ns : List Int) (x1 x3 : Option Vl) (st : List (Option (List D))) (p : List D) : Dl := ⟨[some (.fz (.scr ns)), x1, some (.rf st.length), x3], st ++ [some p]⟩
theorem d_lwC {ns : List Int} {m : Nat} {x1 x3 : Option Vl} {st : List (Option (List D))} {p : List D} (hp : Pool m p) (hm : m ≤ 4000) : ∃ p', Pool (m + 400) p' ∧ lwC (lw ns x1 x3 st p) = some (.nx, lw ns x1 x3 st p') := by
  obtain ⟨p1, e1, hp1⟩ := g_right hp hm
  have f1 := cl1 (G := G_law_right) (m := false) (n := 1) (fa := aCons (dVar 2) aNil) (δ := lw ns x1 x3 st p) (δ' := lw ns x1 x3 st p) (rs := [.rf st.length]) (k := st.length) rfl rfl rfl (by simp [lw]) e1
  refine ⟨p1, hp1, ?_⟩
  unfold lwC
  rw [sIf_ (bNot_ (dB_ f1))]
  show some (Fl.nx, (⟨_, (st ++ [some p]).set st.length (some p1)⟩ : Dl)) = _
  simp [lw]
theorem d_lwB {ns : List Int} {i : Nat} (hi : i ≤ 10) {x2 x3 : Option Vl} {st : List (Option (List D))} : ∃ st' y2 y3, lwB ⟨[some (.fz (.scr ns)), some (.fz (.int i)), x2, x3], st⟩ = some (.nx, ⟨[some (.fz (.scr ns)), some (.fz (.int i)), y2, y3], st'⟩) := by
  obtain ⟨p, e1, hp⟩ := g_pool (ns := ns) hi
  have e2 := cl0f (G := G_law_pool) (m := true) (n := 2) (fa := aCons (dVar 0) (aCons (dVar 1) aNil)) (δ := ⟨[some (.fz (.scr ns)), some (.fz (.int i)), x2, x3], st⟩) rfl rfl rfl e1
  have s1 : sSet 2 (dCallN true 2 G_law_pool (aCons (dVar 0) (aCons (dVar 1) aNil))) ⟨[some (.fz (.scr ns)), some (.fz (.int i)), x2, x3], st⟩ = some (.nx, lw ns (some (.fz (.int i))) x3 st p) := by
    rw [sSet_ e2]
    rfl
  have loop : ∀ (T : List D) (m : Nat) (x3 : Option Vl) (p : List D), T.length ≤ 10 → m + 400 * T.length ≤ 4000 → Pool m p → ∃ p' y3, forD [] (.nm 3) lwC T (lw ns (some (.fz (.int i))) x3 st p) = some (.nx, lw ns (some (.fz (.int i))) y3 st p') := by
    intro T
    induction T with
    | nil => intro m x3 p _ _ _; exact ⟨p, x3, forD_nil0⟩
    | cons d T ih =>
      intro m x3 p h1 h2 hp
      rw [List.length_cons] at h1 h2
      obtain ⟨p1, hp1, e⟩ := d_lwC (ns := ns) (x1 := some (.fz (.int i))) (x3 := some (.fz d)) (st := st) hp (by omega)
      obtain ⟨p2, y3, e2⟩ := ih (m + 400) (some (.fz d)) p1 (by omega) (by omega) hp1
      exact ⟨p2, y3, forD_nm e e2⟩
  obtain ⟨p2, y3, e3⟩ := loop (rangeD 0 5) 0 x3 p (by decide) (by decide) hp
  have ir := iRg_ (s := 5) (f := dC (.int 5)) (δ := lw ns (some (.fz (.int i))) x3 st p) (by decide) rfl
  refine ⟨st ++ [some p2], some (.rf st.length), y3, ?_⟩
  unfold lwB
  rw [sSeq_nx s1, sFor, ir]
  exact e3
theorem law_true (ns : List Int) (h : ns.length ≤ 63 ∧ ∀ z ∈ ns, Builtin.Int.intBits z ≤ 1048576) : G_law [.fz (.scr ns)] [] = some (.val (.bl true), []) := by
  let δ1 : Dl := ⟨[some (.fz (.scr ns)), none, none, none], []⟩
  have e1 : ∃ k : Nat, k ≤ 10 ∧ lI δ1 = some (rangeD 0 k, [], δ1) := by
    have h1 : lI δ1 = (if okR (if (if (ns.length : Int) < 6 then (ns.length : Int) else 6) > 1 then (if (ns.length : Int) < 6 then (ns.length : Int) else 6) else 1) then some (rangeD 0 (if (if (ns.length : Int) < 6 then (ns.length : Int) else 6) > 1 then (if (ns.length : Int) < 6 then (ns.length : Int) else 6) else 1).toNat, [], δ1) else none) := rfl
    have hX : 0 ≤ (if (if (ns.length : Int) < 6 then (ns.length : Int) else 6) > 1 then (if (ns.length : Int) < 6 then (ns.length : Int) else 6) else 1) ∧ (if (if (ns.length : Int) < 6 then (ns.length : Int) else 6) > 1 then (if (ns.length : Int) < 6 then (ns.length : Int) else 6) else 1) ≤ 10 := by
      by_cases a : (ns.length : Int) < 6
      · rw [if_pos a]
        split <;> omega
      · rw [if_neg a]
        decide
    generalize (if (if (ns.length : Int) < 6 then (ns.length : Int) else 6) > 1 then (if (ns.length : Int) < 6 then (ns.length : Int) else 6) else 1) = X at h1 hX
    refine ⟨X.toNat, by omega, ?_⟩
    rw [h1, if_pos]
    unfold okR
    omega
  obtain ⟨k, hk, e1⟩ := e1
  obtain ⟨δ', e2, x1, x2, x3, st, rfl⟩ := forD_inv (tg := .nm 1) (body := lwB) (ck := []) (fun i δ => ∃ x1 x2 x3 st, δ = ⟨[some (.fz (.scr ns)), x1, x2, x3], st⟩) (fun i δ _ => by simp) (rangeD 0 k) 0 δ1 ⟨_, _, _, _, rfl⟩ (by
    rintro j d δ hj ⟨x1, x2, x3, st, rfl⟩
    have hjk : j < k := by
      obtain ⟨hlt, _⟩ := List.getElem?_eq_some_iff.mp hj
      simpa [rangeD] using hlt
    rw [PK.rangeD_get hjk] at hj
    cases hj
    rw [Int.zero_add]
    obtain ⟨st', y2, y3, e⟩ := d_lwB (ns := ns) (i := j) (by omega) (x2 := x2) (x3 := x3) (st := st)
    exact ⟨_, rfl, _, e, _, _, _, _, rfl⟩)
  have s1 : sFor lI (.nm 1) lwB δ1 = some (.nx, ⟨[some (.fz (.scr ns)), x1, x2, x3], st⟩) := by
    rw [sFor, e1]
    exact e2
  unfold G_law fnD
  rw [f_law_eq]
  show ((sSeq _ _ δ1).bind _) = _
  rw [sSeq_nx s1]
  rfl
end K03
namespace K03
open PySem L2 PySem.Spec PyProof.Rows PK
/-! ### the head -/
theorem law_spec (K : PySem.W.Frag) (mg : Str → Option Value) {Pg : List Int → Prop} (hG : ∀ ns : List Int, Pg ns → G_law [.fz (.scr ns)] [] = some (.val (.bl true), [])) (vs : List V) (H : Hp) (Q : VK) (E : XK) (h : ∃ (a : Addr) (ns : List Int), vs = [.ref a] ∧ SqL K H a (ns.map V.int) ∧ Pg ns ∧ ∀ H', Q (.bl true) H') : spD K mg 1 G_law vs H Q E := lawSpec hG h
set_option maxHeartbeats 0 in
theorem all_mk {l : PySem.W.OpenLaw} {w : World} {K : PySem.W.Frag} {h : Heap} {mg : Str → Option Value} {fa : Addr} (X : K.In h) (G : h.Ns mainGlobals mg) (hfa : mg "law" = some (.ref fa))
    {Pg : List Int → Prop} (hG : ∀ ns : List Int, Pg ns → G_law [.fz (.scr ns)] [] = some (.val (.bl true), []))
    {f0 f1 f2 f3 f4 f5 f6 f7 f8 f9 f10 f11 f12 f13 f14 f15 f16 f17 f18 f19 f20 f21 f22 C0 p1 p2 fX E0 N0 E1 N1 E2 N2 E3 N3 E4 N4 E5 N5 E6 N6 E7 N7 E8 N8 E9 N9 E10 N10 E11 N11 E12 N12 : Addr}
    {odX anX : Option Addr} {slX : Array (Option Value)} {ocX kVX dcX pmX cdX ctX : Value}
    {xq0 : Str} {xb0 xs0 : List Value} {xn0 : List Str} {xa0 : Bool} {xc0 : Option Bool} {xd0 : Option Addr} {xk0_0 xk0_1 xk0_2 xk0_3 xk0_5 : Option Value} {xq1 : Str} {xb1 xs1 : List Value} {xn1 : List Str} {xa1 : Bool} {xc1 : Option Bool} {xd1 : Option Addr} {xk1_0 xk1_1 xk1_2 xk1_3 xk1_5 : Option Value} {xq2 : Str} {xb2 xs2 : List Value} {xn2 : List Str} {xa2 : Bool} {xc2 : Option Bool} {xd2 : Option Addr} {xk2_0 xk2_1 xk2_2 xk2_3 xk2_5 : Option Value} {xq3 : Str} {xb3 xs3 : List Value} {xn3 : List Str} {xa3 : Bool} {xc3 : Option Bool} {xd3 : Option Addr} {xk3_0 xk3_1 xk3_2 xk3_3 xk3_5 : Option Value} {xq4 : Str} {xb4 xs4 : List Value} {xn4 : List Str} {xa4 : Bool} {xc4 : Option Bool} {xd4 : Option Addr} {xk4_0 xk4_1 xk4_2 xk4_3 xk4_5 : Option Value} {xq5 : Str} {xb5 xs5 : List Value} {xn5 : List Str} {xa5 : Bool} {xc5 : Option Bool} {xd5 : Option Addr} {xk5_0 xk5_1 xk5_2 xk5_3 xk5_5 : Option Value} {xq6 : Str} {xb6 xs6 : List Value} {xn6 : List Str} {xa6 : Bool} {xc6 : Option Bool} {xd6 : Option Addr} {xk6_0 xk6_1 xk6_2 xk6_3 xk6_5 : Option Value} {xq7 : Str} {xb7 xs7 : List Value} {xn7 : List Str} {xa7 : Bool} {xc7 : Option Bool} {xd7 : Option Addr} {xk7_0 xk7_1 xk7_2 xk7_3 xk7_5 : Option Value} {xq8 : Str} {xb8 xs8 : List Value} {xn8 : List Str} {xa8 : Bool} {xc8 : Option Bool} {xd8 : Option Addr} {xk8_0 xk8_1 xk8_2 xk8_3 xk8_5 : Option Value} {xq9 : Str} {xb9 xs9 : List Value} {xn9 : List Str} {xa9 : Bool} {xc9 : Option Bool} {xd9 : Option Addr} {xk9_0 xk9_1 xk9_2 xk9_3 xk9_5 : Option Value} {xq10 : Str} {xb10 xs10 : List Value} {xn10 : List Str} {xa10 : Bool} {xc10 : Option Bool} {xd10 : Option Addr} {xk10_0 xk10_1 xk10_2 xk10_3 xk10_5 : Option Value} {xq11 : Str} {xb11 xs11 : List Value} {xn11 : List Str} {xa11 : Bool} {xc11 : Option Bool} {xd11 : Option Addr} {xk11_0 xk11_1 xk11_2 xk11_3 xk11_5 : Option Value} {xq12 : Str} {xb12 xs12 : List Value} {xn12 : List Str} {xa12 : Bool} {xc12 : Option Bool} {xd12 : Option Addr} {xk12_0 xk12_1 xk12_2 xk12_3 xk12_5 : Option Value}
    {od0 an0 od1 an1 od2 an2 od3 an3 od4 an4 od5 an5 od6 an6 od7 an7 od8 an8 od9 an9 od10 an10 od11 an11 od12 an12 od13 an13 od14 an14 od15 an15 od16 an16 od17 an17 od18 an18 od19 an19 od20 an20 od21 an21 od22 an22 : Option Addr}
    {sl0 sl1 sl2 sl3 sl4 sl5 sl6 sl7 sl8 sl9 sl10 sl11 sl12 sl13 sl14 sl15 sl16 sl17 sl18 sl19 sl20 sl21 sl22 : Array (Option Value)}
    {oc0 kV0 dc0 pm0 cd0 ct0 oc1 kV1 dc1 pm1 cd1 ct1 oc2 kV2 dc2 pm2 cd2 ct2 oc3 kV3 dc3 pm3 cd3 ct3 oc4 kV4 dc4 pm4 cd4 ct4 oc5 kV5 dc5 pm5 cd5 ct5 oc6 kV6 dc6 pm6 cd6 ct6 oc7 kV7 dc7 pm7 cd7 ct7 oc8 kV8 dc8 pm8 cd8 ct8 oc9 kV9 dc9 pm9 cd9 ct9 oc10 kV10 dc10 pm10 cd10 ct10 oc11 kV11 dc11 pm11 cd11 ct11 oc12 kV12 dc12 pm12 cd12 ct12 oc13 kV13 dc13 pm13 cd13 ct13 oc14 kV14 dc14 pm14 cd14 ct14 oc15 kV15 dc15 pm15 cd15 ct15 oc16 kV16 dc16 pm16 cd16 ct16 oc17 kV17 dc17 pm17 cd17 ct17 oc18 kV18 dc18 pm18 cd18 ct18 oc19 kV19 dc19 pm19 cd19 ct19 oc20 kV20 dc20 pm20 cd20 ct20 oc21 kV21 dc21 pm21 cd21 ct21 oc22 kV22 dc22 pm22 cd22 ct22 : Value}
    {r1 r2 : List Value}
    (at0 : PySem.W.nsIn K mainGlobals "dot" = some (some (.ref f0)))
    (at4 : PySem.W.nsIn K mainGlobals "_common_divisor" = some (some (.ref f4)))
    (at5 : PySem.W.nsIn K mainGlobals "_filled_place" = some (some (.ref f5)))
    (at6 : PySem.W.nsIn K mainGlobals "_cleared" = some (some (.ref f6)))
    (at7 : PySem.W.nsIn K mainGlobals "_law_pool" = some (some (.ref f7)))
    (at8 : PySem.W.nsIn K mainGlobals "_law_draw" = some (some (.ref f8)))
    (at9 : PySem.W.nsIn K mainGlobals "_law_kind" = some (some (.ref f9)))
    (at10 : PySem.W.nsIn K mainGlobals "_volume" = some (some (.ref f10)))
    (at11 : PySem.W.nsIn K mainGlobals "_law_lines" = some (some (.ref f11)))
    (at12 : PySem.W.nsIn K mainGlobals "_law_under" = some (some (.ref f12)))
    (at13 : PySem.W.nsIn K mainGlobals "_law_spoilt" = some (some (.ref f13)))
    (at14 : PySem.W.nsIn K mainGlobals "_check_matrix" = some (some (.ref f14)))
    (at15 : PySem.W.nsIn K mainGlobals "_cofactor" = some (some (.ref f15)))
    (at16 : PySem.W.nsIn K mainGlobals "_law_flat" = some (some (.ref f16)))
    (at20 : PySem.W.nsIn K mainGlobals "_law_caught" = some (some (.ref f20)))
    (at21 : PySem.W.nsIn K mainGlobals "_law_right" = some (some (.ref f21)))
    (at22 : PySem.W.nsIn K mainGlobals "law" = some (some (.ref f22)))
    (aC0 : PySem.W.nsIn K mainGlobals "Matrix" = some (some (.ref C0)))
    (pa1 : PySem.W.findIn K (.ref C0) "rows" = some (some (.ref p1)))
    (pb1 : PySem.W.specialIn K (.ref p1) "__get__" = some (some (.builtin "property.__get__")))
    (pc1 : PySem.W.takesIn K (.ref p1) = some true)
    (pd1 : PySem.W.recIn K p1 "property" = some (.ref f1 :: r1))
    (pa2 : PySem.W.findIn K (.ref C0) "bottom" = some (some (.ref p2)))
    (pb2 : PySem.W.specialIn K (.ref p2) "__get__" = some (some (.builtin "property.__get__")))
    (pc2 : PySem.W.takesIn K (.ref p2) = some true)
    (pd2 : PySem.W.recIn K p2 "property" = some (.ref f2 :: r2))
    (at3 : PySem.W.findIn K (.ref C0) "__len__" = some (some (.ref f3)))
    (fn3 : PySem.W.isFn K (.ref f3) = true)
    (at17 : PySem.W.findIn K (.ref C0) "__init__" = some (some (.ref f17)))
    (fn17 : PySem.W.isFn K (.ref f17) = true)
    (at18 : PySem.W.findIn K (.ref C0) "after" = some (some (.ref f18)))
    (fn18 : PySem.W.isFn K (.ref f18) = true)
    (at19 : PySem.W.findIn K (.ref C0) "inverse" = some (some (.ref f19)))
    (fn19 : PySem.W.isFn K (.ref f19) = true)
    (l0 : K.lookup f0 = some ⟨oc0, od0, .func (PySem.W.fnOf "dot" "dot" (defArgs s_dot) (defBody s_dot) (defScope s_dot) .none kV0 dc0 pm0 an0 cd0 ct0), sl0⟩)
    (cc0 : PySem.W.codeIn K cd0 "dot" = true)
    (kk0 : PySem.W.keepIn K (.ref f0) = true)
    (l1 : K.lookup f1 = some ⟨oc1, od1, .func (PySem.W.fnOf "rows" "Matrix.rows" (defArgs s_Matrix_rows) (defBody s_Matrix_rows) (defScope s_Matrix_rows) .none kV1 dc1 pm1 an1 cd1 ct1), sl1⟩)
    (cc1 : PySem.W.codeIn K cd1 "Matrix.rows" = true)
    (kk1 : PySem.W.keepIn K (.ref f1) = true)
    (l2 : K.lookup f2 = some ⟨oc2, od2, .func (PySem.W.fnOf "bottom" "Matrix.bottom" (defArgs s_Matrix_bottom) (defBody s_Matrix_bottom) (defScope s_Matrix_bottom) .none kV2 dc2 pm2 an2 cd2 ct2), sl2⟩)
    (cc2 : PySem.W.codeIn K cd2 "Matrix.bottom" = true)
    (kk2 : PySem.W.keepIn K (.ref f2) = true)
    (l3 : K.lookup f3 = some ⟨oc3, od3, .func (PySem.W.fnOf "__len__" "Matrix.__len__" (defArgs s_Matrix_len) (defBody s_Matrix_len) (defScope s_Matrix_len) .none kV3 dc3 pm3 an3 cd3 ct3), sl3⟩)
    (cc3 : PySem.W.codeIn K cd3 "Matrix.__len__" = true)
    (kk3 : PySem.W.keepIn K (.ref f3) = true)
    (l4 : K.lookup f4 = some ⟨oc4, od4, .func (PySem.W.fnOf "_common_divisor" "_common_divisor" (defArgs s_common_divisor) (defBody s_common_divisor) (defScope s_common_divisor) .none kV4 dc4 pm4 an4 cd4 ct4), sl4⟩)
    (cc4 : PySem.W.codeIn K cd4 "_common_divisor" = true)
    (kk4 : PySem.W.keepIn K (.ref f4) = true)
    (l5 : K.lookup f5 = some ⟨oc5, od5, .func (PySem.W.fnOf "_filled_place" "_filled_place" (defArgs s_filled_place) (defBody s_filled_place) (defScope s_filled_place) .none kV5 dc5 pm5 an5 cd5 ct5), sl5⟩)
    (cc5 : PySem.W.codeIn K cd5 "_filled_place" = true)
    (kk5 : PySem.W.keepIn K (.ref f5) = true)
    (l6 : K.lookup f6 = some ⟨oc6, od6, .func (PySem.W.fnOf "_cleared" "_cleared" (defArgs s_cleared) (defBody s_cleared) (defScope s_cleared) .none kV6 dc6 pm6 an6 cd6 ct6), sl6⟩)
    (cc6 : PySem.W.codeIn K cd6 "_cleared" = true)
    (kk6 : PySem.W.keepIn K (.ref f6) = true)
    (l7 : K.lookup f7 = some ⟨oc7, od7, .func (PySem.W.fnOf "_law_pool" "_law_pool" (defArgs s_law_pool) (defBody s_law_pool) (defScope s_law_pool) .none kV7 dc7 pm7 an7 cd7 ct7), sl7⟩)
    (cc7 : PySem.W.codeIn K cd7 "_law_pool" = true)
    (kk7 : PySem.W.keepIn K (.ref f7) = true)
    (l8 : K.lookup f8 = some ⟨oc8, od8, .func (PySem.W.fnOf "_law_draw" "_law_draw" (defArgs s_law_draw) (defBody s_law_draw) (defScope s_law_draw) .none kV8 dc8 pm8 an8 cd8 ct8), sl8⟩)
    (cc8 : PySem.W.codeIn K cd8 "_law_draw" = true)
    (kk8 : PySem.W.keepIn K (.ref f8) = true)
    (l9 : K.lookup f9 = some ⟨oc9, od9, .func (PySem.W.fnOf "_law_kind" "_law_kind" (defArgs s_law_kind) (defBody s_law_kind) (defScope s_law_kind) .none kV9 dc9 pm9 an9 cd9 ct9), sl9⟩)
    (cc9 : PySem.W.codeIn K cd9 "_law_kind" = true)
    (kk9 : PySem.W.keepIn K (.ref f9) = true)
    (l10 : K.lookup f10 = some ⟨oc10, od10, .func (PySem.W.fnOf "_volume" "_volume" (defArgs s_volume) (defBody s_volume) (defScope s_volume) .none kV10 dc10 pm10 an10 cd10 ct10), sl10⟩)
    (cc10 : PySem.W.codeIn K cd10 "_volume" = true)
    (kk10 : PySem.W.keepIn K (.ref f10) = true)
    (l11 : K.lookup f11 = some ⟨oc11, od11, .func (PySem.W.fnOf "_law_lines" "_law_lines" (defArgs s_law_lines) (defBody s_law_lines) (defScope s_law_lines) .none kV11 dc11 pm11 an11 cd11 ct11), sl11⟩)
    (cc11 : PySem.W.codeIn K cd11 "_law_lines" = true)
    (kk11 : PySem.W.keepIn K (.ref f11) = true)
    (l12 : K.lookup f12 = some ⟨oc12, od12, .func (PySem.W.fnOf "_law_under" "_law_under" (defArgs s_law_under) (defBody s_law_under) (defScope s_law_under) .none kV12 dc12 pm12 an12 cd12 ct12), sl12⟩)
    (cc12 : PySem.W.codeIn K cd12 "_law_under" = true)
    (kk12 : PySem.W.keepIn K (.ref f12) = true)
    (l13 : K.lookup f13 = some ⟨oc13, od13, .func (PySem.W.fnOf "_law_spoilt" "_law_spoilt" (defArgs s_law_spoilt) (defBody s_law_spoilt) (defScope s_law_spoilt) .none kV13 dc13 pm13 an13 cd13 ct13), sl13⟩)
    (cc13 : PySem.W.codeIn K cd13 "_law_spoilt" = true)
    (kk13 : PySem.W.keepIn K (.ref f13) = true)
    (l14 : K.lookup f14 = some ⟨oc14, od14, .func (PySem.W.fnOf "_check_matrix" "_check_matrix" (defArgs s_check_matrix) (defBody s_check_matrix) (defScope s_check_matrix) .none kV14 dc14 pm14 an14 cd14 ct14), sl14⟩)
    (cc14 : PySem.W.codeIn K cd14 "_check_matrix" = true)
    (kk14 : PySem.W.keepIn K (.ref f14) = true)
    (l15 : K.lookup f15 = some ⟨oc15, od15, .func (PySem.W.fnOf "_cofactor" "_cofactor" (defArgs s_cofactor) (defBody s_cofactor) (defScope s_cofactor) .none kV15 dc15 pm15 an15 cd15 ct15), sl15⟩)
    (cc15 : PySem.W.codeIn K cd15 "_cofactor" = true)
    (kk15 : PySem.W.keepIn K (.ref f15) = true)
    (l16 : K.lookup f16 = some ⟨oc16, od16, .func (PySem.W.fnOf "_law_flat" "_law_flat" (defArgs s_law_flat) (defBody s_law_flat) (defScope s_law_flat) .none kV16 dc16 pm16 an16 cd16 ct16), sl16⟩)
    (cc16 : PySem.W.codeIn K cd16 "_law_flat" = true)
    (kk16 : PySem.W.keepIn K (.ref f16) = true)
    (l17 : K.lookup f17 = some ⟨oc17, od17, .func (PySem.W.fnOf "__init__" "Matrix.__init__" (defArgs s_Matrix_init) (defBody s_Matrix_init) (defScope s_Matrix_init) .none kV17 dc17 pm17 an17 cd17 ct17), sl17⟩)
    (cc17 : PySem.W.codeIn K cd17 "Matrix.__init__" = true)
    (kk17 : PySem.W.keepIn K (.ref f17) = true)
    (l18 : K.lookup f18 = some ⟨oc18, od18, .func (PySem.W.fnOf "after" "Matrix.after" (defArgs s_Matrix_after) (defBody s_Matrix_after) (defScope s_Matrix_after) .none kV18 dc18 pm18 an18 cd18 ct18), sl18⟩)
    (cc18 : PySem.W.codeIn K cd18 "Matrix.after" = true)
    (kk18 : PySem.W.keepIn K (.ref f18) = true)
    (l19 : K.lookup f19 = some ⟨oc19, od19, .func (PySem.W.fnOf "inverse" "Matrix.inverse" (defArgs s_Matrix_inverse) (defBody s_Matrix_inverse) (defScope s_Matrix_inverse) .none kV19 dc19 pm19 an19 cd19 ct19), sl19⟩)
    (cc19 : PySem.W.codeIn K cd19 "Matrix.inverse" = true)
    (kk19 : PySem.W.keepIn K (.ref f19) = true)
    (l20 : K.lookup f20 = some ⟨oc20, od20, .func (PySem.W.fnOf "_law_caught" "_law_caught" (defArgs s_law_caught) (defBody s_law_caught) (defScope s_law_caught) .none kV20 dc20 pm20 an20 cd20 ct20), sl20⟩)
    (cc20 : PySem.W.codeIn K cd20 "_law_caught" = true)
    (kk20 : PySem.W.keepIn K (.ref f20) = true)
    (l21 : K.lookup f21 = some ⟨oc21, od21, .func (PySem.W.fnOf "_law_right" "_law_right" (defArgs s_law_right) (defBody s_law_right) (defScope s_law_right) .none kV21 dc21 pm21 an21 cd21 ct21), sl21⟩)
    (cc21 : PySem.W.codeIn K cd21 "_law_right" = true)
    (kk21 : PySem.W.keepIn K (.ref f21) = true)
    (l22 : K.lookup f22 = some ⟨oc22, od22, .func (PySem.W.fnOf "law" "law" (defArgs s_law) (defBody s_law) (defScope s_law) .none kV22 dc22 pm22 an22 cd22 ct22), sl22⟩)
    (cc22 : PySem.W.codeIn K cd22 "law" = true)
    (kk22 : PySem.W.keepIn K (.ref f22) = true)
    (pg0 : PySem.W.plainGet K C0 Str.empty = true)
    (hd0 : PySem.W.hasDictIn K C0 = true)
    (po0 : PySem.W.plainOver K C0 = true)
    (sa0 : PySem.W.findIn K (.ref C0) "__setattr__" = some (some (.builtin "object.__setattr__")))
    (mk0 : PySem.W.makesIn K C0 = true)
    (kc0 : PySem.W.keepIn K (.ref C0) = true)
    (ia0 : PySem.W.findIn K (.ref C0) "__class__" = some (some (.builtin "object.__class__")))
    (ib0 : PySem.W.specialIn K (.builtin "object.__class__") "__get__" = some (some (.builtin "getset_descriptor.__get__")))
    (ic0 : PySem.W.takesIn K (.builtin "object.__class__") = some true)
    (im0 : PySem.W.mroIn K C0 (.type "object") = some true)
    (nf0_rows : PySem.W.findIn K (.ref C0) "_rows" = some none)
    (nf0_bottom : PySem.W.findIn K (.ref C0) "_bottom" = some none)
    (aE0 : PySem.W.nsIn K mainGlobals "LiftError" = some (some (.ref E0)))
    (aE1 : PySem.W.nsIn K mainGlobals "InvalidMatrix" = some (some (.ref E1)))
    (aE2 : PySem.W.nsIn K mainGlobals "InvalidChain" = some (some (.ref E2)))
    (aE3 : PySem.W.nsIn K mainGlobals "InvalidBox" = some (some (.ref E3)))
    (aE4 : PySem.W.nsIn K mainGlobals "InvalidChannel" = some (some (.ref E4)))
    (aE5 : PySem.W.nsIn K mainGlobals "InvalidNumber" = some (some (.ref E5)))
    (aE6 : PySem.W.nsIn K mainGlobals "InvalidVector" = some (some (.ref E6)))
    (aE7 : PySem.W.nsIn K mainGlobals "OtherChannels" = some (some (.ref E7)))
    (aE8 : PySem.W.nsIn K mainGlobals "NotTwo" = some (some (.ref E8)))
    (aE9 : PySem.W.nsIn K mainGlobals "NotTurning" = some (some (.ref E9)))
    (aE10 : PySem.W.nsIn K mainGlobals "Singular" = some (some (.ref E10)))
    (aE11 : PySem.W.nsIn K mainGlobals "NothingToUndo" = some (some (.ref E11)))
    (aE12 : PySem.W.nsIn K mainGlobals "Unreadable" = some (some (.ref E12)))
    (lE0 : K.lookup E0 = some (excClassObj "LiftError" xq0 E0 N0 xb0 [.type "ValueError", .type "Exception", .type "BaseException", .type "object"] true xn0 xs0 xa0 xc0 xd0 xk0_0 xk0_1 xk0_2 xk0_3 xk0_5 "ValueError.__new__"))
    (lE1 : K.lookup E1 = some (excClassObj "InvalidMatrix" xq1 E1 N1 xb1 (.ref E0 :: [.type "ValueError", .type "Exception", .type "BaseException", .type "object"]) true xn1 xs1 xa1 xc1 xd1 xk1_0 xk1_1 xk1_2 xk1_3 xk1_5 "ValueError.__new__"))
    (sE1 : PySem.W.findIn K (.ref E1) "__setattr__" = some (some (.builtin "object.__setattr__")))
    (gE1 : PySem.W.findIn K (.ref E1) "__getattribute__" = some (some (.builtin "BaseException.__getattribute__")))
    (hE1 : PySem.W.findIn K (.ref E1) "__getattr__" = some none)
    (cE1 : PySem.W.findIn K (.ref E1) "__class__" = some (some (.builtin "object.__class__")))
    (vE1 : PySem.W.findIn K (.ref E1) "value" = some none)
    (iE1 : PySem.W.findIn K (.ref E1) "__init__" = some (some (.ref fX)))
    (kE1 : PySem.W.keepIn K (.ref E1) = true)
    (lE2 : K.lookup E2 = some (excClassObj "InvalidChain" xq2 E2 N2 xb2 (.ref E0 :: [.type "ValueError", .type "Exception", .type "BaseException", .type "object"]) true xn2 xs2 xa2 xc2 xd2 xk2_0 xk2_1 xk2_2 xk2_3 xk2_5 "ValueError.__new__"))
    (lE3 : K.lookup E3 = some (excClassObj "InvalidBox" xq3 E3 N3 xb3 (.ref E0 :: [.type "ValueError", .type "Exception", .type "BaseException", .type "object"]) true xn3 xs3 xa3 xc3 xd3 xk3_0 xk3_1 xk3_2 xk3_3 xk3_5 "ValueError.__new__"))
    (lE4 : K.lookup E4 = some (excClassObj "InvalidChannel" xq4 E4 N4 xb4 (.ref E0 :: [.type "ValueError", .type "Exception", .type "BaseException", .type "object"]) true xn4 xs4 xa4 xc4 xd4 xk4_0 xk4_1 xk4_2 xk4_3 xk4_5 "ValueError.__new__"))
    (lE5 : K.lookup E5 = some (excClassObj "InvalidNumber" xq5 E5 N5 xb5 (.ref E0 :: [.type "ValueError", .type "Exception", .type "BaseException", .type "object"]) true xn5 xs5 xa5 xc5 xd5 xk5_0 xk5_1 xk5_2 xk5_3 xk5_5 "ValueError.__new__"))
    (lE6 : K.lookup E6 = some (excClassObj "InvalidVector" xq6 E6 N6 xb6 (.ref E0 :: [.type "ValueError", .type "Exception", .type "BaseException", .type "object"]) true xn6 xs6 xa6 xc6 xd6 xk6_0 xk6_1 xk6_2 xk6_3 xk6_5 "ValueError.__new__"))
    (lE7 : K.lookup E7 = some (excClassObj "OtherChannels" xq7 E7 N7 xb7 (.ref E0 :: [.type "ValueError", .type "Exception", .type "BaseException", .type "object"]) true xn7 xs7 xa7 xc7 xd7 xk7_0 xk7_1 xk7_2 xk7_3 xk7_5 "ValueError.__new__"))
    (sE7 : PySem.W.findIn K (.ref E7) "__setattr__" = some (some (.builtin "object.__setattr__")))
    (gE7 : PySem.W.findIn K (.ref E7) "__getattribute__" = some (some (.builtin "BaseException.__getattribute__")))
    (hE7 : PySem.W.findIn K (.ref E7) "__getattr__" = some none)
    (cE7 : PySem.W.findIn K (.ref E7) "__class__" = some (some (.builtin "object.__class__")))
    (vE7 : PySem.W.findIn K (.ref E7) "value" = some none)
    (iE7 : PySem.W.findIn K (.ref E7) "__init__" = some (some (.ref fX)))
    (kE7 : PySem.W.keepIn K (.ref E7) = true)
    (lE8 : K.lookup E8 = some (excClassObj "NotTwo" xq8 E8 N8 xb8 (.ref E0 :: [.type "ValueError", .type "Exception", .type "BaseException", .type "object"]) true xn8 xs8 xa8 xc8 xd8 xk8_0 xk8_1 xk8_2 xk8_3 xk8_5 "ValueError.__new__"))
    (lE9 : K.lookup E9 = some (excClassObj "NotTurning" xq9 E9 N9 xb9 (.ref E0 :: [.type "ValueError", .type "Exception", .type "BaseException", .type "object"]) true xn9 xs9 xa9 xc9 xd9 xk9_0 xk9_1 xk9_2 xk9_3 xk9_5 "ValueError.__new__"))
    (lE10 : K.lookup E10 = some (excClassObj "Singular" xq10 E10 N10 xb10 (.ref E0 :: [.type "ValueError", .type "Exception", .type "BaseException", .type "object"]) true xn10 xs10 xa10 xc10 xd10 xk10_0 xk10_1 xk10_2 xk10_3 xk10_5 "ValueError.__new__"))
    (sE10 : PySem.W.findIn K (.ref E10) "__setattr__" = some (some (.builtin "object.__setattr__")))
    (gE10 : PySem.W.findIn K (.ref E10) "__getattribute__" = some (some (.builtin "BaseException.__getattribute__")))
    (hE10 : PySem.W.findIn K (.ref E10) "__getattr__" = some none)
    (cE10 : PySem.W.findIn K (.ref E10) "__class__" = some (some (.builtin "object.__class__")))
    (vE10 : PySem.W.findIn K (.ref E10) "value" = some none)
    (iE10 : PySem.W.findIn K (.ref E10) "__init__" = some (some (.ref fX)))
    (kE10 : PySem.W.keepIn K (.ref E10) = true)
    (lE11 : K.lookup E11 = some (excClassObj "NothingToUndo" xq11 E11 N11 xb11 (.ref E0 :: [.type "ValueError", .type "Exception", .type "BaseException", .type "object"]) true xn11 xs11 xa11 xc11 xd11 xk11_0 xk11_1 xk11_2 xk11_3 xk11_5 "ValueError.__new__"))
    (lE12 : K.lookup E12 = some (excClassObj "Unreadable" xq12 E12 N12 xb12 (.ref E0 :: [.type "ValueError", .type "Exception", .type "BaseException", .type "object"]) true xn12 xs12 xa12 xc12 xd12 xk12_0 xk12_1 xk12_2 xk12_3 xk12_5 "ValueError.__new__"))
    (lX : K.lookup fX = some ⟨ocX, odX, .func (PySem.W.fnOf "__init__" "LiftError.__init__" (defArgs s_Exc) (defBody s_Exc) (defScope s_Exc) .none kVX dcX pmX anX cdX ctX), slX⟩)
    (ccX : PySem.W.codeIn K cdX "LiftError.__init__" = true)
    (kkX : PySem.W.keepIn K (.ref fX) = true)
    (tX : PySem.W.typeIn K (.ref fX) = some (.type "function"))
    (hnX : PySem.W.specialIn K (.builtin "object.__class__") "__get__" = some (some (.builtin "getset_descriptor.__get__")))
    (htX : PySem.W.takesIn K (.builtin "object.__class__") = some true)
    (vVX : PySem.W.findCls K (.type "ValueError") (.type "type") "__init__" = some (.val (.builtin "ValueError.__init__")))
    (z_ValueError : PySem.W.nsIn K mainGlobals "ValueError" = some none)
    (z_abs : PySem.W.nsIn K mainGlobals "abs" = some none)
    (z_enumerate : PySem.W.nsIn K mainGlobals "enumerate" = some none)
    (z_int : PySem.W.nsIn K mainGlobals "int" = some none)
    (z_isinstance : PySem.W.nsIn K mainGlobals "isinstance" = some none)
    (z_len : PySem.W.nsIn K mainGlobals "len" = some none)
    (z_list : PySem.W.nsIn K mainGlobals "list" = some none)
    (z_max : PySem.W.nsIn K mainGlobals "max" = some none)
    (z_min : PySem.W.nsIn K mainGlobals "min" = some none)
    (z_range : PySem.W.nsIn K mainGlobals "range" = some none)
    (z_repr : PySem.W.nsIn K mainGlobals "repr" = some none)
    (z_sum : PySem.W.nsIn K mainGlobals "sum" = some none)
    (z_zip : PySem.W.nsIn K mainGlobals "zip" = some none)
    (zm_gcd : PySem.W.nsIn K mainGlobals "gcd" = some (some (.builtin "math.gcd"))) :
    ∃ fd : FuncData, (∀ (s : Shared) (v : Value), BindsTo s fd ⟨[v], []⟩ [("script", v)]) ∧ ∀ base : Heap, K.In base → base.Ns mainGlobals mg → FnG l.prog w K mg base 9 fa fd ["script"] (fun vs H Q _ => ∃ (a : Addr) (ns : List Int), vs = [.ref a] ∧ SqL K H a (ns.map V.int) ∧ Pg ns ∧ ∀ H', Q (.bl true) H') := by
  have e := hfa.symm.trans (PySem.W.mg_of X G at22)
  cases e
  have F0 := fun_mk (st := s_dot) l0 cc0 kk0
  have b0 := F0.binds (ps := ["first", "second"]) fun _ _ _ _ _ _ us hl => match us, hl with | [_, _], _ => rfl
  have F1 := fun_mk (st := s_Matrix_rows) l1 cc1 kk1
  have b1 := F1.binds (ps := ["self"]) fun _ _ _ _ _ _ us hl => match us, hl with | [_], _ => rfl
  have F2 := fun_mk (st := s_Matrix_bottom) l2 cc2 kk2
  have b2 := F2.binds (ps := ["self"]) fun _ _ _ _ _ _ us hl => match us, hl with | [_], _ => rfl
  have F3 := fun_mk (st := s_Matrix_len) l3 cc3 kk3
  have b3 := F3.binds (ps := ["self"]) fun _ _ _ _ _ _ us hl => match us, hl with | [_], _ => rfl
  have F4 := fun_mk (st := s_common_divisor) l4 cc4 kk4
  have b4 := F4.binds (ps := ["rows", "bottom"]) fun _ _ _ _ _ _ us hl => match us, hl with | [_, _], _ => rfl
  have F5 := fun_mk (st := s_filled_place) l5 cc5 kk5
  have b5 := F5.binds (ps := ["rows"]) fun _ _ _ _ _ _ us hl => match us, hl with | [_], _ => rfl
  have F6 := fun_mk (st := s_cleared) l6 cc6 kk6
  have b6 := F6.binds (ps := ["row", "top", "last"]) fun _ _ _ _ _ _ us hl => match us, hl with | [_, _, _], _ => rfl
  have F7 := fun_mk (st := s_law_pool) l7 cc7 kk7
  have b7 := F7.binds (ps := ["script", "spot"]) fun _ _ _ _ _ _ us hl => match us, hl with | [_, _], _ => rfl
  have F8 := fun_mk (st := s_law_draw) l8 cc8 kk8
  have b8 := F8.binds (ps := ["pool", "many"]) fun _ _ _ _ _ _ us hl => match us, hl with | [_, _], _ => rfl
  have F9 := fun_mk (st := s_law_kind) l9 cc9 kk9
  have b9 := F9.binds (ps := ["e"]) fun _ _ _ _ _ _ us hl => match us, hl with | [_], _ => rfl
  have F10 := fun_mk (st := s_volume) l10 cc10 kk10
  have b10 := F10.binds (ps := ["rows"]) fun _ _ _ _ _ _ us hl => match us, hl with | [_], _ => rfl
  have F11 := fun_mk (st := s_law_lines) l11 cc11 kk11
  have b11 := F11.binds (ps := ["pool", "size"]) fun _ _ _ _ _ _ us hl => match us, hl with | [_, _], _ => rfl
  have F12 := fun_mk (st := s_law_under) l12 cc12 kk12
  have b12 := F12.binds (ps := ["pool"]) fun _ _ _ _ _ _ us hl => match us, hl with | [_], _ => rfl
  have F13 := fun_mk (st := s_law_spoilt) l13 cc13 kk13
  have b13 := F13.binds (ps := ["pool", "lines"]) fun _ _ _ _ _ _ us hl => match us, hl with | [_, _], _ => rfl
  have F14 := fun_mk (st := s_check_matrix) l14 cc14 kk14
  have b14 := F14.binds (ps := ["rows", "bottom"]) fun _ _ _ _ _ _ us hl => match us, hl with | [_, _], _ => rfl
  have F15 := fun_mk (st := s_cofactor) l15 cc15 kk15
  have b15 := F15.binds (ps := ["rows", "line", "column"]) fun _ _ _ _ _ _ us hl => match us, hl with | [_, _, _], _ => rfl
  have F16 := fun_mk (st := s_law_flat) l16 cc16 kk16
  have b16 := F16.binds (ps := ["pool", "size"]) fun _ _ _ _ _ _ us hl => match us, hl with | [_, _], _ => rfl
  have F17 := fun_mk (st := s_Matrix_init) l17 cc17 kk17
  have b17 := F17.binds (ps := ["self", "rows", "bottom"]) fun _ _ _ _ _ _ us hl => match us, hl with | [_, _, _], _ => rfl
  have F18 := fun_mk (st := s_Matrix_after) l18 cc18 kk18
  have b18 := F18.binds (ps := ["self", "inner"]) fun _ _ _ _ _ _ us hl => match us, hl with | [_, _], _ => rfl
  have F19 := fun_mk (st := s_Matrix_inverse) l19 cc19 kk19
  have b19 := F19.binds (ps := ["self"]) fun _ _ _ _ _ _ us hl => match us, hl with | [_], _ => rfl
  have F20 := fun_mk (st := s_law_caught) l20 cc20 kk20
  have b20 := F20.binds (ps := ["which", "one", "two"]) fun _ _ _ _ _ _ us hl => match us, hl with | [_, _, _], _ => rfl
  have F21 := fun_mk (st := s_law_right) l21 cc21 kk21
  have b21 := F21.binds (ps := ["pool"]) fun _ _ _ _ _ _ us hl => match us, hl with | [_], _ => rfl
  have F22 := fun_mk (st := s_law) l22 cc22 kk22
  have b22 := F22.binds (ps := ["script"]) fun _ _ _ _ _ _ us hl => match us, hl with | [_], _ => rfl
  have FX := fun_mk (st := s_Exc) lX ccX kkX
  have bX := FX.binds (ps := ["self", "value"]) fun _ _ _ _ _ _ us hl => match us, hl with | [_, _], _ => rfl
  have X0 : ExK K mg E0 "LiftError" E0 := ⟨PySem.W.mg_of X G aE0, _, _, _, _, _, _, _, _, _, _, _, _, _, lE0⟩
  have X1 : ExK K mg E0 "InvalidMatrix" E1 := ⟨PySem.W.mg_of X G aE1, _, _, _, _, _, _, _, _, _, _, _, _, _, lE1⟩
  have X2 : ExK K mg E0 "InvalidChain" E2 := ⟨PySem.W.mg_of X G aE2, _, _, _, _, _, _, _, _, _, _, _, _, _, lE2⟩
  have X3 : ExK K mg E0 "InvalidBox" E3 := ⟨PySem.W.mg_of X G aE3, _, _, _, _, _, _, _, _, _, _, _, _, _, lE3⟩
  have X4 : ExK K mg E0 "InvalidChannel" E4 := ⟨PySem.W.mg_of X G aE4, _, _, _, _, _, _, _, _, _, _, _, _, _, lE4⟩
  have X5 : ExK K mg E0 "InvalidNumber" E5 := ⟨PySem.W.mg_of X G aE5, _, _, _, _, _, _, _, _, _, _, _, _, _, lE5⟩
  have X6 : ExK K mg E0 "InvalidVector" E6 := ⟨PySem.W.mg_of X G aE6, _, _, _, _, _, _, _, _, _, _, _, _, _, lE6⟩
  have X7 : ExK K mg E0 "OtherChannels" E7 := ⟨PySem.W.mg_of X G aE7, _, _, _, _, _, _, _, _, _, _, _, _, _, lE7⟩
  have X8 : ExK K mg E0 "NotTwo" E8 := ⟨PySem.W.mg_of X G aE8, _, _, _, _, _, _, _, _, _, _, _, _, _, lE8⟩
  have X9 : ExK K mg E0 "NotTurning" E9 := ⟨PySem.W.mg_of X G aE9, _, _, _, _, _, _, _, _, _, _, _, _, _, lE9⟩
  have X10 : ExK K mg E0 "Singular" E10 := ⟨PySem.W.mg_of X G aE10, _, _, _, _, _, _, _, _, _, _, _, _, _, lE10⟩
  have X11 : ExK K mg E0 "NothingToUndo" E11 := ⟨PySem.W.mg_of X G aE11, _, _, _, _, _, _, _, _, _, _, _, _, _, lE11⟩
  have X12 : ExK K mg E0 "Unreadable" E12 := ⟨PySem.W.mg_of X G aE12, _, _, _, _, _, _, _, _, _, _, _, _, _, lE12⟩
  have XA : ExAll K mg E0 exOwn exRs := ⟨⟨hnX, htX⟩, X0, fun n hn => by
      simp only [exOwn, List.mem_cons, List.not_mem_nil, or_false] at hn
      rcases hn with rfl | rfl | rfl | rfl | rfl | rfl | rfl | rfl | rfl | rfl | rfl | rfl | rfl
      · exact ⟨_, X0⟩
      · exact ⟨_, X1⟩
      · exact ⟨_, X2⟩
      · exact ⟨_, X3⟩
      · exact ⟨_, X4⟩
      · exact ⟨_, X5⟩
      · exact ⟨_, X6⟩
      · exact ⟨_, X7⟩
      · exact ⟨_, X8⟩
      · exact ⟨_, X9⟩
      · exact ⟨_, X10⟩
      · exact ⟨_, X11⟩
      · exact ⟨_, X12⟩, fun n hn => by
      simp only [exRs, List.mem_cons, List.not_mem_nil, or_false] at hn
      rcases hn with rfl | rfl | rfl
      · exact ⟨_, X1, gE1, hE1, cE1, vE1⟩
      · exact ⟨_, X7, gE7, hE7, cE7, vE7⟩
      · exact ⟨_, X10, gE10, hE10, cE10, vE10⟩⟩
  have T : Tx K mg (fun n : Nat => ([f0, f1, f2, f3, f4, f5, f6, f7, f8, f9, f10, f11, f12, f13, f14, f15, f16, f17, f18, f19, f20, f21, fa, fX] : List Addr).getD n 0) (fun n : Nat => ([(PySem.W.fnOf "dot" "dot" (defArgs s_dot) (defBody s_dot) (defScope s_dot) .none kV0 dc0 pm0 an0 cd0 ct0), (PySem.W.fnOf "rows" "Matrix.rows" (defArgs s_Matrix_rows) (defBody s_Matrix_rows) (defScope s_Matrix_rows) .none kV1 dc1 pm1 an1 cd1 ct1), (PySem.W.fnOf "bottom" "Matrix.bottom" (defArgs s_Matrix_bottom) (defBody s_Matrix_bottom) (defScope s_Matrix_bottom) .none kV2 dc2 pm2 an2 cd2 ct2), (PySem.W.fnOf "__len__" "Matrix.__len__" (defArgs s_Matrix_len) (defBody s_Matrix_len) (defScope s_Matrix_len) .none kV3 dc3 pm3 an3 cd3 ct3), (PySem.W.fnOf "_common_divisor" "_common_divisor" (defArgs s_common_divisor) (defBody s_common_divisor) (defScope s_common_divisor) .none kV4 dc4 pm4 an4 cd4 ct4), (PySem.W.fnOf "_filled_place" "_filled_place" (defArgs s_filled_place) (defBody s_filled_place) (defScope s_filled_place) .none kV5 dc5 pm5 an5 cd5 ct5), (PySem.W.fnOf "_cleared" "_cleared" (defArgs s_cleared) (defBody s_cleared) (defScope s_cleared) .none kV6 dc6 pm6 an6 cd6 ct6), (PySem.W.fnOf "_law_pool" "_law_pool" (defArgs s_law_pool) (defBody s_law_pool) (defScope s_law_pool) .none kV7 dc7 pm7 an7 cd7 ct7), (PySem.W.fnOf "_law_draw" "_law_draw" (defArgs s_law_draw) (defBody s_law_draw) (defScope s_law_draw) .none kV8 dc8 pm8 an8 cd8 ct8), (PySem.W.fnOf "_law_kind" "_law_kind" (defArgs s_law_kind) (defBody s_law_kind) (defScope s_law_kind) .none kV9 dc9 pm9 an9 cd9 ct9), (PySem.W.fnOf "_volume" "_volume" (defArgs s_volume) (defBody s_volume) (defScope s_volume) .none kV10 dc10 pm10 an10 cd10 ct10), (PySem.W.fnOf "_law_lines" "_law_lines" (defArgs s_law_lines) (defBody s_law_lines) (defScope s_law_lines) .none kV11 dc11 pm11 an11 cd11 ct11), (PySem.W.fnOf "_law_under" "_law_under" (defArgs s_law_under) (defBody s_law_under) (defScope s_law_under) .none kV12 dc12 pm12 an12 cd12 ct12), (PySem.W.fnOf "_law_spoilt" "_law_spoilt" (defArgs s_law_spoilt) (defBody s_law_spoilt) (defScope s_law_spoilt) .none kV13 dc13 pm13 an13 cd13 ct13), (PySem.W.fnOf "_check_matrix" "_check_matrix" (defArgs s_check_matrix) (defBody s_check_matrix) (defScope s_check_matrix) .none kV14 dc14 pm14 an14 cd14 ct14), (PySem.W.fnOf "_cofactor" "_cofactor" (defArgs s_cofactor) (defBody s_cofactor) (defScope s_cofactor) .none kV15 dc15 pm15 an15 cd15 ct15), (PySem.W.fnOf "_law_flat" "_law_flat" (defArgs s_law_flat) (defBody s_law_flat) (defScope s_law_flat) .none kV16 dc16 pm16 an16 cd16 ct16), (PySem.W.fnOf "__init__" "Matrix.__init__" (defArgs s_Matrix_init) (defBody s_Matrix_init) (defScope s_Matrix_init) .none kV17 dc17 pm17 an17 cd17 ct17), (PySem.W.fnOf "after" "Matrix.after" (defArgs s_Matrix_after) (defBody s_Matrix_after) (defScope s_Matrix_after) .none kV18 dc18 pm18 an18 cd18 ct18), (PySem.W.fnOf "inverse" "Matrix.inverse" (defArgs s_Matrix_inverse) (defBody s_Matrix_inverse) (defScope s_Matrix_inverse) .none kV19 dc19 pm19 an19 cd19 ct19), (PySem.W.fnOf "_law_caught" "_law_caught" (defArgs s_law_caught) (defBody s_law_caught) (defScope s_law_caught) .none kV20 dc20 pm20 an20 cd20 ct20), (PySem.W.fnOf "_law_right" "_law_right" (defArgs s_law_right) (defBody s_law_right) (defScope s_law_right) .none kV21 dc21 pm21 an21 cd21 ct21), (PySem.W.fnOf "law" "law" (defArgs s_law) (defBody s_law) (defScope s_law) .none kV22 dc22 pm22 an22 cd22 ct22), (PySem.W.fnOf "__init__" "LiftError.__init__" (defArgs s_Exc) (defBody s_Exc) (defScope s_Exc) .none kVX dcX pmX anX cdX ctX)] : List FuncData).getD n (PySem.W.fnOf "dot" "dot" (defArgs s_dot) (defBody s_dot) (defScope s_dot) .none kV0 dc0 pm0 an0 cd0 ct0)) (fun n : Nat => ([C0] : List Addr).getD n 0) (fun n : Nat => ([0, p1, p2, 0, 0, 0, 0, 0, 0, 0, 0, 0, 0, 0, 0, 0, 0, 0, 0, 0, 0, 0, 0] : List Addr).getD n 0) (fun n : Nat => ([E0, E1, E2, E3, E4, E5, E6, E7, E8, E9, E10, E11, E12] : List Addr).getD n 0) := ⟨F0,
    b0,
    PySem.W.mg_of X G at0,
    F1,
    b1,
    F2,
    b2,
    F3,
    b3,
    F4,
    b4,
    PySem.W.mg_of X G at4,
    F5,
    b5,
    PySem.W.mg_of X G at5,
    F6,
    b6,
    PySem.W.mg_of X G at6,
    F7,
    b7,
    PySem.W.mg_of X G at7,
    F8,
    b8,
    PySem.W.mg_of X G at8,
    F9,
    b9,
    PySem.W.mg_of X G at9,
    F10,
    b10,
    PySem.W.mg_of X G at10,
    F11,
    b11,
    PySem.W.mg_of X G at11,
    F12,
    b12,
    PySem.W.mg_of X G at12,
    F13,
    b13,
    PySem.W.mg_of X G at13,
    F14,
    b14,
    PySem.W.mg_of X G at14,
    F15,
    b15,
    PySem.W.mg_of X G at15,
    F16,
    b16,
    PySem.W.mg_of X G at16,
    F17,
    b17,
    F18,
    b18,
    F19,
    b19,
    F20,
    b20,
    PySem.W.mg_of X G at20,
    F21,
    b21,
    PySem.W.mg_of X G at21,
    F22,
    b22,
    PySem.W.mg_of X G at22,
    PySem.W.mg_none_of X G z_ValueError,
    PySem.W.mg_none_of X G z_abs,
    PySem.W.mg_none_of X G z_enumerate,
    PySem.W.mg_none_of X G z_int,
    PySem.W.mg_none_of X G z_isinstance,
    PySem.W.mg_none_of X G z_len,
    PySem.W.mg_none_of X G z_list,
    PySem.W.mg_none_of X G z_max,
    PySem.W.mg_none_of X G z_min,
    PySem.W.mg_none_of X G z_range,
    PySem.W.mg_none_of X G z_repr,
    PySem.W.mg_none_of X G z_sum,
    PySem.W.mg_none_of X G z_zip,
    PySem.W.mg_of X G zm_gcd,
    ⟨fun s us ws _ l1 l2 => .of_eq (match us, ws, l1, l2 with | [_], [_], _, _ => rfl), fun r1 r2 => pick_vals (r1.append r2) _⟩,
    PySem.W.mg_of X G aC0,
    ⟨pg0, hd0, po0, sa0⟩,
    ⟨ia0, ib0, ic0, im0⟩,
    ⟨pa1, pb1, pc1, r1, pd1⟩,
    ⟨pa2, pb2, pc2, r2, pd2⟩,
    at3,
    fn3,
    ⟨mk0, at17, fn17, kc0⟩,
    nf0_rows,
    nf0_bottom,
    ⟨at18, fn18, kk18⟩,
    ⟨at19, fn19, kk19⟩,
    FX,
    bX,
    vVX,
    XA,
    X0.g,
    X1.g,
    ⟨X1.g, ⟨⟨_, _, _, _, _, _, _, _, _, _, _, _, _, _, _, lE1, bm_ve E0 "InvalidMatrix"⟩, sE1, X1.base, X1.ty, kE1⟩, vE1, iE1, tX⟩,
    X2.g,
    X3.g,
    X4.g,
    X5.g,
    X6.g,
    X7.g,
    ⟨X7.g, ⟨⟨_, _, _, _, _, _, _, _, _, _, _, _, _, _, _, lE7, bm_ve E0 "OtherChannels"⟩, sE7, X7.base, X7.ty, kE7⟩, vE7, iE7, tX⟩,
    X8.g,
    X9.g,
    X10.g,
    ⟨X10.g, ⟨⟨_, _, _, _, _, _, _, _, _, _, _, _, _, _, _, lE10, bm_ve E0 "Singular"⟩, sE10, X10.base, X10.ty, kE10⟩, vE10, iE10, tX⟩,
    X11.g,
    X12.g⟩
  exact ⟨(PySem.W.fnOf "law" "law" (defArgs s_law) (defBody s_law) (defScope s_law) .none kV22 dc22 pm22 an22 cd22 ct22), fun s v => .of_eq rfl, fun base _ _ => (ok_law T).imp (fun vs H Q E h => law_spec K mg hG vs H Q E h)⟩
end K03
open PySem PySem.W PyProof.Rows in
set_option maxRecDepth 100000 in
set_option maxHeartbeats 0 in
theorem PySem.Challenge.cw_liftsteps_k03_errors_of_matrices_holds : PySem.Challenge.rw_liftsteps_k03_errors_of_matrices.Holds := by
  w_on; o_law; k_head; (case hw => w_witness2)
  k_fill
  refine PK.walkLawG (l := PySem.Challenge.rw_liftsteps_k03_errors_of_matrices) (k := 9) rfl rfl ⟨rfl, by decide, by decide⟩ (fun w h Y => PySem.W.kIn_of Y) ?F
  case F =>
    intro w mg fa h KX G hmg
    refine' K03.all_mk KX G hmg K03.law_true ?at0 ?at4 ?at5 ?at6 ?at7 ?at8 ?at9 ?at10 ?at11 ?at12 ?at13 ?at14 ?at15 ?at16 ?at20 ?at21 ?at22 ?aC0 ?pa1 ?pb1 ?pc1 ?pd1 ?pa2 ?pb2 ?pc2 ?pd2 ?at3 ?fn3 ?at17 ?fn17 ?at18 ?fn18 ?at19 ?fn19 ?l0 ?cc0 ?kk0 ?l1 ?cc1 ?kk1 ?l2 ?cc2 ?kk2 ?l3 ?cc3 ?kk3 ?l4 ?cc4 ?kk4 ?l5 ?cc5 ?kk5 ?l6 ?cc6 ?kk6 ?l7 ?cc7 ?kk7 ?l8 ?cc8 ?kk8 ?l9 ?cc9 ?kk9 ?l10 ?cc10 ?kk10 ?l11 ?cc11 ?kk11 ?l12 ?cc12 ?kk12 ?l13 ?cc13 ?kk13 ?l14 ?cc14 ?kk14 ?l15 ?cc15 ?kk15 ?l16 ?cc16 ?kk16 ?l17 ?cc17 ?kk17 ?l18 ?cc18 ?kk18 ?l19 ?cc19 ?kk19 ?l20 ?cc20 ?kk20 ?l21 ?cc21 ?kk21 ?l22 ?cc22 ?kk22 ?pg0 ?hd0 ?po0 ?sa0 ?mk0 ?kc0 ?ia0 ?ib0 ?ic0 ?im0 ?nf0_rows ?nf0_bottom ?aE0 ?aE1 ?aE2 ?aE3 ?aE4 ?aE5 ?aE6 ?aE7 ?aE8 ?aE9 ?aE10 ?aE11 ?aE12 ?lE0 ?lE1 ?sE1 ?gE1 ?hE1 ?cE1 ?vE1 ?iE1 ?kE1 ?lE2 ?lE3 ?lE4 ?lE5 ?lE6 ?lE7 ?sE7 ?gE7 ?hE7 ?cE7 ?vE7 ?iE7 ?kE7 ?lE8 ?lE9 ?lE10 ?sE10 ?gE10 ?hE10 ?cE10 ?vE10 ?iE10 ?kE10 ?lE11 ?lE12 ?lX ?ccX ?kkX ?tX ?hnX ?htX ?vVX ?z_ValueError ?z_abs ?z_enumerate ?z_int ?z_isinstance ?z_len ?z_list ?z_max ?z_min ?z_range ?z_repr ?z_sum ?z_zip ?zm_gcd
    (case at0 => k_is)
    (case at4 => k_is)
    (case at5 => k_is)
    (case at6 => k_is)
    (case at7 => k_is)
    (case at8 => k_is)
    (case at9 => k_is)
    (case at10 => k_is)
    (case at11 => k_is)
    (case at12 => k_is)
    (case at13 => k_is)
    (case at14 => k_is)
    (case at15 => k_is)
    (case at16 => k_is)
    (case at20 => k_is)
    (case at21 => k_is)
    (case at22 => k_is)
    (case aC0 => k_is)
    (case pa1 => k_is)
    (case pb1 => k_is)
    (case pc1 => k_is)
    (case pd1 => k_is)
    (case pa2 => k_is)
    (case pb2 => k_is)
    (case pc2 => k_is)
    (case pd2 => k_is)
    (case at3 => k_is)
    (case fn3 => k_is)
    (case at17 => k_is)
    (case fn17 => k_is)
    (case at18 => k_is)
    (case fn18 => k_is)
    (case at19 => k_is)
    (case fn19 => k_is)
    (case l0 => k_is)
    (case cc0 => k_is)
    (case kk0 => k_is)
    (case l1 => k_is)
    (case cc1 => k_is)
    (case kk1 => k_is)
    (case l2 => k_is)
    (case cc2 => k_is)
    (case kk2 => k_is)
    (case l3 => k_is)
    (case cc3 => k_is)
    (case kk3 => k_is)
    (case l4 => k_is)
    (case cc4 => k_is)
    (case kk4 => k_is)
    (case l5 => k_is)
    (case cc5 => k_is)
    (case kk5 => k_is)
    (case l6 => k_is)
    (case cc6 => k_is)
    (case kk6 => k_is)
    (case l7 => k_is)
    (case cc7 => k_is)
    (case kk7 => k_is)
    (case l8 => k_is)
    (case cc8 => k_is)
    (case kk8 => k_is)
    (case l9 => k_is)
    (case cc9 => k_is)
    (case kk9 => k_is)
    (case l10 => k_is)
    (case cc10 => k_is)
    (case kk10 => k_is)
    (case l11 => k_is)
    (case cc11 => k_is)
    (case kk11 => k_is)
    (case l12 => k_is)
    (case cc12 => k_is)
    (case kk12 => k_is)
    (case l13 => k_is)
    (case cc13 => k_is)
    (case kk13 => k_is)
    (case l14 => k_is)
    (case cc14 => k_is)
    (case kk14 => k_is)
    (case l15 => k_is)
    (case cc15 => k_is)
    (case kk15 => k_is)
    (case l16 => k_is)
    (case cc16 => k_is)
    (case kk16 => k_is)
    (case l17 => k_is)
    (case cc17 => k_is)
    (case kk17 => k_is)
    (case l18 => k_is)
    (case cc18 => k_is)
    (case kk18 => k_is)
    (case l19 => k_is)
    (case cc19 => k_is)
    (case kk19 => k_is)
    (case l20 => k_is)
    (case cc20 => k_is)
    (case kk20 => k_is)
    (case l21 => k_is)
    (case cc21 => k_is)
    (case kk21 => k_is)
    (case l22 => k_is)
    (case cc22 => k_is)
    (case kk22 => k_is)
    (case pg0 => k_is)
    (case hd0 => k_is)
    (case po0 => k_is)
    (case sa0 => k_is)
    (case mk0 => k_is)
    (case kc0 => k_is)
    (case ia0 => k_is)
    (case ib0 => k_is)
    (case ic0 => k_is)
    (case im0 => k_is)
    (case nf0_rows => k_is)
    (case nf0_bottom => k_is)
    (case aE0 => k_is)
    (case aE1 => k_is)
    (case aE2 => k_is)
    (case aE3 => k_is)
    (case aE4 => k_is)
    (case aE5 => k_is)
    (case aE6 => k_is)
    (case aE7 => k_is)
    (case aE8 => k_is)
    (case aE9 => k_is)
    (case aE10 => k_is)
    (case aE11 => k_is)
    (case aE12 => k_is)
    (case lE0 => k_is)
    (case lE1 => k_is)
    (case sE1 => k_is)
    (case gE1 => k_is)
    (case hE1 => k_is)
    (case cE1 => k_is)
    (case vE1 => k_is)
    (case iE1 => k_is)
    (case kE1 => k_is)
    (case lE2 => k_is)
    (case lE3 => k_is)
    (case lE4 => k_is)
    (case lE5 => k_is)
    (case lE6 => k_is)
    (case lE7 => k_is)
    (case sE7 => k_is)
    (case gE7 => k_is)
    (case hE7 => k_is)
    (case cE7 => k_is)
    (case vE7 => k_is)
    (case iE7 => k_is)
    (case kE7 => k_is)
    (case lE8 => k_is)
    (case lE9 => k_is)
    (case lE10 => k_is)
    (case sE10 => k_is)
    (case gE10 => k_is)
    (case hE10 => k_is)
    (case cE10 => k_is)
    (case vE10 => k_is)
    (case iE10 => k_is)
    (case kE10 => k_is)
    (case lE11 => k_is)
    (case lE12 => k_is)
    (case lX => k_is)
    (case ccX => k_is)
    (case kkX => k_is)
    (case tX => k_is)
    (case hnX => k_is)
    (case htX => k_is)
    (case vVX => k_is)
    (case z_ValueError => k_is)
    (case z_abs => k_is)
    (case z_enumerate => k_is)
    (case z_int => k_is)
    (case z_isinstance => k_is)
    (case z_len => k_is)
    (case z_list => k_is)
    (case z_max => k_is)
    (case z_min => k_is)
    (case z_range => k_is)
    (case z_repr => k_is)
    (case z_sum => k_is)
    (case z_zip => k_is)
    (case zm_gcd => k_is)
#print axioms PySem.Challenge.cw_liftsteps_k03_errors_of_matrices_holds
