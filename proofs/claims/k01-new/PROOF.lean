import PyProof.Rows.All
import Wide.All
import OpenK.AllK
import Wide.FinOn
import HandS.ForMost
import HandS.ForExc
import HandS.IsInst
import HandS.Style
import HandS.TryMany
import HandS.CallSlots
import HandS.Defaults
import HandS.TupAny
import HandS.Star
import HandS.Strs
import HandS.Zip0
import HandS.RevTup
import PyProof.EqAt
import PyProof.EqKinds
import PyProof.TupleCall
import Open.SpecLaws
import KE.OsGo
import HandS.ForSpec
import PyProof.ReprRoads
import PyProof.StrLawsRepr
import PyProof.Rows.RegStrFacts
import HandS.RaiseMore
import HandS.Property
import HandS.MakeKwOnly
import HandS.Walk
import PyProof.Draws
import KE.GoesMore
import PyProof.ZipIter
import HandS.TupMul
import HandS.SetFor
import HandS.Zip
import HandS.Conv
import HandS.ExcOwn
import HandS.OwnEq
import HandS.WordsExc
import HandS.DictEq
import HandS.DeepEq
import KE.KDictCopyH
import HandS.Dict
import KE.KExcIs
import HandS.ExcField
import HandS.HotCalls
import PySem.Challenge.RW_cellpictures_k01_ways_and_maps
set_option Elab.async false
set_option linter.all false
set_option maxRecDepth 100000
namespace Sv
open PySem L2

/-! ## data -/
inductive Dat where
  | non | bl (b : Bool) | int (i : Int) | str (x : Str) | tup (ds : List Dat) | lst (ds : List Dat) | scr (ds : List Dat) | dct (ks : List Key) (ds : List Dat) | ins (cn : Str) (fs : List Str) (ds : List Dat) | dno | fn (x : Str)
/-- a tuple without a dict of its own: made here, or of the written part -/
def TupAt (K : PySem.W.Frag) (H : Hp) (a : Addr) (vs : List V) : Prop := (∃ o : Obj, H a = some (.frz o (.tup vs)) ∧ o.dict = none) ∨
  ∃ (o : Obj) (its : Array Value) (n : Nat), K.lookup a = some o ∧ o.cls = .type "tuple" ∧ o.dict = none ∧ o.data = .seq its n ∧ its.size ≤ sizeLine ∧ Vals vs its.toList
theorem TupAt.sq {K : PySem.W.Frag} {H : Hp} {a : Addr} {vs : List V} (h : TupAt K H a vs) : SqT K H a vs := by
  rcases h with ⟨o, h, _⟩ | ⟨o, its, n, h1, h2, _, h4⟩
  · exact .inl (.inr ⟨o, h⟩)
  · exact .inr ⟨o, its, n, h1, h2, h4⟩
theorem TupAt.mono {K : PySem.W.Frag} {H H' : Hp} {a : Addr} {vs : List V} (e : Same H H') (h : TupAt K H a vs) : TupAt K H' a vs := by
  rcases h with ⟨o, h, d⟩ | h
  · exact .inl ⟨o, e _ _ h, d⟩
  · exact .inr h
/-- a dict of one entry, its key None -/
def NoO (o : Obj) : Prop := o.ExactDict ∧ ∃ (hh : Int) (vv : Value) (ep : Nat), o.data = .dict #[⟨hh, .none, vv⟩] ep
def NoD (a : Addr) (o : Obj) : Heap → Prop := fun h => h.get? a = some o
mutual
inductive Rep (K : PySem.W.Frag) (H : Hp) : V → Dat → Prop
  | non : Rep K H .non .non
  | bl (b : Bool) : Rep K H (.bl b) (.bl b)
  | int (i : Int) : Rep K H (.int i) (.int i)
  | str (x : Str) : Rep K H (.str x) (.str x)
  | tup {a : Addr} {vs : List V} {ds : List Dat} : TupAt K H a vs → RepA K H vs ds → Rep K H (.ref a) (.tup ds)
  | lst {a : Addr} {vs : List V} {ds : List Dat} : Rd H a (.lst vs) → RepA K H vs ds → Rep K H (.ref a) (.lst ds)
  | scr {a : Addr} {vs : List V} {ds : List Dat} : SqL K H a vs → RepA K H vs ds → Rep K H (.ref a) (.scr ds)
  | dct {a : Addr} {o : Obj} {kvs : List (Key × V)} {ks : List Key} {ds : List Dat} : H a = some (.frz o (.dK kvs)) → kvs.map (·.1) = ks → RepA K H (kvs.map (·.2)) ds → Rep K H (.ref a) (.dct ks ds)
  | ins {a C dx : Addr} {fvs : List (Str × V)} {cn : Str} {fs : List Str} {ds : List Dat} : H a = some (.ins C dx fvs) → PySem.W.nsIn K mainGlobals cn = some (some (.ref C)) → fvs.map (·.1) = fs → RepA K H (fvs.map (·.2)) ds → Rep K H (.ref a) (.ins cn fs ds)
  | dno {a : Addr} {o : Obj} : H a = some (.ext (NoD a o)) → NoO o → (a == sysModules) = false → Rep K H (.ref a) .dno
  | fn {a : Addr} {x : Str} : PySem.W.nsIn K mainGlobals x = some (some (.ref a)) → Rep K H (.ref a) (.fn x)
inductive RepA (K : PySem.W.Frag) (H : Hp) : List V → List Dat → Prop
  | nil : RepA K H [] []
  | cons {v : V} {vs : List V} {d : Dat} {ds : List Dat} : Rep K H v d → RepA K H vs ds → RepA K H (v :: vs) (d :: ds)
end
section
variable {K : PySem.W.Frag} {H H' : Hp}
theorem sameT {a : Addr} {xs : List V} (e : Same H H') (h : SqT K H a xs) : SqT K H' a xs := by
  rcases h with (h | ⟨o, h⟩) | h
  · exact .inl (.inl (e _ _ h))
  · exact .inl (.inr ⟨o, e _ _ h⟩)
  · exact .inr h
theorem sameRd {a : Addr} {u : HO} (e : Same H H') (h : Rd H a u) : Rd H' a u := by
  rcases h with h | ⟨o, h⟩
  · exact .inl (e _ _ h)
  · exact .inr ⟨o, e _ _ h⟩
theorem sameL {a : Addr} {xs : List V} (e : Same H H') (h : SqL K H a xs) : SqL K H' a xs := by
  rcases h with h | h
  · exact .inl (sameRd e h)
  · exact .inr h
mutual
theorem Rep.mono (e : Same H H') : ∀ {d : Dat} {v : V}, Rep K H v d → Rep K H' v d
  | .non, _, h => by cases h; exact .non
  | .bl b, _, h => by cases h; exact .bl b
  | .int i, _, h => by cases h; exact .int i
  | .str x, _, h => by cases h; exact .str x
  | .tup ds, _, h => by
    cases h with
    | tup h1 h2 => exact .tup (h1.mono e) (RepA.mono e h2)
  | .lst ds, _, h => by
    cases h with
    | lst h1 h2 => exact .lst (sameRd e h1) (RepA.mono e h2)
  | .scr ds, _, h => by
    cases h with
    | scr h1 h2 => exact .scr (sameL e h1) (RepA.mono e h2)
  | .dct ks ds, _, h => by
    cases h with
    | dct h1 h2 h3 => exact .dct (e _ _ h1) h2 (RepA.mono e h3)
  | .ins cn fs ds, _, h => by
    cases h with
    | ins h1 h0 h2 h3 => exact .ins (e _ _ h1) h0 h2 (RepA.mono e h3)
  | .dno, _, h => by
    cases h with
    | dno h1 h2 h3 => exact .dno (e _ _ h1) h2 h3
  | .fn x, _, h => by
    cases h with
    | fn h1 => exact .fn h1
theorem RepA.mono (e : Same H H') : ∀ {ds : List Dat} {vs : List V}, RepA K H vs ds → RepA K H' vs ds
  | [], _, h => by cases h; exact .nil
  | d :: ds, _, h => by
    cases h with
    | cons h1 h2 => exact .cons (Rep.mono e h1) (RepA.mono e h2)
end
theorem RepA.length : ∀ {ds : List Dat} {vs : List V}, RepA K H vs ds → vs.length = ds.length
  | [], _, h => by cases h; rfl
  | d :: ds, _, h => by
    cases h with
    | cons h1 h2 => show _ + 1 = _ + 1; rw [RepA.length h2]
theorem RepA.get : ∀ {ds : List Dat} {vs : List V} {i : Nat} {d : Dat}, RepA K H vs ds → ds[i]? = some d → ∃ v, vs[i]? = some v ∧ Rep K H v d
  | [], _, _, _, _, e => by simp at e
  | d :: ds, _, 0, _, .cons h1 h2, e => by simp at e; subst e; exact ⟨_, rfl, h1⟩
  | d :: ds, _, i + 1, x, .cons h1 h2, e => by
    obtain ⟨v, q1, q2⟩ := RepA.get (i := i) h2 (by simpa using e)
    exact ⟨v, by simpa using q1, q2⟩
theorem RepA.getV : ∀ {ds : List Dat} {vs : List V} {i : Nat} {v : V}, RepA K H vs ds → vs[i]? = some v → ∃ d, ds[i]? = some d ∧ Rep K H v d
  | [], _, _, _, h, e => by cases h; simp at e
  | d :: ds, _, 0, _, .cons h1 h2, e => by simp at e; subst e; exact ⟨_, rfl, h1⟩
  | d :: ds, _, i + 1, x, .cons h1 h2, e => by
    obtain ⟨v, q1, q2⟩ := RepA.getV (i := i) h2 (by simpa using e)
    exact ⟨v, by simpa using q1, q2⟩
theorem RepA.app : ∀ {ds es : List Dat} {vs us : List V}, RepA K H vs ds → RepA K H us es → RepA K H (vs ++ us) (ds ++ es)
  | [], _, _, _, h, s => by cases h; exact s
  | d :: ds, _, _, _, .cons h1 h2, s => .cons h1 (RepA.app h2 s)
theorem RepA.set : ∀ {ds : List Dat} {vs : List V} {v : V} {d : Dat} (i : Nat), Rep K H v d → RepA K H vs ds → RepA K H (vs.set i v) (ds.set i d)
  | [], _, _, _, _, _, h => by cases h; exact .nil
  | _ :: _, _, _, _, 0, r, .cons h1 h2 => .cons r h2
  | _ :: _, _, _, _, i + 1, r, .cons h1 h2 => .cons h1 (RepA.set i r h2)
theorem RepA.rev {ds : List Dat} {vs : List V} (h : RepA K H vs ds) : RepA K H vs.reverse ds.reverse := by
  induction ds generalizing vs with
  | nil => cases h; exact .nil
  | cons d ds ih =>
    cases h with
    | cons h1 h2 =>
      rw [List.reverse_cons, List.reverse_cons]
      exact (ih h2).app (.cons h1 .nil)
theorem RepA.of_get : ∀ {ds : List Dat} {vs : List V}, vs.length = ds.length → (∀ (i : Nat) (v : V) (d : Dat), vs[i]? = some v → ds[i]? = some d → Rep K H v d) → RepA K H vs ds
  | [], [], _, _ => .nil
  | [], _ :: _, h, _ => by simp at h
  | _ :: _, [], h, _ => by simp at h
  | d :: ds, v :: vs, h, k => .cons (k 0 v d rfl rfl) (RepA.of_get (by simpa using h) fun i u e h1 h2 => k (i + 1) u e (by simpa using h1) (by simpa using h2))
end

/-! ## slots, the relation -/
inductive Sl where
  | un | val (d : Dat) | own (ds : List Dat) | ino (ds : List Dat)
abbrev En := List Sl
def LstAt (K : PySem.W.Frag) (H H0 : Hp) (a : Addr) (ds : List Dat) : Prop := ∃ vs, H a = some (.lst vs) ∧ RepA K H0 vs ds
def mutS (ρ : En) (i : Nat) : Prop := (∃ ds, ρ[i]? = some (.own ds)) ∨ (∃ ds, ρ[i]? = some (.ino ds))

/-- what stands fast while a body runs: the entry's heap, the lists handed in (by slot), lists in the making -/
structure Fx where
  He : Hp
  G : Hp
  io : Nat → Option Addr
  rs : List (Addr × HO)

structure Rel (K : PySem.W.Frag) (x : Fx) (σ : L2.St) (H H0 : Hp) (ρ : En) : Prop where
  sub : Same H0 H
  ent : ∀ b o, x.He b = some o → (∀ i, x.io i ≠ some b) → H b = some o
  len : ρ.length = σ.length
  val : ∀ (i : Nat) (d : Dat), ρ[i]? = some (.val d) → ∃ v, σ[i]? = some (some v) ∧ Rep K H0 v d
  own : ∀ (i : Nat) (ds : List Dat), ρ[i]? = some (.own ds) → ∃ a : Addr, σ[i]? = some (some (V.ref a)) ∧ x.He a = none ∧ H0 a = none ∧ LstAt K H H0 a ds
  ino : ∀ (i : Nat) (ds : List Dat), ρ[i]? = some (.ino ds) → ∃ a : Addr, x.io i = some a ∧ σ[i]? = some (some (.ref a)) ∧ H0 a = none ∧ LstAt K H H0 a ds
  iow : ∀ (i : Nat) (a : Addr), x.io i = some a → ∃ ds, ρ[i]? = some (.ino ds)
  apart : ∀ (i j : Nat) (a : Addr), i ≠ j → mutS ρ i → mutS ρ j → σ[i]? = some (some (.ref a)) → σ[j]? ≠ some (some (.ref a))
  old : ∀ (a : Addr) (o : HO), x.He a = some o → x.G a = none → H0 a = none
  rsv : ∀ (a : Addr) (o : HO), (a, o) ∈ x.rs → H a = some o ∧ H0 a = none ∧ x.He a = none ∧ ∀ j, mutS ρ j → σ[j]? ≠ some (some (.ref a))

theorem LstAt.mono {K : PySem.W.Frag} {H H' H0 H0' : Hp} {a : Addr} {ds : List Dat} (h : LstAt K H H0 a ds) (e : H' a = H a) (s : Same H0 H0') : LstAt K H' H0' a ds := by
  obtain ⟨vs, h1, h2⟩ := h
  exact ⟨vs, by rw [e]; exact h1, h2.mono s⟩

section
variable {K : PySem.W.Frag} {x : Fx} {σ : L2.St} {H H0 H' H0' : Hp} {ρ : En}
/-- the known part and the heap grow, what stands stays -/
theorem Rel.grow (r : Rel K x σ H H0 ρ) (k : Same H H') (s : Same H0 H0') (s' : Same H0' H') (fr : ∀ a o, H a = some o → H0 a = none → H0' a = none) : Rel K x σ H' H0' ρ where
  sub := s'
  ent := fun b o h1 h2 => k _ _ (r.ent b o h1 h2)
  len := r.len
  val := fun i d e => let ⟨v, h1, h2⟩ := r.val i d e; ⟨v, h1, h2.mono s⟩
  own := fun i ds e => by
    obtain ⟨a, h1, h2, h3, vs, h4, h5⟩ := r.own i ds e
    exact ⟨a, h1, h2, fr a _ h4 h3, vs, k _ _ h4, h5.mono s⟩
  ino := fun i ds e => by
    obtain ⟨a, h1, h2, h3, vs, h4, h5⟩ := r.ino i ds e
    exact ⟨a, h1, h2, fr a _ h4 h3, vs, k _ _ h4, h5.mono s⟩
  iow := r.iow
  apart := r.apart
  old := fun a o h1 h2 => by
    obtain ⟨u, hu⟩ : ∃ u, H a = some u := by
      by_cases hi : ∀ i, x.io i ≠ some a
      · exact ⟨o, r.ent a o h1 hi⟩
      · obtain ⟨i, hi⟩ := Classical.not_forall.mp hi
        have hi : x.io i = some a := Classical.not_not.mp hi
        obtain ⟨ds, e⟩ := r.iow i a hi
        obtain ⟨b, q1, q2, q3, vs, q4, q5⟩ := r.ino i ds e
        rw [hi] at q1
        cases q1
        exact ⟨_, q4⟩
    exact fr a u hu (r.old a o h1 h2)
  rsv := fun a o e => let ⟨h1, h2, h3, h4⟩ := r.rsv a o e; ⟨k _ _ h1, fr a o h1 h2, h3, h4⟩
theorem Rel.fresh (r : Rel K x σ H H0 ρ) {p : Addr} (h : H p = none) : x.He p = none ∧ H0 p = none := by
  refine ⟨?_, r.sub.free h⟩
  cases q : x.He p with
  | none => rfl
  | some o =>
    by_cases hi : ∀ i, x.io i ≠ some p
    · rw [r.ent p o q hi] at h; cases h
    · obtain ⟨i, hi⟩ := Classical.not_forall.mp hi
      have hi : x.io i = some p := Classical.not_not.mp hi
      obtain ⟨ds, e⟩ := r.iow i p hi
      obtain ⟨a, h1, h2, h3, vs, h4, h5⟩ := r.ino i ds e
      rw [hi] at h1
      cases h1
      rw [h4] at h; cases h
/-- a new object is laid and known -/
theorem Rel.new (r : Rel K x σ H H0 ρ) {p : Addr} (o : HO) (h : H p = none) : Rel K x σ (upd H p o) (upd H0 p o) ρ ∧ Same H0 (upd H0 p o) := by
  have h0 := (r.fresh h).2
  have s0 : Same H0 (upd H0 p o) := fun b u e => by rw [upd_ne (ne_of_none e h0)]; exact e
  have s1 : Same H (upd H p o) := fun b u e => by rw [upd_ne (ne_of_none e h)]; exact e
  refine ⟨r.grow s1 s0 (fun b u e => ?_) (fun a u ha hn => ?_), s0⟩
  · by_cases hb : b = p
    · subst hb; rw [upd_same] at e ⊢; exact e
    · rw [upd_ne hb] at e ⊢; exact r.sub _ _ e
  · rw [upd_ne (ne_of_none ha h)]; exact hn
/-- a new object is laid, not known -/
theorem Rel.new' (r : Rel K x σ H H0 ρ) {p : Addr} (o : HO) (h : H p = none) : Rel K x σ (upd H p o) H0 ρ := by
  have s1 : Same H (upd H p o) := fun b u e => by rw [upd_ne (ne_of_none e h)]; exact e
  exact r.grow s1 (Same.refl _) (r.sub.trans s1) fun _ _ _ h => h
theorem get_set {α : Type} {l : List α} {i j : Nat} {z y : α} (h : (l.set i z)[j]? = some y) : (j = i ∧ y = z ∧ i < l.length) ∨ (j ≠ i ∧ l[j]? = some y) := by
  by_cases e : i = j
  · subst e
    by_cases hl : i < l.length
    · rw [List.getElem?_set_self hl] at h; cases h; exact .inl ⟨rfl, rfl, hl⟩
    · rw [List.getElem?_eq_none (by simpa using hl)] at h; cases h
  · rw [List.getElem?_set_ne e] at h; exact .inr ⟨fun z => e z.symm, h⟩
theorem mutS_set {y : Sl} {i j : Nat} (hx : ∀ ds, y ≠ .own ds ∧ y ≠ .ino ds) (h : mutS (ρ.set i y) j) : j ≠ i ∧ mutS ρ j := by
  rcases h with ⟨ds, h⟩ | ⟨ds, h⟩
  · rcases get_set h with ⟨_, e, _⟩ | ⟨ne, e⟩
    · exact absurd e.symm (hx ds).1
    · exact ⟨ne, .inl ⟨ds, e⟩⟩
  · rcases get_set h with ⟨_, e, _⟩ | ⟨ne, e⟩
    · exact absurd e.symm (hx ds).2
    · exact ⟨ne, .inr ⟨ds, e⟩⟩
theorem mutS_val {d : Dat} {i j : Nat} (h : mutS (ρ.set i (.val d)) j) : j ≠ i ∧ mutS ρ j := mutS_set (y := .val d) (fun _ => ⟨nofun, nofun⟩) h
theorem mutS_un {i j : Nat} (h : mutS (ρ.set i .un) j) : j ≠ i ∧ mutS ρ j := mutS_set (y := .un) (fun _ => ⟨nofun, nofun⟩) h
theorem Rel.noio (r : Rel K x σ H H0 ρ) {i : Nat} (h : ∀ ds, ρ[i]? ≠ some (.ino ds)) : x.io i = none := by
  cases q : x.io i with
  | none => rfl
  | some a =>
    obtain ⟨ds, e⟩ := r.iow i a q
    exact absurd e (h ds)
/-- a slot gets a known value -/
theorem Rel.setv (r : Rel K x σ H H0 ρ) {i : Nat} {v : V} {d : Dat} (hi : ∀ ds, ρ[i]? ≠ some (.ino ds)) (h : Rep K H0 v d) : Rel K x (σ.set i (some v)) H H0 (ρ.set i (.val d)) where
  sub := r.sub
  ent := r.ent
  len := by rw [List.length_set, List.length_set]; exact r.len
  val := fun j e q => by
    rcases get_set q with ⟨rfl, z, hl⟩ | ⟨ne, q⟩
    · cases z
      exact ⟨v, List.getElem?_set_self (by rw [← r.len]; exact hl), h⟩
    · rw [List.getElem?_set_ne (Ne.symm ne)]; exact r.val j e q
  own := fun j ds q => by
    rcases get_set q with ⟨rfl, z, _⟩ | ⟨ne, q⟩
    · cases z
    · rw [List.getElem?_set_ne (Ne.symm ne)]; exact r.own j ds q
  ino := fun j ds q => by
    rcases get_set q with ⟨rfl, z, _⟩ | ⟨ne, q⟩
    · cases z
    · rw [List.getElem?_set_ne (Ne.symm ne)]; exact r.ino j ds q
  iow := fun j a q => by
    obtain ⟨ds, e⟩ := r.iow j a q
    have ne : i ≠ j := fun z => hi ds (z ▸ e)
    exact ⟨ds, by rw [List.getElem?_set_ne ne]; exact e⟩
  apart := fun j k a ne h1 h2 q => by
    obtain ⟨n1, h1⟩ := mutS_val h1
    obtain ⟨n2, h2⟩ := mutS_val h2
    rw [List.getElem?_set_ne (Ne.symm n1)] at q
    rw [List.getElem?_set_ne (Ne.symm n2)]
    exact r.apart j k a ne h1 h2 q
  old := r.old
  rsv := fun a o e => by
    obtain ⟨q1, q2, q3, q4⟩ := r.rsv a o e
    refine ⟨q1, q2, q3, fun j hm => ?_⟩
    obtain ⟨n, hm⟩ := mutS_val hm
    rw [List.getElem?_set_ne (Ne.symm n)]
    exact q4 j hm
/-- a slot is forgotten -/
theorem Rel.setu (r : Rel K x σ H H0 ρ) {i : Nat} {y : Option V} (hi : ∀ ds, ρ[i]? ≠ some (.ino ds)) : Rel K x (σ.set i y) H H0 (ρ.set i .un) where
  sub := r.sub
  ent := r.ent
  len := by rw [List.length_set, List.length_set]; exact r.len
  val := fun j e q => by
    rcases get_set q with ⟨rfl, z, _⟩ | ⟨ne, q⟩
    · cases z
    · rw [List.getElem?_set_ne (Ne.symm ne)]; exact r.val j e q
  own := fun j ds q => by
    rcases get_set q with ⟨rfl, z, _⟩ | ⟨ne, q⟩
    · cases z
    · rw [List.getElem?_set_ne (Ne.symm ne)]; exact r.own j ds q
  ino := fun j ds q => by
    rcases get_set q with ⟨rfl, z, _⟩ | ⟨ne, q⟩
    · cases z
    · rw [List.getElem?_set_ne (Ne.symm ne)]; exact r.ino j ds q
  iow := fun j a q => by
    obtain ⟨ds, e⟩ := r.iow j a q
    have ne : i ≠ j := fun z => hi ds (z ▸ e)
    exact ⟨ds, by rw [List.getElem?_set_ne ne]; exact e⟩
  apart := fun j k a ne h1 h2 q => by
    obtain ⟨n1, h1⟩ := mutS_un h1
    obtain ⟨n2, h2⟩ := mutS_un h2
    rw [List.getElem?_set_ne (Ne.symm n1)] at q
    rw [List.getElem?_set_ne (Ne.symm n2)]
    exact r.apart j k a ne h1 h2 q
  old := r.old
  rsv := fun a o e => by
    obtain ⟨q1, q2, q3, q4⟩ := r.rsv a o e
    refine ⟨q1, q2, q3, fun j hm => ?_⟩
    obtain ⟨n, hm⟩ := mutS_un hm
    rw [List.getElem?_set_ne (Ne.symm n)]
    exact q4 j hm
theorem mutS_at (r : Rel K x σ H H0 ρ) {i : Nat} (h : mutS ρ i) : ∃ a vs, σ[i]? = some (some (.ref a)) ∧ H a = some (.lst vs) ∧ H0 a = none := by
  rcases h with ⟨ds, h⟩ | ⟨ds, h⟩
  · obtain ⟨a, h1, h2, h3, vs, h4, h5⟩ := r.own i ds h
    exact ⟨a, vs, h1, h4, h3⟩
  · obtain ⟨a, h1, h2, h3, vs, h4, h5⟩ := r.ino i ds h
    exact ⟨a, vs, h2, h4, h3⟩
/-- a slot gets a new list of its own -/
theorem Rel.seto (r : Rel K x σ H H0 ρ) {i : Nat} {p : Addr} {vs : List V} {ds : List Dat} (hi : ∀ ds, ρ[i]? ≠ some (.ino ds)) (hp : H p = some (.lst vs)) (h0 : H0 p = none) (he : x.He p = none) (na : ∀ j, mutS ρ j → σ[j]? ≠ some (some (.ref p))) (nr : ∀ o, (p, o) ∉ x.rs) (h : RepA K H0 vs ds) :
    Rel K x (σ.set i (some (.ref p))) H H0 (ρ.set i (.own ds)) where
  sub := r.sub
  ent := r.ent
  len := by rw [List.length_set, List.length_set]; exact r.len
  val := fun j e q => by
    rcases get_set q with ⟨rfl, z, hl⟩ | ⟨ne, q⟩
    · cases z
    · rw [List.getElem?_set_ne (Ne.symm ne)]; exact r.val j e q
  own := fun j es q => by
    rcases get_set q with ⟨rfl, z, hl⟩ | ⟨ne, q⟩
    · cases z
      exact ⟨p, List.getElem?_set_self (by rw [← r.len]; exact hl), he, h0, vs, hp, h⟩
    · rw [List.getElem?_set_ne (Ne.symm ne)]; exact r.own j es q
  ino := fun j ds q => by
    rcases get_set q with ⟨rfl, z, _⟩ | ⟨ne, q⟩
    · cases z
    · rw [List.getElem?_set_ne (Ne.symm ne)]; exact r.ino j ds q
  iow := fun j a q => by
    obtain ⟨ds, e⟩ := r.iow j a q
    have ne : i ≠ j := fun z => hi ds (z ▸ e)
    exact ⟨ds, by rw [List.getElem?_set_ne ne]; exact e⟩
  apart := fun j k a ne h1 h2 q => by
    have key : ∀ m, mutS (ρ.set i (.own ds)) m → m ≠ i → mutS ρ m := fun m hm n => by
      rcases hm with ⟨es, hm⟩ | ⟨es, hm⟩ <;> rw [List.getElem?_set_ne (Ne.symm n)] at hm
      · exact .inl ⟨es, hm⟩
      · exact .inr ⟨es, hm⟩
    by_cases hj : j = i
    · subst hj
      have hk : k ≠ j := Ne.symm ne
      rw [List.getElem?_set_ne (Ne.symm hk)]
      have hlt : j < σ.length := by
        rcases get_set q with ⟨_, _, hl⟩ | ⟨n, _⟩
        · exact hl
        · exact absurd rfl n
      rw [List.getElem?_set_self hlt] at q
      cases q
      exact na k (key k h2 hk)
    · rw [List.getElem?_set_ne (Ne.symm hj)] at q
      by_cases hk : k = i
      · subst hk
        intro q2
        rcases get_set q2 with ⟨_, z, _⟩ | ⟨n, _⟩
        · cases z
          exact na j (key j h1 hj) q
        · exact n rfl
      · rw [List.getElem?_set_ne (Ne.symm hk)]
        exact r.apart j k a ne (key j h1 hj) (key k h2 hk) q
  old := r.old
  rsv := fun a o e => by
    obtain ⟨q1, q2, q3, q4⟩ := r.rsv a o e
    refine ⟨q1, q2, q3, fun j hm => ?_⟩
    by_cases hj : j = i
    · subst hj
      intro q
      rcases get_set q with ⟨_, z, _⟩ | ⟨n, _⟩
      · cases z
        exact nr o e
      · exact n rfl
    · rw [List.getElem?_set_ne (Ne.symm hj)]
      refine q4 j ?_
      rcases hm with ⟨es, hm⟩ | ⟨es, hm⟩ <;> rw [List.getElem?_set_ne (Ne.symm hj)] at hm
      · exact .inl ⟨es, hm⟩
      · exact .inr ⟨es, hm⟩
/-- a list of one's own becomes known -/
theorem Rel.freeze (r : Rel K x σ H H0 ρ) {i : Nat} {ds : List Dat} (e : ρ[i]? = some (.own ds)) :
    ∃ a H0', σ[i]? = some (some (.ref a)) ∧ Rel K x σ H H0' (ρ.set i (.val (.lst ds))) ∧ Same H0 H0' ∧ Rep K H0' (.ref a) (.lst ds) := by
  obtain ⟨a, h1, h2, h3, vs, h4, h5⟩ := r.own i ds e
  have s0 : Same H0 (upd H0 a (.lst vs)) := fun b u q => by rw [upd_ne (ne_of_none q h3)]; exact q
  have rp : Rep K (upd H0 a (.lst vs)) (.ref a) (.lst ds) := .lst (Rd.of upd_same) (h5.mono s0)
  have hm : mutS ρ i := .inl ⟨ds, e⟩
  have ne : ∀ j b, j ≠ i → mutS ρ j → σ[j]? = some (some (.ref b)) → b ≠ a := fun j b n m q z => r.apart j i b n m hm q (by rw [z]; exact h1)
  refine ⟨a, _, h1, ⟨fun b u q => ?_, r.ent, by rw [List.length_set]; exact r.len, fun j d q => ?_, fun j es q => ?_, fun j es q => ?_, fun j b q => ?_, fun j k b n m1 m2 q => ?_, fun b o q q2 => ?_, fun b o q => ?_⟩, s0, rp⟩
  · by_cases hb : b = a
    · subst hb; rw [upd_same] at q; rw [h4]; exact q
    · rw [upd_ne hb] at q; exact r.sub _ _ q
  · rcases get_set q with ⟨rfl, z, hl⟩ | ⟨n, q⟩
    · cases z; exact ⟨_, h1, rp⟩
    · obtain ⟨v, q1, q2⟩ := r.val j d q; exact ⟨v, q1, q2.mono s0⟩
  · rcases get_set q with ⟨rfl, z, _⟩ | ⟨n, q⟩
    · cases z
    · obtain ⟨b, q1, q2, q3, q4⟩ := r.own j es q
      exact ⟨b, q1, q2, by rw [upd_ne (ne j b n (.inl ⟨es, q⟩) q1)]; exact q3, q4.mono rfl s0⟩
  · rcases get_set q with ⟨rfl, z, _⟩ | ⟨n, q⟩
    · cases z
    · obtain ⟨b, q0, q1, q3, q4⟩ := r.ino j es q
      exact ⟨b, q0, q1, by rw [upd_ne (ne j b n (.inr ⟨es, q⟩) q1)]; exact q3, q4.mono rfl s0⟩
  · obtain ⟨es, q⟩ := r.iow j b q
    have n : i ≠ j := fun z => by subst z; rw [e] at q; cases q
    exact ⟨es, by rw [List.getElem?_set_ne n]; exact q⟩
  · obtain ⟨n1, m1⟩ := mutS_val m1
    obtain ⟨n2, m2⟩ := mutS_val m2
    exact r.apart j k b n m1 m2 q
  · have nb : b ≠ a := fun z => by rw [z, h2] at q; cases q
    rw [upd_ne nb]; exact r.old b o q q2
  · obtain ⟨q1, q2, q3, q4⟩ := r.rsv b o q
    have nb : b ≠ a := fun z => q4 i hm (by rw [z]; exact h1)
    refine ⟨q1, by rw [upd_ne nb]; exact q2, q3, fun j mj => ?_⟩
    obtain ⟨n, mj⟩ := mutS_val mj
    exact q4 j mj
end
end Sv

set_option Elab.async false
set_option linter.all false
set_option maxRecDepth 100000
namespace Sv
open PySem L2
/-- a body's context: the written part, the module's names, what is wished of exceptions -/
structure Cc where
  K : PySem.W.Frag
  mg : Str → Option Value
  W : WX
/-! ## results -/
inductive R (α : Type) where
  | ok (a : α) (ρ : En) | err (c : Str) (fs : List (Str × Dat)) (ρ : En) | stuck
def M (α : Type) := En → R α
section
variable {α β : Type}
def M.ret (a : α) : M α := fun ρ => .ok a ρ
def M.bnd (f : M α) (g : α → M β) : M β := fun ρ => match f ρ with
  | .ok a ρ' => g a ρ'
  | .err c fs ρ' => .err c fs ρ'
  | .stuck => .stuck
def M.lift (o : Option α) : M α := fun ρ => match o with
  | some a => .ok a ρ
  | none => .stuck
end
/-- an exception that has come: its class by its name, its fields -/
def XAt (c : Cc) (H H0 : Hp) (cn : Str) (fs : List (Str × Dat)) (cls : Value) (d : Option Addr) : Prop :=
  ∃ C : Addr, c.mg cn = some (.ref C) ∧ cls = .ref C ∧ match d with
    | none => fs = []
    | some dx => ∃ vs : List (Str × V), H dx = some (.xd vs) ∧ vs.map (·.1) = fs.map (·.1) ∧ RepA c.K H0 (vs.map (·.2)) (fs.map (·.2))
def Run {α : Type} (c : Cc) (x : Fx) (σ : L2.St) (H0 : Hp) (r : R α) (k : α → Hp → Hp → En → Prop) : Prop := match r with
  | .ok a ρ' => ∀ H' H0', Rel c.K x σ H' H0' ρ' → Same H0 H0' → k a H' H0' ρ'
  | .err cn fs ρ' => ∀ cls d H' H0', Rel c.K x σ H' H0' ρ' → Same H0 H0' → XAt c H' H0' cn fs cls d → c.W cls d σ H'
  | .stuck => False
section
variable {α β : Type} {c : Cc} {x : Fx} {σ : L2.St} {H0 H0' : Hp} {k k' : α → Hp → Hp → En → Prop} {ρ : En}
theorem Run.up {r : R α} (h : Run c x σ H0 r k) (s : Same H0 H0') : Run c x σ H0' r k := by
  cases r with
  | ok a ρ' => exact fun H' H1 q e => h H' H1 q (s.trans e)
  | err cn fs ρ' => exact fun cls d H' H1 q e x => h cls d H' H1 q (s.trans e) x
  | stuck => exact h
theorem Run.mono {r : R α} (h : Run c x σ H0 r k) (m : ∀ a H' H1 ρ', Rel c.K x σ H' H1 ρ' → Same H0 H1 → k a H' H1 ρ' → k' a H' H1 ρ') : Run c x σ H0 r k' := by
  cases r with
  | ok a ρ' => exact fun H' H1 q e => m a H' H1 ρ' q e (h H' H1 q e)
  | err cn fs ρ' => exact h
  | stuck => exact h
theorem Run.bnd {f : M α} {g : α → M β} {k : β → Hp → Hp → En → Prop} (h : Run c x σ H0 (f.bnd g ρ) k) : Run c x σ H0 (f ρ) (fun a H' H1 ρ' => Run c x σ H1 (g a ρ') k) := by
  unfold M.bnd at h
  cases e : f ρ with
  | ok a ρ' => rw [e] at h; exact fun H' H1 q s => Run.up h s
  | err cn fs ρ' => rw [e] at h; exact h
  | stuck => rw [e] at h; exact h
theorem Run.lift {o : Option α} (h : Run c x σ H0 (M.lift o ρ) k) : ∃ a, o = some a ∧ ∀ H' H1, Rel c.K x σ H' H1 ρ → Same H0 H1 → k a H' H1 ρ := by
  cases o with
  | some a => exact ⟨a, rfl, h⟩
  | none => exact h.elim
end
/-! ## the readings -/
def tD (c : Cc) (f : M Dat) : TE := fun σ H Q => ∃ (x : Fx) (H0 : Hp) (ρ : En), Rel c.K x σ H H0 ρ ∧ Run c x σ H0 (f ρ) fun d H' H1 _ => ∀ v, Rep c.K H1 v d → Q v H'
def tDT (c : Cc) (f : M Bool) : TT := fun σ H Q => ∃ (x : Fx) (H0 : Hp) (ρ : En), Rel c.K x σ H H0 ρ ∧ Run c x σ H0 (f ρ) fun b H' _ _ => Q b H'
def tDA (c : Cc) (f : M (List Dat)) : TA := fun σ H Q => ∃ (x : Fx) (H0 : Hp) (ρ : En), Rel c.K x σ H H0 ρ ∧ Run c x σ H0 (f ρ) fun ds H' H1 _ => ∀ vs, RepA c.K H1 vs ds → Q vs H'
abbrev cc (X : Cx) (F : WX) : Cc := ⟨X.K, X.mg, F⟩
def DE (X : Cx) (F : WX) (e : Expr) (f : M Dat) : Prop := PE X e (tD (cc X F) f)
def DT (X : Cx) (F : WX) (e : Expr) (f : M Bool) : Prop := PT X e (tDT (cc X F) f)
def DA (X : Cx) (F : WX) (es : List Expr) (f : M (List Dat)) : Prop := PA X es (tDA (cc X F) f)
theorem PE.imp {X : Cx} {e : Expr} {t t' : TE} (h : PE X e t) (m : ∀ σ H Q, t' σ H Q → t σ H Q) : PE X e t' := ⟨fun pins s σ H Q I q => h.run pins s σ H Q I (m σ H Q q)⟩
theorem PT.imp {X : Cx} {e : Expr} {t t' : TT} (h : PT X e t) (m : ∀ σ H Q, t' σ H Q → t σ H Q) : PT X e t' := ⟨fun pins s σ H Q I q => h.run pins s σ H Q I (m σ H Q q)⟩
theorem PA.imp {X : Cx} {e : List Expr} {t t' : TA} (h : PA X e t) (m : ∀ σ H Q, t' σ H Q → t σ H Q) : PA X e t' := ⟨fun pos pins s σ H Q I q => h.run pos pins s σ H Q I (m σ H Q q)⟩
theorem PS.imp {X : Cx} {e : Stmt} {t t' : TS} (h : PS X e t) (m : ∀ D σ H, t' D σ H → t D σ H) : PS X e t' := ⟨fun pins s σ H D I q => h.run pins s σ H D I (m D σ H q)⟩
theorem PSs.imp {X : Cx} {e : List Stmt} {t t' : TS} (h : PSs X e t) (m : ∀ D σ H, t' D σ H → t D σ H) : PSs X e t' := ⟨fun pins s σ H D I q => h.run pins s σ H D I (m D σ H q)⟩

/-- the heap and its known part grow -/
structure Grow (H H' H0 H0' : Hp) : Prop where
  k : Same H H'
  s : Same H0 H0'
  s' : Same H0' H'
  fr : ∀ a o, H a = some o → H0 a = none → H0' a = none
theorem Grow.refl {H H0 : Hp} (h : Same H0 H) : Grow H H H0 H0 := ⟨Same.refl _, Same.refl _, h, fun _ _ _ z => z⟩
theorem Grow.trans {H H1 H2 G G1 G2 : Hp} (a : Grow H H1 G G1) (b : Grow H1 H2 G1 G2) : Grow H H2 G G2 := ⟨a.k.trans b.k, a.s.trans b.s, b.s', fun x o h1 h2 => b.fr x o (a.k _ _ h1) (a.fr x o h1 h2)⟩
theorem Grow.new {H H0 : Hp} {p : Addr} {o : HO} (h : Same H0 H) (hp : H p = none) : Grow H (upd H p o) H0 (upd H0 p o) := by
  have h0 : H0 p = none := h.free hp
  refine ⟨fun b u e => by rw [upd_ne (ne_of_none e hp)]; exact e, fun b u e => by rw [upd_ne (ne_of_none e h0)]; exact e, fun b u e => ?_, fun a u ha hn => by rw [upd_ne (ne_of_none ha hp)]; exact hn⟩
  by_cases hb : b = p
  · subst hb; rw [upd_same] at e ⊢; exact e
  · rw [upd_ne hb] at e ⊢; exact h _ _ e
theorem Grow.rel {K : PySem.W.Frag} {x : Fx} {σ : L2.St} {H H' H0 H0' : Hp} {ρ : En} (g : Grow H H' H0 H0') (r : Rel K x σ H H0 ρ) : Rel K x σ H' H0' ρ := r.grow g.k g.s g.s' g.fr

/-! ## soundness of operations by values -/
def Snd2 (K : PySem.W.Frag) (r : R2) (op : Dat → Dat → Option Dat) : Prop := ∀ (H H0 : Hp) (x y : V) (dx dy dz : Dat) (Q : VK), Same H0 H → Rep K H0 x dx → Rep K H0 y dy → op dx dy = some dz →
  (∀ v H' H0', Grow H H' H0 H0' → Rep K H0' v dz → Q v H') → r x y H Q
def Snd1 (K : PySem.W.Frag) (r : V → Hp → VK → Prop) (op : Dat → Option Dat) : Prop := ∀ (H H0 : Hp) (x : V) (dx dz : Dat) (Q : VK), Same H0 H → Rep K H0 x dx → op dx = some dz →
  (∀ v H' H0', Grow H H' H0 H0' → Rep K H0' v dz → Q v H') → r x H Q
def SndC (K : PySem.W.Frag) (r : List V → Hp → VK → Prop) (op : List Dat → Option Dat) : Prop := ∀ (H H0 : Hp) (xs : List V) (ds : List Dat) (dz : Dat) (Q : VK), Same H0 H → RepA K H0 xs ds → op ds = some dz →
  (∀ v H' H0', Grow H H' H0 H0' → Rep K H0' v dz → Q v H') → r xs H Q

section
variable {X : Cx} {F : WX} {e a b : Expr} {f g : M Dat} {pos : Pos}
/-- one part evaluated, then the rest -/
theorem part {α : Type} {c : Cc} {x : Fx} {σ : L2.St} {H H0 : Hp} {ρ : En} {f : M Dat} {g : Dat → M α} {k : α → Hp → Hp → En → Prop} {Q : VK} (r : Rel c.K x σ H H0 ρ) (h : Run c x σ H0 (f.bnd g ρ) k)
    (m : ∀ d v H' H1 ρ', Rel c.K x σ H' H1 ρ' → Same H0 H1 → Rep c.K H1 v d → Run c x σ H1 (g d ρ') k → Q v H') : tD c f σ H Q :=
  ⟨x, H0, ρ, r, (Run.bnd h).mono fun d H' H1 ρ' r' s q v hv => m d v H' H1 ρ' r' s hv q⟩
theorem partA {α : Type} {c : Cc} {x : Fx} {σ : L2.St} {H H0 : Hp} {ρ : En} {f : M (List Dat)} {g : List Dat → M α} {k : α → Hp → Hp → En → Prop} {Q : List V → Hp → Prop} (r : Rel c.K x σ H H0 ρ) (h : Run c x σ H0 (f.bnd g ρ) k)
    (m : ∀ d v H' H1 ρ', Rel c.K x σ H' H1 ρ' → Same H0 H1 → RepA c.K H1 v d → Run c x σ H1 (g d ρ') k → Q v H') : tDA c f σ H Q :=
  ⟨x, H0, ρ, r, (Run.bnd h).mono fun d H' H1 ρ' r' s q v hv => m d v H' H1 ρ' r' s hv q⟩
theorem partT {α : Type} {c : Cc} {x : Fx} {σ : L2.St} {H H0 : Hp} {ρ : En} {f : M Bool} {g : Bool → M α} {k : α → Hp → Hp → En → Prop} {Q : Bool → Hp → Prop} (r : Rel c.K x σ H H0 ρ) (h : Run c x σ H0 (f.bnd g ρ) k)
    (m : ∀ d H' H1 ρ', Rel c.K x σ H' H1 ρ' → Same H0 H1 → Run c x σ H1 (g d ρ') k → Q d H') : tDT c f σ H Q :=
  ⟨x, H0, ρ, r, (Run.bnd h).mono fun d H' H1 ρ' r' s q => m d H' H1 ρ' r' s q⟩

theorem de_int {i j} : DE X F (.Constant (.int i) j pos) (.ret (.int i)) := PE.imp pe_int fun σ H Q ⟨z, H0, ρ, r, q⟩ => q H H0 r (Same.refl _) _ (.int i)
theorem de_bl {b j} : DE X F (.Constant (.bool b) j pos) (.ret (.bl b)) := PE.imp pe_bl fun σ H Q ⟨z, H0, ρ, r, q⟩ => q H H0 r (Same.refl _) _ (.bl b)
theorem de_non {j} : DE X F (.Constant .none j pos) (.ret .non) := PE.imp pe_non fun σ H Q ⟨z, H0, ρ, r, q⟩ => q H H0 r (Same.refl _) _ .non
theorem de_str {x j} : DE X F (.Constant (.str x) j pos) (.ret (.str x)) := PE.imp pe_str fun σ H Q ⟨z, H0, ρ, r, q⟩ => q H H0 r (Same.refl _) _ (.str x)
def rdVar (i : Nat) : M Dat := fun ρ => match ρ[i]? with
  | some (.val d) => .ok d ρ
  | some (.own ds) => .ok (.lst ds) (ρ.set i (.val (.lst ds)))
  | _ => .stuck
theorem de_var (i : Nat) {x : Str} (hN : X.N[i]? = some x := by rfl) (hv : Vis X.env.scope x := by first | exact Or.inl rfl | exact Or.inr (Or.inl rfl) | exact Or.inr (Or.inr rfl)) (hd : (x == ("__debug__" : Str)) = false := by decide)
    (hcd : (x == ("__classdict__" : Str)) = false := by decide) : DE X F (.Name x pos) (rdVar i) := PE.imp (pe_var hN hv hd hcd) fun σ H Q ⟨z, H0, ρ, r, q⟩ => by
  unfold rdVar at q
  split at q
  · rename_i d e
    obtain ⟨v, h1, h2⟩ := r.val i d e
    exact ⟨v, h1, q H H0 r (Same.refl _) v h2⟩
  · rename_i ds e
    obtain ⟨a, H1, h1, h2, h3, h4⟩ := r.freeze e
    exact ⟨_, h1, q H H1 h2 h3 _ h4⟩
  · exact q.elim
def M.bin (f g : M Dat) (op : Dat → Dat → Option Dat) : M Dat := f.bnd fun x => g.bnd fun y => M.lift (op x y)
def M.un1 (f : M Dat) (op : Dat → Option Dat) : M Dat := f.bnd fun x => M.lift (op x)
theorem op_run {r : R2} {op : Dat → Dat → Option Dat} (hs : Snd2 X.K r op) {σ : L2.St} {H : Hp} {Q : VK} (h : tD (cc X F) (f.bin g op) σ H Q) : tOp r (tD (cc X F) f) (tD (cc X F) g) σ H Q := by
  obtain ⟨z, H0, ρ, rl, q⟩ := h
  refine part rl q fun dx x H1 G1 ρ1 r1 s1 hx q1 => part r1 q1 fun dy y H2 G2 ρ2 r2 s2 hy q2 => ?_
  obtain ⟨dz, e, q2⟩ := Run.lift q2
  exact hs H2 G2 x y dx dy dz Q r2.sub (hx.mono s2) hy e fun v H' H0' g hv => q2 H' H0' (g.rel r2) g.s v hv
theorem de_bin {o : Operator} {r : R2} {op : Dat → Dat → Option Dat} (ho : OpR X (binaryOp o) r) (hs : Snd2 X.K r op) (ha : DE X F a f) (hb : DE X F b g) : DE X F (.BinOp a o b pos) (f.bin g op) :=
  PE.imp (pe_op ho ha hb) fun _ _ _ h => op_run hs h
theorem de_cmp {o : CmpOp} {r : R2} {op : Dat → Dat → Option Dat} (ho : OpR X (compareOp o) r) (hs : Snd2 X.K r op) (ha : DE X F a f) (hb : DE X F b g) (hm : behindInMarks o b = false := by rfl) : DE X F (.Compare a [o] [b] pos) (f.bin g op) :=
  PE.imp (pe_cmpR ho ha hb hm) fun _ _ _ h => op_run hs h
theorem de_ix {r : R2} {op : Dat → Dat → Option Dat} (ho : IxR X r) (hs : Snd2 X.K r op) (ha : DE X F a f) (hb : DE X F b g) (hp : PlainIx b := by exact fun _ _ => rfl) : DE X F (.Subscript a b pos) (f.bin g op) :=
  PE.imp (pe_ix ho ha hb hp) fun _ _ _ h => op_run hs h
theorem de_un {o : UnaryOp} {r : V → Hp → VK → Prop} {op : Dat → Option Dat} (ho : UnR X (unaryOp o) r) (hs : Snd1 X.K r op) (ha : DE X F a f) : DE X F (.UnaryOp o a pos) (f.un1 op) :=
  PE.imp (pe_un ho ha) fun σ H Q ⟨z, H0, ρ, rl, q⟩ => part rl q fun dx x H1 G1 ρ1 r1 s1 hx q1 => by
    obtain ⟨dz, e, q2⟩ := Run.lift q1
    exact hs H1 G1 x dx dz Q r1.sub hx e fun v H' H0' g hv => q2 H' H0' (g.rel r1) g.s v hv
/-! ### arguments, displays, built-ins -/
def M.cons (f : M Dat) (g : M (List Dat)) : M (List Dat) := f.bnd fun x => g.bnd fun xs => M.ret (x :: xs)
theorem da_nil : DA X F [] (M.ret []) := PA.imp pa_nil fun σ H Q ⟨z, H0, ρ, r, q⟩ => q H H0 r (Same.refl _) _ .nil
theorem da_cons {es : List Expr} {g : M (List Dat)} (ha : DE X F e f) (hr : DA X F es g) (hs : starEach (e :: es) X.env = (false, eval e X.env) :: starEach es X.env := by rfl) : DA X F (e :: es) (f.cons g) :=
  PA.imp (pa_cons ha hr hs) fun σ H Q ⟨z, H0, ρ, rl, q⟩ => part rl q fun dx x H1 G1 ρ1 r1 s1 hx q1 => partA r1 q1 fun ds xs H2 G2 ρ2 r2 s2 hxs q2 =>
    q2 H2 G2 r2 (Same.refl _) _ (.cons (hx.mono s2) hxs)
def mkTup (ds : List Dat) : Option Dat := if ds.length ≤ 1000000 then some (.tup ds) else none
def mkLst (ds : List Dat) : Option Dat := if ds.length ≤ 1000000 then some (.lst ds) else none
theorem mkTup_some {ds : List Dat} {d : Dat} (h : mkTup ds = some d) : ds.length ≤ 1000000 ∧ d = .tup ds := by
  unfold mkTup at h; split at h
  · cases h; exact ⟨by assumption, rfl⟩
  · cases h
theorem mkLst_some {ds : List Dat} {d : Dat} (h : mkLst ds = some d) : ds.length ≤ 1000000 ∧ d = .lst ds := by
  unfold mkLst at h; split at h
  · cases h; exact ⟨by assumption, rfl⟩
  · cases h
theorem sz {n : Nat} (h : n ≤ 1000000) : n ≤ sizeLine := Nat.le_trans h (by decide)
/-- a new tuple, its object known -/
abbrev tupO (us : List Value) : Obj := { cls := .type "tuple", data := .seq us.toArray }
theorem tupO_laid {X : Cx} {pins : List (Addr × Obj)} {σ : L2.St} {H : Hp} {s : Shared} {h' : Heap} {a : Addr} {t' : Nat} {xs : List V} {us : List Value} (I : Inv X pins σ H s) (k : ∀ b u, s.heap.get? b = some u → h'.get? b = some u) (hp : s.heap.objs.size ≤ a) (e : h'.get? a = some (tupO us)) (r : Vals xs us) (z : xs.length ≤ sizeLine) :
    Inv X pins σ (upd H a (.frz (tupO us) (.tup xs))) { s with heap := h', toks := t' } := I.laid k hp ⟨e, z, us, r, ⟨_, e, rfl, _, rfl⟩⟩
def tTupF (t : TA) : TE := fun σ H Q => t σ H fun xs H1 => xs.length ≤ sizeLine ∧ ∀ (p : Addr) (o : Obj), H1 p = none → o.dict = none → Q (.ref p) (upd H1 p (.frz o (.tup xs)))
theorem pe_tupF {X : Cx} {es : List Expr} {t : TA} {pos : Pos} {x1} (h : PA X es t) : PE X (.Tuple es x1 pos) (tTupF t) := by
  refine ⟨fun pins s σ H Q I hq => ?_⟩
  refine wpAny_Tuple_spliced (thn (h.run pos pins s σ H _ I hq) fun us s1 ⟨xs, H1, I1, r, z, q⟩ => ⟨by rw [← r.length]; exact z, ?_⟩)
  have hf : H1 s1.heap.objs.size = none := I1.hok.fresh (Nat.le_refl _)
  exact ⟨.ref s1.heap.objs.size, _, tupO_laid (t' := s1.toks) I1 (fun b u e => Heap.get?_push_of_some _ e) (Nat.le_refl _) (Heap.get?_push_size _ rfl) r z, rfl, q _ _ hf rfl⟩
theorem Rep.newT {K : PySem.W.Frag} {H0 : Hp} {p : Addr} {o : Obj} {vs : List V} {ds : List Dat} (hn : H0 p = none) (hd : o.dict = none) (h : RepA K H0 vs ds) : Rep K (upd H0 p (.frz o (.tup vs))) (.ref p) (.tup ds) :=
  .tup (.inl ⟨o, upd_same, hd⟩) (h.mono fun b u e => by rw [upd_ne (ne_of_none e hn)]; exact e)
theorem Rep.newL {K : PySem.W.Frag} {H0 : Hp} {p : Addr} {vs : List V} {ds : List Dat} (hn : H0 p = none) (h : RepA K H0 vs ds) : Rep K (upd H0 p (.lst vs)) (.ref p) (.lst ds) :=
  .lst (Rd.of upd_same) (h.mono fun b u e => by rw [upd_ne (ne_of_none e hn)]; exact e)
def M.tup (f : M (List Dat)) : M Dat := f.bnd fun ds => M.lift (mkTup ds)
def M.lst (f : M (List Dat)) : M Dat := f.bnd fun ds => M.lift (mkLst ds)
theorem de_tup {es : List Expr} {g : M (List Dat)} {x1} (h : DA X F es g) : DE X F (.Tuple es x1 pos) g.tup :=
  PE.imp (pe_tupF h) fun σ H Q ⟨z, H0, ρ, rl, q⟩ => partA rl q fun ds vs H1 G1 ρ1 r1 s1 hx q1 => by
    obtain ⟨dz, e, q2⟩ := Run.lift q1
    obtain ⟨hl, rfl⟩ := mkTup_some e
    refine ⟨sz (by rw [hx.length]; exact hl), fun p o hp hd => ?_⟩
    have g := Grow.new (o := .frz o (.tup vs)) r1.sub hp
    exact q2 _ _ (g.rel r1) g.s _ (Rep.newT (r1.sub.free hp) hd hx)
theorem de_lst {es : List Expr} {g : M (List Dat)} (h : DA X F es g) : DE X F (.List es pos) g.lst :=
  PE.imp (pe_lst h) fun σ H Q ⟨z, H0, ρ, rl, q⟩ => partA rl q fun ds vs H1 G1 ρ1 r1 s1 hx q1 => by
    obtain ⟨dz, e, q2⟩ := Run.lift q1
    obtain ⟨hl, rfl⟩ := mkLst_some e
    refine ⟨sz (by rw [hx.length]; exact hl), fun p hp => ?_⟩
    have g := Grow.new (o := .lst vs) r1.sub hp
    exact q2 _ _ (g.rel r1) g.s _ (Rep.newL (r1.sub.free hp) hx)
def M.bi (f : M (List Dat)) (op : List Dat → Option Dat) : M Dat := f.bnd fun ds => M.lift (op ds)
theorem bi_run {r : List V → Hp → VK → Prop} {op : List Dat → Option Dat} {g : M (List Dat)} (hs : SndC X.K r op) {σ : L2.St} {H : Hp} {Q : VK} (h : tD (cc X F) (g.bi op) σ H Q) : tCB r (tDA (cc X F) g) σ H Q := by
  obtain ⟨z, H0, ρ, rl, q⟩ := h
  refine partA rl q fun ds xs H1 G1 ρ1 r1 s1 hx q1 => ?_
  obtain ⟨dz, e, q2⟩ := Run.lift q1
  exact hs H1 G1 xs ds dz Q r1.sub hx e fun v H' H0' g hv => q2 H' H0' (g.rel r1) g.s v hv
variable {x : Str} {p : Pos} {es : List Expr} {ga : M (List Dat)} {id T : String}
theorem de_callB {r : List V → Hp → VK → Prop} {op : List Dat → Option Dat} (hc : CallR X (.builtin id) r) (hs : SndC X.K r op) (hg : Gl X x) (hm : X.mg x = none) (hv : bootBuiltins x = some (.builtin id)) (ha : DA X F (e :: es) ga) (hn : x ≠ "__name__" := by decide) (hdb : (x == ("__debug__" : Str)) = false := by decide)
    (he : starEach (e :: es) X.env = (false, eval e X.env) :: starEach es X.env := by rfl) (hpl : (backTo pos (starEach es X.env)).any (·.1) = false := by rfl) : DE X F (.Call (.Name x p) (e :: es) [] pos) (ga.bi op) :=
  PE.imp (pe_callB hc hg hm hv ha hn hdb he hpl) fun _ _ _ h => bi_run hs h
theorem de_callTy {r : List V → Hp → VK → Prop} {op : List Dat → Option Dat} (hc : CallR X (.type T) r) (hs : SndC X.K r op) (hg : Gl X x) (hm : X.mg x = none) (hv : bootBuiltins x = some (.type T)) (ha : DA X F (e :: es) ga) (hn : x ≠ "__name__" := by decide) (hdb : (x == ("__debug__" : Str)) = false := by decide)
    (he : starEach (e :: es) X.env = (false, eval e X.env) :: starEach es X.env := by rfl) (hpl : (backTo pos (starEach es X.env)).any (·.1) = false := by rfl) : DE X F (.Call (.Name x p) (e :: es) [] pos) (ga.bi op) :=
  PE.imp (pe_callTy hc hg hm hv ha hn hdb he hpl) fun _ _ _ h => bi_run hs h
/-! ### tests, and, or, not, if .. else -/
def M.isB (f : M Dat) : M Bool := f.bnd fun d => M.lift (match d with | .bl b => some b | _ => none)
def M.ofB (f : M Bool) : M Dat := f.bnd fun b => M.ret (.bl b)
theorem dt_val (h : DE X F e f) (he : ∀ whole, isTrue e X.env whole = (do let v ← whole; standAt e.pos; holding [v] (truthy v)) := by intro _; rfl) : DT X F e f.isB :=
  PT.imp (pt_val h he) fun σ H Q ⟨z, H0, ρ, rl, q⟩ => part rl q fun d v H1 G1 ρ1 r1 s1 hx q1 => by
    obtain ⟨b, e, q2⟩ := Run.lift q1
    cases d <;> cases e
    cases hx
    exact ⟨b, rfl, q2 _ _ r1 (Same.refl _)⟩
def M.andB (f g : M Bool) : M Bool := f.bnd fun b => if b = true then g else M.ret false
def M.orB (f g : M Bool) : M Bool := f.bnd fun b => if b = true then M.ret true else g
def M.notB (f : M Bool) : M Bool := f.bnd fun b => M.ret (!b)
def DW (X : Cx) (F : WX) (e : Expr) (f : M Bool) : Prop := PW X e (tDT (cc X F) f)
theorem DW.dt {f : M Bool} (h : DW X F e f) : DT X F e f := PW.pt h
theorem PW.imp {X : Cx} {e : Expr} {t t' : TT} (h : PW X e t) (m : ∀ σ H Q, t' σ H Q → t σ H Q) : PW X e t' := ⟨fun whole pins s σ H Q I q => h.run whole pins s σ H Q I (m σ H Q q)⟩
variable {fb gb : M Bool} {rest : List Expr}
theorem dw_and1 (ha : DT X F a fb) : DW X F (.BoolOp .And [a] pos) fb := pw_and1 ha
theorem dw_or1 (ha : DT X F a fb) : DW X F (.BoolOp .Or [a] pos) fb := pw_or1 ha
theorem and_run {σ : L2.St} {H : Hp} {Q : Bool → Hp → Prop} (h : tDT (cc X F) (fb.andB gb) σ H Q) : tAnd (tDT (cc X F) fb) (tDT (cc X F) gb) σ H Q := by
  obtain ⟨z, H0, ρ, rl, q⟩ := h
  refine partT rl q fun b H1 G1 ρ1 r1 s1 q1 => ?_
  cases b with
  | true => exact ⟨z, G1, ρ1, r1, q1⟩
  | false => exact q1 H1 G1 r1 (Same.refl _)
theorem or_run {σ : L2.St} {H : Hp} {Q : Bool → Hp → Prop} (h : tDT (cc X F) (fb.orB gb) σ H Q) : tOr (tDT (cc X F) fb) (tDT (cc X F) gb) σ H Q := by
  obtain ⟨z, H0, ρ, rl, q⟩ := h
  refine partT rl q fun b H1 G1 ρ1 r1 s1 q1 => ?_
  cases b with
  | true => exact q1 H1 G1 r1 (Same.refl _)
  | false => exact ⟨z, G1, ρ1, r1, q1⟩
theorem dw_and (ha : DT X F a fb) (hb : DW X F (.BoolOp .And (b :: rest) pos) gb) : DW X F (.BoolOp .And (a :: b :: rest) pos) (fb.andB gb) := PW.imp (pw_and ha hb) fun _ _ _ h => and_run h
theorem dw_or (ha : DT X F a fb) (hb : DW X F (.BoolOp .Or (b :: rest) pos) gb) : DW X F (.BoolOp .Or (a :: b :: rest) pos) (fb.orB gb) := PW.imp (pw_or ha hb) fun _ _ _ h => or_run h
theorem dt_not (ha : DT X F a fb) : DT X F (.UnaryOp .Not a pos) fb.notB := PT.imp (pt_not ha) fun σ H Q ⟨z, H0, ρ, rl, q⟩ => partT rl q fun b H1 G1 ρ1 r1 s1 q1 => q1 H1 G1 r1 (Same.refl _)
def M.ite (f : M Bool) (g h : M Dat) : M Dat := f.bnd fun b => if b = true then g else h
theorem de_if {c : Expr} (hc : DT X F c fb) (ha : DE X F a f) (hb : DE X F b g) : DE X F (.IfExp c a b pos) (fb.ite f g) := PE.imp (pe_ifExp hc ha hb) fun σ H Q ⟨z, H0, ρ, rl, q⟩ => partT rl q fun b H1 G1 ρ1 r1 s1 q1 => by
  cases b with
  | true => exact ⟨z, G1, ρ1, r1, q1⟩
  | false => exact ⟨z, G1, ρ1, r1, q1⟩
/-- as values: all parts True or False -/
def M.andV (f g : M Dat) : M Dat := f.isB.bnd fun b => if b = true then g else M.ret (.bl false)
def M.orV (f g : M Dat) : M Dat := f.isB.bnd fun b => if b = true then M.ret (.bl true) else g
def M.notV (f : M Dat) : M Dat := f.isB.bnd fun b => M.ret (.bl (!b))
theorem bnd_assoc {α β γ : Type} (f : M α) (g : α → M β) (h : β → M γ) (ρ : En) : (f.bnd g).bnd h ρ = f.bnd (fun a => (g a).bnd h) ρ := by
  unfold M.bnd; cases f ρ <;> rfl
theorem isB_part {α : Type} {c : Cc} {x : Fx} {σ : L2.St} {H H0 : Hp} {ρ : En} {f : M Dat} {g : Bool → M α} {k : α → Hp → Hp → En → Prop} {Q : VK} (r : Rel c.K x σ H H0 ρ) (h : Run c x σ H0 (f.isB.bnd g ρ) k)
    (m : ∀ b H' H1 ρ', Rel c.K x σ H' H1 ρ' → Same H0 H1 → Run c x σ H1 (g b ρ') k → Q (.bl b) H') : tD c f σ H Q := by
  unfold M.isB at h
  rw [bnd_assoc] at h
  refine part r h fun d v H1 G1 ρ1 r1 s1 hx q1 => ?_
  cases d with
  | bl b => cases hx; exact m b H1 G1 ρ1 r1 s1 q1
  | _ => exact q1.elim
theorem de_and1 {o} (ha : DE X F a f) : DE X F (.BoolOp o [a] pos) f := pe_one ha
theorem de_and (ha : DE X F a f) (hb : DE X F (.BoolOp .And (b :: rest) pos) g) : DE X F (.BoolOp .And (a :: b :: rest) pos) (f.andV g) := PE.imp (pe_and ha hb) fun σ H Q ⟨z, H0, ρ, rl, q⟩ => isB_part rl q fun b H1 G1 ρ1 r1 s1 q1 => ⟨b, rfl, by
  cases b with
  | true => exact ⟨z, G1, ρ1, r1, q1⟩
  | false => exact q1 H1 G1 r1 (Same.refl _) _ (.bl false)⟩
theorem de_or (ha : DE X F a f) (hb : DE X F (.BoolOp .Or (b :: rest) pos) g) : DE X F (.BoolOp .Or (a :: b :: rest) pos) (f.orV g) := PE.imp (pe_or ha hb) fun σ H Q ⟨z, H0, ρ, rl, q⟩ => isB_part rl q fun b H1 G1 ρ1 r1 s1 q1 => ⟨b, rfl, by
  cases b with
  | true => exact q1 H1 G1 r1 (Same.refl _) _ (.bl true)
  | false => exact ⟨z, G1, ρ1, r1, q1⟩⟩
theorem de_not (ha : DE X F a f) : DE X F (.UnaryOp .Not a pos) f.notV := PE.imp (pe_not ha) fun σ H Q ⟨z, H0, ρ, rl, q⟩ => isB_part rl q fun b H1 G1 ρ1 r1 s1 q1 => ⟨b, rfl, q1 H1 G1 r1 (Same.refl _) _ (.bl (!b))⟩
end
end Sv

set_option Elab.async false
set_option linter.all false
set_option maxRecDepth 100000
namespace Sv
open PySem L2
/-! ## statements -/
inductive O where
  | nxt (ρ : En) | ret (d : Dat) (ρ : En) | new (ds : List Dat) (ρ : En) | brk (ρ : En) | ctn (ρ : En) | err (c : Str) (fs : List (Str × Dat)) (ρ : En) | stuck
def RunS (c : Cc) (x : Fx) (H0 : Hp) (o : O) (D : Ends) : Prop := match o with
  | .nxt ρ => ∀ σ H H1, Rel c.K x σ H H1 ρ → Same H0 H1 → D.nx σ H
  | .brk ρ => ∀ σ H H1, Rel c.K x σ H H1 ρ → Same H0 H1 → D.bk σ H
  | .ctn ρ => ∀ σ H H1, Rel c.K x σ H H1 ρ → Same H0 H1 → D.ct σ H
  | .ret d ρ => ∀ v σ H H1, Rel c.K x σ H H1 ρ → Same H0 H1 → Rep c.K H1 v d → D.rt v H
  | .new ds ρ => ∀ p σ H H1, Rel c.K x σ H H1 ρ → Same H0 H1 → x.He p = none → H1 p = none → LstAt c.K H H1 p ds → D.rt (.ref p) H
  | .err cn fs ρ => ∀ cls d σ H H1, Rel c.K x σ H H1 ρ → Same H0 H1 → XAt c H H1 cn fs cls d → c.W cls d σ H
  | .stuck => False
def tS (c : Cc) (f : En → O) : TS := fun D σ H => ∃ (x : Fx) (H0 : Hp) (ρ : En), Rel c.K x σ H H0 ρ ∧ RunS c x H0 (f ρ) D
def DS (X : Cx) (W : WX) (s : Stmt) (f : En → O) : Prop := PS X s (tS (cc X W) f)
def DB (X : Cx) (W : WX) (s : List Stmt) (f : En → O) : Prop := PSs X s (tS (cc X W) f)
def O.then (o : O) (g : En → O) : O := match o with
  | .nxt ρ => g ρ
  | o => o
def seqO (f g : En → O) : En → O := fun ρ => (f ρ).then g
def R.toO {α : Type} (r : R α) (g : α → En → O) : O := match r with
  | .ok a ρ => g a ρ
  | .err c fs ρ => .err c fs ρ
  | .stuck => .stuck
section
variable {c : Cc} {x : Fx} {H0 H0' : Hp} {D : Ends}
theorem RunS.up {o : O} (h : RunS c x H0 o D) (s : Same H0 H0') : RunS c x H0' o D := by
  cases o with
  | nxt ρ => exact fun σ H H1 r q => h σ H H1 r (s.trans q)
  | brk ρ => exact fun σ H H1 r q => h σ H H1 r (s.trans q)
  | ctn ρ => exact fun σ H H1 r q => h σ H H1 r (s.trans q)
  | ret d ρ => exact fun v σ H H1 r q => h v σ H H1 r (s.trans q)
  | new ds ρ => exact fun p σ H H1 r q => h p σ H H1 r (s.trans q)
  | err cn fs ρ => exact fun cls d σ H H1 r q => h cls d σ H H1 r (s.trans q)
  | stuck => exact h
/-- an expression's part of a statement -/
theorem RunS.part {α : Type} {r : R α} {g : α → En → O} {σ : L2.St} (h : RunS c x H0 (r.toO g) D) : Run c x σ H0 r (fun a H' H1 ρ' => RunS c x H1 (g a ρ') D) := by
  cases r with
  | ok a ρ => exact fun H' H1 q s => RunS.up h s
  | err cn fs ρ => exact fun cls d H' H1 q s x => h cls d σ H' H1 q s x
  | stuck => exact h
end
section
variable {X : Cx} {W : WX} {e a b : Expr} {f g : M Dat} {pos pos' : Pos} {s : Stmt} {rest : List Stmt} {fs gs : En → O}
theorem sp {α : Type} {c : Cc} {x : Fx} {σ : L2.St} {H H0 : Hp} {ρ : En} {f : M Dat} {g : Dat → En → O} {D : Ends} {Q : VK} (r : Rel c.K x σ H H0 ρ) (h : RunS c x H0 ((f ρ).toO g) D)
    (m : ∀ d v H' H1 ρ', Rel c.K x σ H' H1 ρ' → Same H0 H1 → Rep c.K H1 v d → RunS c x H1 (g d ρ') D → Q v H') : tD c f σ H Q :=
  ⟨x, H0, ρ, r, (RunS.part h).mono fun d H' H1 ρ' r' s q v hv => m d v H' H1 ρ' r' s hv q⟩
theorem db_nil : DB X W [] .nxt := PSs.imp pss_nil fun D σ H ⟨x, H0, ρ, r, q⟩ => q σ H H0 r (Same.refl _)
theorem seq_run {D : Ends} {σ : L2.St} {H : Hp} (h : tS (cc X W) (seqO fs gs) D σ H) : tSeq (tS (cc X W) fs) (tS (cc X W) gs) D σ H := by
  obtain ⟨x, H0, ρ, r, q⟩ := h
  refine ⟨x, H0, ρ, r, ?_⟩
  unfold seqO at q
  cases e : fs ρ with
  | nxt ρ' => rw [e] at q; exact fun σ' H' H1 r' s' => ⟨x, H1, ρ', r', RunS.up q s'⟩
  | brk ρ' => rw [e] at q; exact q
  | ctn ρ' => rw [e] at q; exact q
  | ret d ρ' => rw [e] at q; exact q
  | new ds ρ' => rw [e] at q; exact q
  | err cn fs ρ' => rw [e] at q; exact q
  | stuck => rw [e] at q; exact q
theorem db_cons (h : DS X W s fs) (k : DB X W rest gs) : DB X W (s :: rest) (seqO fs gs) := PSs.imp (pss_cons h k) fun D σ H q => seq_run q
theorem db_one (h : DS X W s fs) : DB X W [s] fs := pss_one h
theorem ds_pass : DS X W (.Pass pos) .nxt := PS.imp ps_pass fun D σ H ⟨x, H0, ρ, r, q⟩ => q σ H H0 r (Same.refl _)
theorem ds_break : DS X W (.Break pos) .brk := PS.imp ps_break fun D σ H ⟨x, H0, ρ, r, q⟩ => q σ H H0 r (Same.refl _)
theorem ds_continue : DS X W (.Continue pos) .ctn := PS.imp ps_continue fun D σ H ⟨x, H0, ρ, r, q⟩ => q σ H H0 r (Same.refl _)
theorem ds_doc {x j} : DS X W (.Expr (.Constant (.str x) j pos) pos') .nxt := PS.imp ps_doc fun D σ H ⟨x, H0, ρ, r, q⟩ => q σ H H0 r (Same.refl _)
def putS (i : Nat) (d : Dat) (ρ : En) : O := match ρ[i]? with
  | some (.ino _) => .stuck
  | none => .stuck
  | _ => .nxt (ρ.set i (.val d))
theorem putS_run {c : Cc} {x : Fx} {H0 H : Hp} {i : Nat} {d : Dat} {ρ : En} {D : Ends} {σ : L2.St} {v : V} (r : Rel c.K x σ H H0 ρ) (hv : Rep c.K H0 v d) (h : RunS c x H0 (putS i d ρ) D) : D.nx (σ.set i (some v)) H := by
  unfold putS at h
  split at h
  · exact h.elim
  · exact h.elim
  · rename_i n1 n2
    exact h _ H H0 (r.setv (fun ds e => n1 ds e) hv) (Same.refl _)
def setO (f : M Dat) (i : Nat) : En → O := fun ρ => (f ρ).toO (putS i)
theorem ds_set (i : Nat) {x : Str} (hN : X.N.Nodup) (hi : X.N[i]? = some x) (hx : Loc X.env.scope x) (he : DE X W e f) (hs : swapsWith e (some (.Name x pos')) pos.line X.env = pure false := by rfl) (hf : X.fn x = true ∨ X.env.scope.names.lookup x = some .local := by first | exact .inl rfl | exact .inr rfl | assumption) :
    DS X W (.Assign [.Name x pos'] e pos) (setO f i) := PS.imp (ps_set hN hi hx he hs hf) fun D σ H ⟨z, H0, ρ, r, q⟩ => sp (α := Dat) r q fun d v H' H1 ρ' r' s' hv q' => putS_run r' hv q'
theorem putS_then {c : Cc} {x : Fx} {H0 : Hp} {i : Nat} {d : Dat} {ρ : En} {D : Ends} {g : En → O} (h : RunS c x H0 ((putS i d ρ).then g) D) : (∀ ds, ρ[i]? ≠ some (.ino ds)) ∧ RunS c x H0 (g (ρ.set i (.val d))) D := by
  unfold putS at h
  cases e : ρ[i]? with
  | none => rw [e] at h; exact h.elim
  | some y =>
    rw [e] at h
    cases y with
    | ino ds => exact h.elim
    | un => exact ⟨nofun, h⟩
    | val _ => exact ⟨nofun, h⟩
    | own _ => exact ⟨nofun, h⟩
/-- a, b = e1, e2 -/
def parO (f g : M Dat) (i j : Nat) : En → O := fun ρ => ((f.bnd fun x => g.bnd fun y => M.ret (x, y)) ρ).toO fun p ρ' => (putS i p.1 ρ').then (putS j p.2)
theorem ds_par (i j : Nat) {x y : Str} {px py pt : Pos} {kt k2 pt2} (hc : X.calm = true) (hN : X.N.Nodup) (hi : X.N[i]? = some x) (hj : X.N[j]? = some y) (hij : i ≠ j) (hx : X.env.scope.names.lookup x = some .local) (hy : X.env.scope.names.lookup y = some .local)
    (ha : DE X W a f) (hb : DE X W b g) (hw : swappedStores [.Tuple [.Name x px, .Name y py] kt pt] (.Tuple [a, b] k2 pt2) X.env = pure (some [x, y]) := by rfl)
    (hs : swapsWithSole [.Tuple [.Name x px, .Name y py] kt pt] (.Tuple [a, b] k2 pt2) pos.line X.env = pure false := by rfl)
    (hs1 : starEach [a, b] X.env = (false, eval a X.env) :: starEach [b] X.env := by rfl) (hs2 : starEach [b] X.env = (false, eval b X.env) :: starEach [] X.env := by rfl) :
    DS X W (.Assign [.Tuple [.Name x px, .Name y py] kt pt] (.Tuple [a, b] k2 pt2) pos) (parO f g i j) :=
  PS.imp (ps_par hc hN hi hj hij hx hy (pa_cons ha (pa_cons hb pa_nil hs2) hs1) hw hs) fun D σ H ⟨z, H0, ρ, r, q⟩ => by
    have q := RunS.part (σ := σ) q
    refine part r q fun d v H1 G1 ρ1 r1 s1 h1 q1 => part r1 q1 fun d2 v2 H2 G2 ρ2 r2 s2 h2 q2 => ?_
    have q3 : RunS (cc X W) z G2 ((putS i d ρ2).then (putS j d2)) D := q2 H2 G2 r2 (Same.refl _)
    obtain ⟨n, q4⟩ := putS_then q3
    exact ⟨v, v2, rfl, putS_run (r2.setv n (h1.mono s2)) h2 q4⟩
def dropO (f : M Dat) : En → O := fun ρ => (f ρ).toO fun _ => .nxt
theorem ds_expr (he : DE X W e f) (hs : swapsWith e none pos.line X.env = pure false := by rfl) : DS X W (.Expr e pos) (dropO f) :=
  PS.imp (ps_expr he hs) fun D σ H ⟨z, H0, ρ, r, q⟩ => sp (α := Dat) r q fun d v H' H1 ρ' r' s' hv q' => q' σ H' H1 r' (Same.refl _)
def retO (f : M Dat) : En → O := fun ρ => (f ρ).toO .ret
theorem ds_ret (he : DE X W e f) : DS X W (.Return (some e) pos) (retO f) :=
  PS.imp (ps_ret he) fun D σ H ⟨z, H0, ρ, r, q⟩ => sp (α := Dat) r q fun d v H' H1 ρ' r' s' hv q' => q' v σ H' H1 r' (Same.refl _) hv
theorem ds_retN : DS X W (.Return none pos) (.ret .non) := PS.imp ps_retN fun D σ H ⟨z, H0, ρ, r, q⟩ => q .non σ H H0 r (Same.refl _) .non
/-- return [..]: a new list -/
def retL (g : M (List Dat)) : En → O := fun ρ => (g ρ).toO fun ds ρ' => if ds.length ≤ 1000000 then .new ds ρ' else .stuck
theorem ds_retL {es : List Expr} {ga : M (List Dat)} (ha : DA X W es ga) : DS X W (.Return (some (.List es pos')) pos) (retL ga) :=
  PS.imp (ps_ret (pe_lst ha)) fun D σ H ⟨z, H0, ρ, r, q⟩ => by
    refine ⟨z, H0, ρ, r, (RunS.part q).mono fun ds H1 G1 ρ1 r1 s1 q1 vs hv => ?_⟩
    split at q1
    · rename_i hl
      refine ⟨sz (by rw [hv.length]; exact hl), fun p hp => ?_⟩
      have z0 := r1.fresh hp
      exact q1 p σ _ G1 (r1.new' _ hp) (Same.refl _) z0.1 z0.2 ⟨vs, upd_same, hv⟩
    · exact q1.elim
def ifO (c : M Bool) (f g : En → O) : En → O := fun ρ => (c ρ).toO fun b ρ' => if b = true then f ρ' else g ρ'
theorem ds_if {c : Expr} {fc : M Bool} {sa sb : List Stmt} (hc : DT X W c fc) (ha : DB X W sa fs) (hb : DB X W sb gs) : DS X W (.If c sa sb pos) (ifO fc fs gs) :=
  PS.imp (ps_if hc ha hb) fun D σ H ⟨z, H0, ρ, r, q⟩ => by
    refine ⟨z, H0, ρ, r, (RunS.part q).mono fun b H1 G1 ρ1 r1 s1 q1 => ?_⟩
    cases b with
    | true => exact ⟨z, G1, ρ1, r1, q1⟩
    | false => exact ⟨z, G1, ρ1, r1, q1⟩
/-! ### targets -/
inductive Tg where
  | one (i : Nat) | tup (is : List Nat)
def Tg.slots : Tg → List Nat
  | .one i => [i]
  | .tup is => is
def gNs : List Nat → TGs
  | [] => gNil
  | i :: is => gCons (gName i) (gNs is)
def gT (K : PySem.W.Frag) : Tg → TG
  | .one i => gName i
  | .tup is => gTup K is.length (gNs is)
def setVs : List Nat → List Dat → En → Option En
  | [], [], ρ => some ρ
  | i :: is, d :: ds, ρ => match ρ[i]? with
    | some .un => setVs is ds (ρ.set i (.val d))
    | some (.val _) => setVs is ds (ρ.set i (.val d))
    | some (.own _) => setVs is ds (ρ.set i (.val d))
    | _ => none
  | _, _, _ => none
def setT : Tg → Dat → En → Option En
  | .one i, d, ρ => setVs [i] [d] ρ
  | .tup is, .tup ds, ρ => setVs is ds ρ
  | _, _, _ => none
theorem wipe_set_out {σ : L2.St} {i : Nat} {v : Option V} : ∀ {vs : List Nat}, i ∉ vs → wipe (σ.set i v) vs = (wipe σ vs).set i v
  | [], _ => rfl
  | j :: vs, h => by
    have h1 : i ≠ j := fun e => h (by simp [e])
    have h2 : i ∉ vs := fun e => h (by simp [e])
    show (wipe (σ.set i v) vs).set j none = ((wipe σ vs).set j none).set i v
    rw [wipe_set_out h2, List.set_comm _ _ h1]
theorem wipe_set {σ : L2.St} {i : Nat} {v : Option V} : ∀ {vs : List Nat}, i ∈ vs → wipe (σ.set i v) vs = wipe σ vs
  | [], h => by cases h
  | j :: vs, h => by
    show (wipe (σ.set i v) vs).set j none = (wipe σ vs).set j none
    by_cases h2 : i ∈ vs
    · rw [wipe_set h2]
    · have e : i = j := by
        rcases List.mem_cons.mp h with e | e
        · exact e
        · exact absurd e h2
      subst e
      rw [wipe_set_out h2, List.set_set]
theorem setVs_run {K : PySem.W.Frag} {x : Fx} {H H0 : Hp} {Q : L2.St → Hp → Prop} {vs0 : List Nat} : ∀ {is : List Nat} {ds : List Dat} {vs : List V} {ρ ρ' : En} {σ : L2.St}, (∀ i ∈ is, i ∈ vs0) → Rel K x σ H H0 ρ → RepA K H0 vs ds → setVs is ds ρ = some ρ' →
    (∀ σ', Rel K x σ' H H0 ρ' → wipe σ' vs0 = wipe σ vs0 → Q σ' H) → gNs is vs σ H Q
  | [], [], _, ρ, ρ', σ, _, r, .nil, e, q => by
    cases e
    exact ⟨rfl, q σ r rfl⟩
  | i :: is, d :: ds, v :: vs, ρ, ρ', σ, hm, r, .cons h1 h2, e, q => by
    refine ⟨v, vs, rfl, ?_⟩
    have go : (∀ ds, ρ[i]? ≠ some (.ino ds)) → setVs is ds (ρ.set i (.val d)) = some ρ' → gNs is vs (σ.set i (some v)) H Q := fun n e =>
      setVs_run (fun j hj => hm j (List.mem_cons_of_mem _ hj)) (r.setv n h1) h2 e fun σ' r' w => q σ' r' (w.trans (wipe_set (hm i List.mem_cons_self)))
    unfold setVs at e
    split at e
    · rename_i q1; exact go (fun ds z => by rw [q1] at z; cases z) e
    · rename_i q1; exact go (fun ds z => by rw [q1] at z; cases z) e
    · rename_i q1; exact go (fun ds z => by rw [q1] at z; cases z) e
    · cases e
  | [], _ :: _, _, _, _, _, _, _, _, e, _ => by cases e
  | _ :: _, [], _, _, _, _, _, _, _, e, _ => by cases e
theorem setVs_len : ∀ {is : List Nat} {ds : List Dat} {ρ ρ' : En}, setVs is ds ρ = some ρ' → is.length = ds.length
  | [], [], _, _, _ => rfl
  | i :: is, d :: ds, ρ, ρ', e => by
    unfold setVs at e
    have go : ∀ {ρ1}, setVs is ds ρ1 = some ρ' → (i :: is).length = (d :: ds).length := fun e => by rw [List.length_cons, List.length_cons, setVs_len e]
    split at e
    · exact go e
    · exact go e
    · exact go e
    · cases e
  | [], _ :: _, _, _, e => by cases e
  | _ :: _, [], _, _, e => by cases e
theorem gT_run {K : PySem.W.Frag} {x : Fx} {H H0 : Hp} {Q : L2.St → Hp → Prop} {t : Tg} {d : Dat} {v : V} {ρ ρ' : En} {σ : L2.St} (r : Rel K x σ H H0 ρ) (h : Rep K H0 v d) (e : setT t d ρ = some ρ')
    (q : ∀ σ', Rel K x σ' H H0 ρ' → wipe σ' t.slots = wipe σ t.slots → Q σ' H) : gT K t v σ H Q := by
  cases t with
  | one i =>
    have z := setVs_run (vs0 := [i]) (is := [i]) (vs := [v]) (Q := Q) (fun _ h => h) r (.cons h .nil) e q
    obtain ⟨v', r', e', z⟩ := z
    cases e'
    obtain ⟨_, z⟩ := z
    exact z
  | tup is =>
    cases d with
    | tup ds =>
      cases h with
      | tup h1 h2 => exact ⟨_, _, rfl, sameT r.sub h1.sq, by rw [h2.length]; exact (setVs_len e).symm, setVs_run (fun _ h => h) r h2 e q⟩
    | _ => cases e
/-! ### loops over known data -/
def items : Dat → Option (List Dat)
  | .tup ds => some ds
  | .lst ds => some ds
  | _ => none
def forL (t : Tg) (body : En → O) : List Dat → En → O
  | [], ρ => .nxt ρ
  | d :: ds, ρ => match setT t d ρ with
    | none => .stuck
    | some ρ1 => match body ρ1 with
      | .nxt ρ2 => forL t body ds ρ2
      | .ctn ρ2 => forL t body ds ρ2
      | .brk ρ2 => .nxt ρ2
      | o => o
/-- one turn -/
theorem turn_run {c : Cc} {x : Fx} {H0 : Hp} {D : Ends} {body : En → O} {N : L2.St → Hp → Prop} {ρ : En} {σ : L2.St} {H : Hp} {f : En → O} (r : Rel c.K x σ H H0 ρ)
    (h : RunS c x H0 (match body ρ with
      | .nxt ρ2 => f ρ2
      | .ctn ρ2 => f ρ2
      | .brk ρ2 => .nxt ρ2
      | o => o) D) (hN : ∀ σ' H' H1 ρ2, Rel c.K x σ' H' H1 ρ2 → Same H0 H1 → RunS c x H1 (f ρ2) D → N σ' H') : tS c body { D with nx := N, ct := N, bk := D.nx } σ H := by
  refine ⟨x, H0, ρ, r, ?_⟩
  cases e : body ρ with
  | nxt ρ2 => rw [e] at h; exact fun σ' H' H1 r' s' => hN σ' H' H1 ρ2 r' s' (RunS.up h s')
  | ctn ρ2 => rw [e] at h; exact fun σ' H' H1 r' s' => hN σ' H' H1 ρ2 r' s' (RunS.up h s')
  | brk ρ2 => rw [e] at h; exact h
  | ret d ρ' => rw [e] at h; exact h
  | new ds ρ' => rw [e] at h; exact h
  | err cn fs ρ' => rw [e] at h; exact h
  | stuck => rw [e] at h; exact h
def forO (f : M Dat) (t : Tg) (body : En → O) : En → O := fun ρ => (f ρ).toO fun d ρ' => match items d with
  | some ds => forL t body ds ρ'
  | none => .stuck
/-- the loop's word: the rest of the items is still to be run -/
theorem for_step {c : Cc} {x : Fx} {D : Ends} {t : Tg} {body : En → O} {ds : List Dat} {i : Nat} {d : Dat} {v : V} {σ : L2.St} {H H0 : Hp} {ρ : En} {N : L2.St → Hp → Prop} (hd : ds[i]? = some d) (r : Rel c.K x σ H H0 ρ) (hv : Rep c.K H0 v d)
    (h : RunS c x H0 (forL t body (ds.drop i) ρ) D) (hN : ∀ σ' H' H1 ρ2, Rel c.K x σ' H' H1 ρ2 → Same H0 H1 → RunS c x H1 (forL t body (ds.drop (i + 1)) ρ2) D → N σ' H') :
    gT c.K t v σ H fun σ2 H2 => tS c body { D with nx := N, ct := N, bk := D.nx } σ2 H2 := by
  obtain ⟨hl, e⟩ := List.getElem?_eq_some_iff.mp hd
  rw [List.drop_eq_getElem_cons hl, e] at h
  unfold forL at h
  cases q : setT t d ρ with
  | none => rw [q] at h; exact h.elim
  | some ρ1 =>
    rw [q] at h
    exact gT_run r hv q fun σ' r' _ => turn_run r' h hN
theorem pi_seq {tg l : Expr} {tl : TE} (hl : PE X l tl) : PI X tg l (fun σ H R => iTup X.K tl σ H R ∨ iList X.K tl σ H R) := ⟨fun pins s σ H R I h => h.elim (fun h => (pi_tup hl).run pins s σ H R I h) fun h => (pi_list hl).run pins s σ H R I h⟩
theorem ds_for {t : Tg} {tg : Expr} {body : List Stmt} {pos : Pos} (hp : PassesOwn (model X.prog X.w) X.A X.env X.xe) (hc : X.calm = true) (hi : DE X W e f) (hg : PG X tg (gT X.K t)) (hb : DB X W body fs)
    (hs : ∀ x, foldedSetIterable e X.env x = pure x := by intro _; rfl) : DS X W (.For tg e body [] pos) (forO f t fs) :=
  PS.imp (ps_for hp hc (pi_seq hi) hg hb hs) fun D σ H ⟨z, H0, ρ, r, q⟩ => by
    unfold forO at q
    cases ef : f ρ with
    | stuck => rw [ef] at q; exact q.elim
    | err cn fs ρ' =>
      rw [ef] at q
      refine .inl ⟨z, H0, ρ, r, ?_⟩
      rw [ef]
      exact fun cls d H' H1 r' s' x' => q cls d σ H' H1 r' s' x'
    | ok d ρ' =>
      rw [ef] at q
      cases d with
      | tup ds =>
        refine .inl ⟨z, H0, ρ, r, ?_⟩
        rw [ef]
        intro H' H1 r' s' v hv
        cases hv with
        | @tup a vs _ h1 h2 =>
          refine ⟨a, rfl, ⟨_, sameT r'.sub h1.sq⟩, for_tup (K := X.K) (a := a) (xs := vs) (fun i σ H => ∃ G ρ1, Rel X.K z σ H G ρ1 ∧ Same H1 G ∧ RunS (cc X W) z G (forL t fs (ds.drop i) ρ1) D) ⟨H1, ρ', r', Same.refl _, RunS.up q s'⟩
            (fun i σ' H2 _ ⟨G, ρ1, r1, s1, _⟩ => sameT (s1.trans r1.sub) h1.sq) (fun i v σ' H2 hi ⟨G, ρ1, r1, s1, q1⟩ => ?_) fun σ' H2 ⟨G, ρ1, r1, s1, q1⟩ => ?_⟩
          · obtain ⟨d, hd, hr⟩ := h2.getV hi
            exact for_step hd r1 (hr.mono s1) q1 fun σ' H' H1 ρ2 r' s' q' => ⟨H1, ρ2, r', s1.trans s', q'⟩
          · rw [h2.length, List.drop_length] at q1
            exact q1 σ' H2 G r1 (Same.refl _)
      | lst ds =>
        refine .inr ⟨z, H0, ρ, r, ?_⟩
        rw [ef]
        intro H' H1 r' s' v hv
        cases hv with
        | @lst a vs _ h1 h2 =>
          refine ⟨a, rfl, ⟨_, .inl (sameRd r'.sub h1)⟩, for_list (K := X.K) (a := a) (xs := vs) (fun i σ H => ∃ G ρ1, Rel X.K z σ H G ρ1 ∧ Same H1 G ∧ RunS (cc X W) z G (forL t fs (ds.drop i) ρ1) D) ⟨H1, ρ', r', Same.refl _, RunS.up q s'⟩
            (fun i σ' H2 _ ⟨G, ρ1, r1, s1, _⟩ => .inl (sameRd (s1.trans r1.sub) h1)) (fun i v σ' H2 hi ⟨G, ρ1, r1, s1, q1⟩ => ?_) fun σ' H2 ⟨G, ρ1, r1, s1, q1⟩ => ?_⟩
          · obtain ⟨d, hd, hr⟩ := h2.getV hi
            exact for_step hd r1 (hr.mono s1) q1 fun σ' H' H1 ρ2 r' s' q' => ⟨H1, ρ2, r', s1.trans s', q'⟩
          · rw [h2.length, List.drop_length] at q1
            exact q1 σ' H2 G r1 (Same.refl _)
      | _ => exact q.elim
/-! ### range -/
def rgL (lo : Int) (n : Nat) : List Dat := (List.range n).map fun i => .int (lo + (i : Nat))
theorem rgL_get {lo : Int} {n i : Nat} (h : i < n) : (rgL lo n)[i]? = some (.int (lo + (i : Nat))) := by
  unfold rgL; rw [List.getElem?_map, List.getElem?_range h]; rfl
theorem rgL_len {lo : Int} {n : Nat} : (rgL lo n).length = n := by unfold rgL; rw [List.length_map, List.length_range]
def inR (n : Int) : Bool := Nat.ble n.natAbs 4611686018427387903
theorem inR_le {n : Int} (h : inR n = true) : -4611686018427387904 ≤ n ∧ n < 4611686018427387904 := by
  have := Nat.le_of_ble_eq_true h
  omega
theorem inR_of {n : Int} (h : -4611686018427387904 < n ∧ n < 4611686018427387904) : inR n = true := Nat.ble_eq_true_of_le (by omega)
def rg1 : List Dat → Option (List Dat)
  | [.int n] => if inR n = true then some (rgL 0 n.toNat) else none
  | _ => none
def rg2 : List Dat → Option (List Dat)
  | [.int m, .int n] => if inR m = true ∧ inR n = true then some (rgL m (n - m).toNat) else none
  | _ => none
def forRO (rg : List Dat → Option (List Dat)) (g : M (List Dat)) (t : Tg) (body : En → O) : En → O := fun ρ => (g ρ).toO fun as ρ' => match rg as with
  | some ds => forL t body ds ρ'
  | none => .stuck
theorem forR_word {c : Cc} {z : Fx} {D : Ends} {t : Tg} {body : En → O} {lo : Int} {n : Nat} {σ : L2.St} {H1 G1 : Hp} {ρ1 : En} (r1 : Rel c.K z σ H1 G1 ρ1) (q1 : RunS c z G1 (forL t body (rgL lo n) ρ1) D) :
    ∃ W : Nat → Nat → L2.St → Hp → Prop, (∃ m, W 0 m σ H1) ∧ ∀ i m σ H, W i m σ H →
      ((Itr lo n).stop i H ∧ D.nx σ H) ∨ ((Itr lo n).go i H ∧ ∃ N : L2.St → Hp → Prop, (∀ σ' H', N σ' H' → ∃ m', m' < m ∧ W (i + 1) m' σ' H') ∧ ∀ x H', (Itr lo n).yld i H x H' → gT c.K t x σ H' fun σ2 H2 => tS c body { D with nx := N, ct := N, bk := D.nx } σ2 H2) :=
  for_range (lo := lo) (n := n) (fun i σ H => ∃ G ρ1, Rel c.K z σ H G ρ1 ∧ RunS c z G (forL t body ((rgL lo n).drop i) ρ1) D) ⟨G1, ρ1, r1, q1⟩ (fun i σ' H2 hi ⟨G, ρ2, r2, q2⟩ =>
      for_step (rgL_get hi) r2 (.int _) q2 fun σ' H' H1 ρ2 r' s' q' => ⟨H1, ρ2, r', q'⟩) fun σ' H2 ⟨G, ρ2, r2, q2⟩ => by
    have e : (rgL lo n).drop n = [] := List.drop_eq_nil_of_le (by rw [rgL_len]; exact Nat.le_refl _)
    rw [e] at q2
    exact q2 σ' H2 G r2 (Same.refl _)
theorem ds_forR1 {t : Tg} {tg : Expr} {body : List Stmt} {ga : M (List Dat)} {p pos pos' : Pos} (hp : PassesOwn (model X.prog X.w) X.A X.env X.xe) (hc : X.calm = true) (hgl : Gl X "range") (hm : X.mg "range" = none) (ha : DA X W [a] ga) (hg : PG X tg (gT X.K t)) (hb : DB X W body fs)
    (hs1 : starEach [a] X.env = [(false, eval a X.env)] := by rfl) (hs : ∀ x, foldedSetIterable (.Call (.Name "range" p) [a] [] pos') X.env x = pure x := by intro _; rfl) : DS X W (.For tg (.Call (.Name "range" p) [a] [] pos') body [] pos) (forRO rg1 ga t fs) :=
  PS.imp (ps_for hp hc (pi_range1 hgl hm ha hs1) hg hb hs) fun D σ H ⟨z, H0, ρ, r, q⟩ => by
    refine ⟨z, H0, ρ, r, (RunS.part q).mono fun as H1 G1 ρ1 r1 s1 q1 vs hv => ?_⟩
    split at q1
    · rename_i ds e
      unfold rg1 at e
      split at e
      · split at e
        · rename_i n hn
          have hn := inR_le hn
          cases e
          cases hv with
          | cons h1 h2 =>
            cases h1; cases h2
            exact ⟨n, rfl, by omega, by omega, forR_word (c := cc X W) r1 q1⟩
        · cases e
      · cases e
    · exact q1.elim
theorem ds_forR2 {t : Tg} {tg : Expr} {body : List Stmt} {ga : M (List Dat)} {p pos pos' : Pos} (hp : PassesOwn (model X.prog X.w) X.A X.env X.xe) (hc : X.calm = true) (hgl : Gl X "range") (hm : X.mg "range" = none) (ha : DA X W [a, b] ga) (hg : PG X tg (gT X.K t)) (hb : DB X W body fs)
    (hs1 : starEach [a, b] X.env = [(false, eval a X.env), (false, eval b X.env)] := by rfl) (hs2 : starEach [b] X.env = [(false, eval b X.env)] := by rfl) (hs : ∀ x, foldedSetIterable (.Call (.Name "range" p) [a, b] [] pos') X.env x = pure x := by intro _; rfl) : DS X W (.For tg (.Call (.Name "range" p) [a, b] [] pos') body [] pos) (forRO rg2 ga t fs) :=
  PS.imp (ps_for hp hc (pi_range2 hgl hm ha hs1 hs2) hg hb hs) fun D σ H ⟨z, H0, ρ, r, q⟩ => by
    refine ⟨z, H0, ρ, r, (RunS.part q).mono fun as H1 G1 ρ1 r1 s1 q1 vs hv => ?_⟩
    split at q1
    · rename_i ds e
      unfold rg2 at e
      split at e
      · split at e
        · rename_i m n hn
          have hn1 := inR_le hn.1
          have hn2 := inR_le hn.2
          cases e
          cases hv with
          | cons h1 h2 =>
            cases h1
            cases h2 with
            | cons h3 h4 =>
              cases h3; cases h4
              exact ⟨m, n, rfl, ⟨by omega, by omega, by omega, by omega⟩, forR_word (c := cc X W) r1 q1⟩
        · cases e
      · cases e
    · exact q1.elim
end
end Sv

set_option Elab.async false
set_option linter.all false
set_option maxRecDepth 100000
namespace Sv
open PySem L2
/-! ## lists in the making, new lists -/
abbrev Fx.add (x : Fx) (D : Addr) (o : HO) : Fx := { x with rs := (D, o) :: x.rs }
section
variable {K : PySem.W.Frag} {x : Fx} {σ σ' : L2.St} {H H0 H' H0' : Hp} {ρ : En} {D : Addr} {o o' : HO}
theorem Rel.weak (r : Rel K x σ' H H0 ρ) (hl : σ.length = σ'.length) (w : ∀ (j : Nat) (v : V), σ'[j]? = some (some v) → σ[j]? = some (some v)) : Rel K x σ H H0 ρ where
  sub := r.sub
  ent := r.ent
  len := r.len.trans hl.symm
  val := fun i d e => let ⟨v, h1, h2⟩ := r.val i d e; ⟨v, w _ _ h1, h2⟩
  own := fun i ds e => let ⟨a, h1, h2⟩ := r.own i ds e; ⟨a, w _ _ h1, h2⟩
  ino := fun i ds e => let ⟨a, h0, h1, h2⟩ := r.ino i ds e; ⟨a, h0, w _ _ h1, h2⟩
  iow := r.iow
  apart := fun i j a n m1 m2 q1 q2 => by
    obtain ⟨a1, _, e1, _⟩ := mutS_at r m1
    obtain ⟨a2, _, e2, _⟩ := mutS_at r m2
    rw [w _ _ e1] at q1; cases q1
    rw [w _ _ e2] at q2; cases q2
    exact r.apart i j a n m1 m2 e1 e2
  old := r.old
  rsv := fun a o e => by
    obtain ⟨q1, q2, q3, q4⟩ := r.rsv a o e
    refine ⟨q1, q2, q3, fun j m z => ?_⟩
    obtain ⟨a1, _, e1, _⟩ := mutS_at r m
    rw [w _ _ e1] at z; cases z
    exact q4 j m e1
theorem Rel.adds (r : Rel K x σ H H0 ρ) (hD : H D = some o) (gD : H0 D = none) (eD : x.He D = none) (na : ∀ j, mutS ρ j → σ[j]? ≠ some (some (.ref D))) : Rel K (x.add D o) σ H H0 ρ :=
  ⟨r.sub, r.ent, r.len, r.val, r.own, r.ino, r.iow, r.apart, r.old, fun a u e => by
    rcases List.mem_cons.mp e with e | e
    · cases e; exact ⟨hD, gD, eD, na⟩
    · exact r.rsv a u e⟩
theorem Rel.notat (r : Rel K x σ H H0 ρ) (h : H D = none) : ∀ j, mutS ρ j → σ[j]? ≠ some (some (.ref D)) := fun j m z => by
  obtain ⟨a, vs, e1, e2, _⟩ := mutS_at r m
  rw [z] at e1; cases e1
  rw [h] at e2; cases e2
theorem Rel.nors (r : Rel K x σ H H0 ρ) (h : H D = none) : ∀ o, (D, o) ∉ x.rs := fun o e => by
  have := (r.rsv D o e).1
  rw [h] at this; cases this
theorem Rel.start (r : Rel K x σ H H0 ρ) (h : H D = none) : Rel K (x.add D o) σ (upd H D o) H0 ρ :=
  (r.new' o h).adds upd_same (r.fresh h).2 (r.fresh h).1 (r.notat h)
theorem Rel.drop (r : Rel K (x.add D o) σ H H0 ρ) : Rel K x σ H H0 ρ := ⟨r.sub, r.ent, r.len, r.val, r.own, r.ino, r.iow, r.apart, r.old, fun a u e => r.rsv a u (List.mem_cons_of_mem _ e)⟩
theorem Rel.at (r : Rel K (x.add D o) σ H H0 ρ) : H D = some o ∧ H0 D = none ∧ x.He D = none ∧ ∀ j, mutS ρ j → σ[j]? ≠ some (some (.ref D)) := r.rsv D o List.mem_cons_self
theorem Rel.rupd (r : Rel K (x.add D o) σ H H0 ρ) (nD : ∀ u, (D, u) ∉ x.rs) : Rel K (x.add D o') σ (upd H D o') H0 ρ := by
  obtain ⟨q1, q2, q3, q4⟩ := r.at
  refine ⟨fun b u e => ?_, fun b u e n => ?_, r.len, r.val, fun i ds e => ?_, fun i ds e => ?_, r.iow, r.apart, r.old, fun a u e => ?_⟩
  · rw [upd_ne (ne_of_none e q2)]; exact r.sub _ _ e
  · have nb : b ≠ D := fun z => by subst z; rw [show x.He b = _ from e] at q3; cases q3
    rw [upd_ne nb]; exact r.ent b u e n
  · obtain ⟨a, h1, h2, h3, h4⟩ := r.own i ds e
    have na : a ≠ D := fun z => q4 i (.inl ⟨ds, e⟩) (z ▸ h1)
    exact ⟨a, h1, h2, h3, h4.mono (upd_ne na) (Same.refl _)⟩
  · obtain ⟨a, h0, h1, h3, h4⟩ := r.ino i ds e
    have na : a ≠ D := fun z => q4 i (.inr ⟨ds, e⟩) (z ▸ h1)
    exact ⟨a, h0, h1, h3, h4.mono (upd_ne na) (Same.refl _)⟩
  · rcases List.mem_cons.mp e with e | e
    · cases e; exact ⟨upd_same, q2, q3, q4⟩
    · have na : a ≠ D := fun z => nD u (z ▸ e)
      obtain ⟨p1, p2, p3, p4⟩ := r.rsv a u (List.mem_cons_of_mem _ e)
      exact ⟨by rw [upd_ne na]; exact p1, p2, p3, p4⟩
/-- a new list at p, not known yet -/
structure NewAt (K : PySem.W.Frag) (x : Fx) (σ : L2.St) (H H0 : Hp) (ρ : En) (p : Addr) (ds : List Dat) : Prop where
  he : x.He p = none
  h0 : H0 p = none
  na : ∀ j, mutS ρ j → σ[j]? ≠ some (some (.ref p))
  nr : ∀ o, (p, o) ∉ x.rs
  at' : LstAt K H H0 p ds
theorem Rel.know (r : Rel K x σ H H0 ρ) {p : Addr} {ds : List Dat} (n : NewAt K x σ H H0 ρ p ds) : ∃ H1, Rel K x σ H H1 ρ ∧ Same H0 H1 ∧ Rep K H1 (.ref p) (.lst ds) := by
  obtain ⟨vs, h1, h2⟩ := n.at'
  have h0 := n.h0
  have s0 : Same H0 (upd H0 p (.lst vs)) := fun b u e => by rw [upd_ne (ne_of_none e h0)]; exact e
  refine ⟨_, ⟨fun b u e => ?_, r.ent, r.len, fun i d e => let ⟨v, q1, q2⟩ := r.val i d e; ⟨v, q1, q2.mono s0⟩, fun i es e => ?_, fun i es e => ?_, r.iow, r.apart, fun a u e e2 => ?_, fun a u e => ?_⟩, s0, .lst (Rd.of upd_same) (h2.mono s0)⟩
  · by_cases hb : b = p
    · subst hb; rw [upd_same] at e; rw [h1]; exact e
    · rw [upd_ne hb] at e; exact r.sub _ _ e
  · obtain ⟨a, q1, q2, q3, q4⟩ := r.own i es e
    exact ⟨a, q1, q2, by
      have na : a ≠ p := fun z => n.na i (.inl ⟨es, e⟩) (z ▸ q1)
      rw [upd_ne na]; exact q3, q4.mono rfl s0⟩
  · obtain ⟨a, q0, q1, q3, q4⟩ := r.ino i es e
    exact ⟨a, q0, q1, by
      have na : a ≠ p := fun z => n.na i (.inr ⟨es, e⟩) (z ▸ q1)
      rw [upd_ne na]; exact q3, q4.mono rfl s0⟩
  · have na : a ≠ p := fun z => by rw [z, n.he] at e; cases e
    rw [upd_ne na]; exact r.old a u e e2
  · obtain ⟨q1, q2, q3, q4⟩ := r.rsv a u e
    exact ⟨q1, by
      have na : a ≠ p := fun z => n.nr u (z ▸ e)
      rw [upd_ne na]; exact q2, q3, q4⟩
def unS : List Nat → En → En
  | [], ρ => ρ
  | i :: is, ρ => (unS is ρ).set i .un
theorem Rel.wipe : ∀ {vs : List Nat}, Rel K x σ H H0 ρ → (∀ i ∈ vs, x.io i = none) → Rel K x (L2.wipe σ vs) H H0 (unS vs ρ)
  | [], r, _ => r
  | i :: vs, r, h => by
    have r1 := Rel.wipe (vs := vs) r fun j hj => h j (List.mem_cons_of_mem _ hj)
    refine r1.setu (i := i) (y := none) fun ds e => ?_
    obtain ⟨a, q, _⟩ := r1.ino i ds e
    rw [h i List.mem_cons_self] at q; cases q
theorem wipe_wipe (σ : L2.St) : ∀ vs : List Nat, L2.wipe (L2.wipe σ vs) vs = L2.wipe σ vs := by
  have key : ∀ (us vs : List Nat), (∀ i ∈ us, i ∈ vs) → L2.wipe (L2.wipe σ us) vs = L2.wipe σ vs := by
    intro us
    induction us with
    | nil => intro vs _; rfl
    | cons u us ih =>
      intro vs h
      show L2.wipe ((L2.wipe σ us).set u none) vs = _
      rw [wipe_set (h u List.mem_cons_self)]
      exact ih vs fun i hi => h i (List.mem_cons_of_mem _ hi)
  exact fun vs => key vs vs fun _ h => h
end
/-- a new list's reading -/
def tN (c : Cc) (f : M (List Dat)) : TE := fun σ H Q => ∃ (x : Fx) (H0 : Hp) (ρ : En), Rel c.K x σ H H0 ρ ∧ Run c x σ H0 (f ρ) fun ds H' H1 ρ' => ∀ p, NewAt c.K x σ H' H1 ρ' p ds → Q (.ref p) H'
def DN (X : Cx) (W : WX) (e : Expr) (f : M (List Dat)) : Prop := PE X e (tN (cc X W) f)
def M.frz (f : M (List Dat)) : M Dat := f.bnd fun ds => M.ret (.lst ds)
section
variable {X : Cx} {W : WX} {e a b : Expr} {f g : M Dat} {fn : M (List Dat)} {pos pos' : Pos}
theorem DN.de (h : DN X W e fn) : DE X W e fn.frz := PE.imp h fun σ H Q ⟨x, H0, ρ, r, q⟩ => ⟨x, H0, ρ, r, (Run.bnd q).mono fun ds H1 G1 ρ1 r1 s1 q1 p n => by
  obtain ⟨G2, r2, s2, h2⟩ := r1.know n
  exact q1 H1 G2 r2 s2 _ h2⟩
def capL (ds : List Dat) : M (List Dat) := M.lift (if ds.length ≤ 1000000 then some ds else none)
theorem dn_lst {es : List Expr} {ga : M (List Dat)} (h : DA X W es ga) : DN X W (.List es pos) (ga.bnd capL) :=
  PE.imp (pe_lst h) fun σ H Q ⟨z, H0, ρ, rl, q⟩ => partA rl q fun ds vs H1 G1 ρ1 r1 s1 hx q1 => by
    obtain ⟨ds', e, q2⟩ := Run.lift q1
    split at e
    · rename_i hl
      cases e
      refine ⟨sz (by rw [hx.length]; exact hl), fun p hp => ?_⟩
      exact q2 _ G1 (r1.new' _ hp) (Same.refl _) p ⟨(r1.fresh hp).1, (r1.fresh hp).2, r1.notat hp, r1.nors hp, vs, upd_same, hx⟩
    · cases e
/-- x = a new list -/
def setNO (f : M (List Dat)) (i : Nat) : En → O := fun ρ => (f ρ).toO fun ds ρ' => match ρ'[i]? with
  | some .un => .nxt (ρ'.set i (.own ds))
  | some (.val _) => .nxt (ρ'.set i (.own ds))
  | some (.own _) => .nxt (ρ'.set i (.own ds))
  | _ => .stuck
theorem setN_run {c : Cc} {x : Fx} {H0 H : Hp} {i : Nat} {ds : List Dat} {ρ : En} {D : Ends} {σ : L2.St} {p : Addr} (r : Rel c.K x σ H H0 ρ) (n : NewAt c.K x σ H H0 ρ p ds)
    (h : RunS c x H0 (match ρ[i]? with
  | some .un => .nxt (ρ.set i (.own ds))
  | some (.val _) => .nxt (ρ.set i (.own ds))
  | some (.own _) => .nxt (ρ.set i (.own ds))
  | _ => .stuck) D) : D.nx (σ.set i (some (.ref p))) H := by
  obtain ⟨vs, h1, h2⟩ := n.at'
  have go : (∀ ds, ρ[i]? ≠ some (.ino ds)) → RunS c x H0 (.nxt (ρ.set i (.own ds))) D → D.nx (σ.set i (some (.ref p))) H := fun hn q =>
    q _ H H0 (r.seto hn h1 n.h0 n.he n.na n.nr h2) (Same.refl _)
  split at h
  · rename_i q; exact go (fun ds z => by rw [q] at z; cases z) h
  · rename_i q; exact go (fun ds z => by rw [q] at z; cases z) h
  · rename_i q; exact go (fun ds z => by rw [q] at z; cases z) h
  · exact h.elim
theorem ds_setN (i : Nat) {x : Str} (hN : X.N.Nodup) (hi : X.N[i]? = some x) (hx : Loc X.env.scope x) (he : DN X W e fn) (hs : swapsWith e (some (.Name x pos')) pos.line X.env = pure false := by rfl) (hf : X.fn x = true ∨ X.env.scope.names.lookup x = some .local := by first | exact .inl rfl | exact .inr rfl | assumption) :
    DS X W (.Assign [.Name x pos'] e pos) (setNO fn i) := PS.imp (ps_set hN hi hx he hs hf) fun D σ H ⟨z, H0, ρ, r, q⟩ =>
      ⟨z, H0, ρ, r, (RunS.part q).mono fun ds H1 G1 ρ1 r1 s1 q1 p n => setN_run r1 n q1⟩
def retNO (f : M (List Dat)) : En → O := fun ρ => (f ρ).toO .new
theorem ds_retNw (he : DN X W e fn) : DS X W (.Return (some e) pos) (retNO fn) :=
  PS.imp (ps_ret he) fun D σ H ⟨z, H0, ρ, r, q⟩ => ⟨z, H0, ρ, r, (RunS.part q).mono fun ds H1 G1 ρ1 r1 s1 q1 p n => q1 p σ H1 G1 r1 (Same.refl _) n.he n.h0 n.at'⟩
/-! ### comprehensions -/
def lcL (t : Tg) (tt : M Bool) (g : M Dat) : List Dat → List Dat → En → R (List Dat)
  | [], acc, ρ => .ok acc ρ
  | d :: ds, acc, ρ => match setT t d ρ with
    | none => .stuck
    | some ρ1 => match tt ρ1 with
      | .ok true ρ2 => (match g ρ2 with
        | .ok y ρ3 => if acc.length < 1000000 then lcL t tt g ds (acc ++ [y]) (unS t.slots ρ3) else .stuck
        | _ => .stuck)
      | .ok false ρ2 => lcL t tt g ds acc (unS t.slots ρ2)
      | _ => .stuck
def isUn (ρ : En) (i : Nat) : Bool := match ρ[i]? with
  | some .un => true
  | _ => false
theorem isUn_eq {ρ : En} {i : Nat} (h : isUn ρ i = true) : ρ[i]? = some .un := by
  unfold isUn at h; split at h
  · assumption
  · cases h
def lcI (t : Tg) (tt : M Bool) (g : M Dat) (ds : List Dat) : M (List Dat) := fun ρ => if t.slots.all (isUn ρ) = true then lcL t tt g ds [] (unS t.slots ρ) else .stuck
def tYesM : M Bool := M.ret true
def DTs (X : Cx) (W : WX) (ifs : List Expr) (f : M Bool) : Prop := PTs X ifs (tDT (cc X W) f)
theorem dts_nil : DTs X W [] tYesM := ⟨fun pins s σ H Q I h => pts_nil.run pins s σ H Q I (by obtain ⟨z, H0, ρ, r, q⟩ := h; exact q H H0 r (Same.refl _))⟩
theorem dts_one {c : Expr} {f : M Bool} (h : DT X W c f) : DTs X W [c] f := pts_one h
/-- no exception leaves a comprehension -/
abbrev W0 : WX := fun _ _ _ _ => False
/-- the invariant of a comprehension's turns -/
def LcInv (c : Cc) (x : Fx) (σ : L2.St) (t : Tg) (tt : M Bool) (g : M Dat) (Q : VK) (G0 : Hp) (D : Addr) (ds : List Dat) (i : Nat) (H : Hp) : Prop :=
  ∃ (G : Hp) (ρ : En) (acc : List Dat) (av : List V), Rel c.K (x.add D (.lst av)) (L2.wipe σ t.slots) H G ρ ∧ Same G0 G ∧ RepA c.K G av acc ∧ (∀ j ∈ t.slots, ρ[j]? = some .un) ∧
    Run c x σ G (lcL t tt g (ds.drop i) acc ρ) fun es H' H1 ρ' => ∀ p, NewAt c.K x σ H' H1 ρ' p es → Q (.ref p) H'
theorem unS_at : ∀ {vs : List Nat} {ρ : En} {j : Nat}, j ∈ vs → j < ρ.length → (unS vs ρ)[j]? = some .un
  | i :: vs, ρ, j, h, hl => by
    have len : ∀ (us : List Nat), (unS us ρ).length = ρ.length := fun us => by
      induction us with
      | nil => rfl
      | cons u us ih => unfold unS; rw [List.length_set, ih]
    unfold unS
    by_cases e : i = j
    · subst e
      exact List.getElem?_set_self (by rw [len]; exact hl)
    · rw [List.getElem?_set_ne e]
      exact unS_at (by
        rcases List.mem_cons.mp h with z | z
        · exact absurd z.symm e
        · exact z) hl
theorem lc_turn {c c0 : Cc} (hK : c0.K = c.K) {x : Fx} {σ : L2.St} {t : Tg} {tt : M Bool} {g : M Dat} {Q : VK} {G0 : Hp} {D : Addr} {ds : List Dat} {i : Nat} {d : Dat} {v : V} {H : Hp} (hd : ds[i]? = some d) (hv : Rep c.K G0 v d) (nD : ∀ u, (D, u) ∉ x.rs) (hio : ∀ j ∈ t.slots, x.io j = none ∧ j < σ.length)
    (h : LcInv c x σ t tt g Q G0 D ds i H) :
    gT c.K t v (L2.wipe σ t.slots) H fun σ2 H2 => L2.wipe σ2 t.slots = L2.wipe σ t.slots ∧ tDT c0 tt σ2 H2 fun b H3 =>
      if b = true then tD c0 g σ2 H3 fun y H4 => ∃ acc, H4 D = some (.lst acc) ∧ acc.length < sizeLine ∧ LcInv c x σ t tt g Q G0 D ds (i + 1) (upd H4 D (.lst (acc ++ [y]))) else LcInv c x σ t tt g Q G0 D ds (i + 1) H3 := by
  obtain ⟨G, ρ, acc, av, r, s, ra, hu, q⟩ := h
  obtain ⟨hl, e⟩ := List.getElem?_eq_some_iff.mp hd
  rw [List.drop_eq_getElem_cons hl, e] at q
  unfold lcL at q
  have len : ∀ {σ2 : L2.St} {H2 G2 : Hp} {ρ2 : En} {o : HO}, Rel c.K (x.add D o) σ2 H2 G2 ρ2 → L2.wipe σ2 t.slots = L2.wipe σ t.slots → ∀ j ∈ t.slots, j < ρ2.length := fun r w j hj => by
    have e1 := r.len
    have e2 := congrArg List.length w
    rw [wipe_length, wipe_length] at e2
    have := (hio j hj).2
    omega
  cases q1 : setT t d ρ with
  | none => rw [q1] at q; exact q.elim
  | some ρ1 =>
    rw [q1] at q; try dsimp only at q
    refine gT_run r (hv.mono s) q1 fun σ2 r2 w => ⟨w.trans (wipe_wipe _ _), x.add D (.lst av), G, ρ1, hK ▸ r2, ?_⟩
    have w2 : L2.wipe σ2 t.slots = L2.wipe σ t.slots := w.trans (wipe_wipe _ _)
    cases q2 : tt ρ1 with
    | stuck => rw [q2] at q; exact q.elim
    | err cn fs ρ' => rw [q2] at q; exact q.elim
    | ok b ρ2 =>
      rw [q2] at q; try dsimp only at q
      intro H3 G3 r3 s3
      rw [hK] at r3
      cases b with
      | false =>
        rw [if_neg (by decide)]
        refine ⟨G3, unS t.slots ρ2, acc, av, w2 ▸ r3.wipe (fun j hj => (hio j hj).1), s.trans s3, ra.mono s3, fun j hj => unS_at hj (len r3 w2 j hj), Run.up q s3⟩
      | true =>
        rw [if_pos rfl]
        refine ⟨x.add D (.lst av), G3, ρ2, hK ▸ r3, ?_⟩
        dsimp only at q
        cases q3 : g ρ2 with
        | stuck => rw [q3] at q; exact q.elim
        | err cn fs ρ' => rw [q3] at q; exact q.elim
        | ok y ρ3 =>
          rw [q3] at q; try dsimp only at q
          intro H4 G4 r4 s4 yv hy
          rw [hK] at r4 hy
          obtain ⟨p1, p2, p3, p4⟩ := r4.at
          split at q
          · rename_i hz
            have s34 := s3.trans s4
            refine ⟨av, p1, Nat.lt_of_lt_of_le (by rw [ra.length]; exact hz) (by decide), G4, unS t.slots ρ3, acc ++ [y], av ++ [yv], ?_, s.trans s34, (ra.mono s34).app (.cons hy .nil), fun j hj => unS_at hj (len r4 w2 j hj), Run.up q s34⟩
            have r5 : Rel c.K (x.add D (.lst (av ++ [yv]))) σ2 (upd H4 D (.lst (av ++ [yv]))) G4 ρ3 := r4.rupd nD
            exact w2 ▸ r5.wipe (fun j hj => (hio j hj).1)
          · exact q.elim
theorem lc_end {c : Cc} {x : Fx} {σ : L2.St} {t : Tg} {tt : M Bool} {g : M Dat} {Q : VK} {G0 : Hp} {D : Addr} {ds : List Dat} {n : Nat} {H : Hp} (hn : ds.length ≤ n) (nD : ∀ u, (D, u) ∉ x.rs) (h : LcInv c x σ t tt g Q G0 D ds n H) : Q (.ref D) H := by
  obtain ⟨G, ρ, acc, av, r, s, ra, hu, q⟩ := h
  rw [List.drop_eq_nil_of_le hn] at q
  have r2 : Rel c.K (x.add D (.lst av)) σ H G ρ := r.weak (wipe_length σ _).symm fun j v e => (wipe_some e).1
  obtain ⟨p1, p2, p3, p4⟩ := r2.at
  exact q H G r2.drop (Same.refl _) D ⟨p3, p2, p4, nD, av, p1, ra⟩
theorem lc_start {c : Cc} {x : Fx} {σ : L2.St} {t : Tg} {tt : M Bool} {g : M Dat} {Q : VK} {D : Addr} {ds : List Dat} {H G : Hp} {ρ : En} (r : Rel c.K x σ H G ρ) (hD : H D = none)
    (q : Run c x σ G (lcI t tt g ds ρ) fun es H' H1 ρ' => ∀ p, NewAt c.K x σ H' H1 ρ' p es → Q (.ref p) H') : (∀ u, (D, u) ∉ x.rs) ∧ (∀ j ∈ t.slots, x.io j = none ∧ j < σ.length) ∧ LcInv c x σ t tt g Q G D ds 0 (upd H D (.lst [])) := by
  unfold lcI at q
  split at q
  · rename_i hu
    rw [List.all_eq_true] at hu
    have hio : ∀ j ∈ t.slots, x.io j = none ∧ j < σ.length := fun j hj => by
      have e := isUn_eq (hu j hj)
      exact ⟨r.noio (fun ds z => by rw [e] at z; cases z), by rw [← r.len]; exact (List.getElem?_eq_some_iff.mp e).1⟩
    refine ⟨r.nors hD, hio, G, unS t.slots ρ, [], [], ?_, Same.refl _, .nil, fun j hj => unS_at hj (by rw [r.len]; exact (hio j hj).2), q⟩
    have r1 : Rel c.K (x.add D (.lst [])) σ (upd H D (.lst [])) G ρ := r.start hD
    exact r1.wipe fun j hj => (hio j hj).1
  · exact q.elim
/-- the source: a tuple or a list that is known -/
def M.lc (f : M Dat) (t : Tg) (tt : M Bool) (g : M Dat) : M (List Dat) := f.bnd fun d => match items d with
  | some ds => lcI t tt g ds
  | none => fun _ => .stuck
variable {elt tg iter : Expr} {ifs : List Expr} {scope : Scope} {own : List (Str × Nat)} {t : Tg} {tt : M Bool}
theorem lc_reading {σ : L2.St} {H : Hp} {Q : VK} (h : tN (cc X W) (f.lc t tt g) σ H Q) : tLc (fun σ H R => iTup X.K (tD (cc X W) f) σ H R ∨ iList X.K (tD (cc X W) f) σ H R) (gT X.K t) (tDT (cc X W0) tt) (tD (cc X W0) g) t.slots σ H Q := by
  obtain ⟨z, H0, ρ, r, q⟩ := h
  unfold M.lc at q
  unfold M.bnd at q
  cases ef : f ρ with
  | stuck => rw [ef] at q; exact q.elim
  | err cn fs ρ' =>
    rw [ef] at q
    refine .inl ⟨z, H0, ρ, r, ?_⟩
    rw [ef]
    exact q
  | ok d ρ' =>
    rw [ef] at q
    cases d with
    | tup ds =>
      refine .inl ⟨z, H0, ρ, r, ?_⟩
      rw [ef]
      intro H1 G1 r1 s1 v hv
      cases hv with
      | @tup a vs _ h1 h2 =>
        refine ⟨a, rfl, ⟨_, sameT r1.sub h1.sq⟩, fun D hD => ?_⟩
        obtain ⟨nD, hio, st⟩ := lc_start (c := cc X W) r1 hD (Run.up q s1)
        refine lc_tup (K := X.K) (a := a) (xs := vs) (fun i H => LcInv (cc X W) z σ t tt g Q G1 D ds i H) st (fun i H2 _ w => ?_) (fun i v H2 hi w => ?_) fun H2 w => lc_end (by rw [h2.length]; exact Nat.le_refl _) nD w
        · obtain ⟨G, ρ2, acc, av, r2, s2, _⟩ := w
          exact sameT (s2.trans r2.sub) h1.sq
        · obtain ⟨d, hd, hr⟩ := h2.getV hi
          exact lc_turn (c := cc X W) (c0 := cc X W0) rfl hd hr nD hio w
    | lst ds =>
      refine .inr ⟨z, H0, ρ, r, ?_⟩
      rw [ef]
      intro H1 G1 r1 s1 v hv
      cases hv with
      | @lst a vs _ h1 h2 =>
        refine ⟨a, rfl, ⟨_, .inl (sameRd r1.sub h1)⟩, fun D hD => ?_⟩
        obtain ⟨nD, hio, st⟩ := lc_start (c := cc X W) r1 hD (Run.up q s1)
        refine lc_list (K := X.K) (a := a) (xs := vs) (fun i H => LcInv (cc X W) z σ t tt g Q G1 D ds i H) st (fun i H2 _ w => ?_) (fun i v H2 hi w => ?_) fun H2 w => lc_end (by rw [h2.length]; exact Nat.le_refl _) nD w
        · obtain ⟨G, ρ2, acc, av, r2, s2, _⟩ := w
          exact .inl (sameRd (s2.trans r2.sub) h1)
        · obtain ⟨d, hd, hr⟩ := h2.getV hi
          exact lc_turn (c := cc X W) (c0 := cc X W0) rfl hd hr nD hio w
    | _ => exact q.elim
theorem dn_lc (hc : X.calm = true) (hN : X.N.Nodup) (hi : DE X W iter f) (ok : BlkOk X.N X.env.scope scope own) (hown : own.map (·.2) = t.slots)
    (hg : ∀ (s : Shared) (H : Hp) (C : Addr) (cl : List (Str × Addr)) (fp : List Addr), PG (X.blk s H scope (compEnvC scope cl C X.env) fp) tg (gT X.K t)) (ht : ∀ (s : Shared) (H : Hp) (C : Addr) (cl : List (Str × Addr)) (fp : List Addr), DTs (X.blk s H scope (compEnvC scope cl C X.env) fp) W0 ifs tt)
    (he : ∀ (s : Shared) (H : Hp) (C : Addr) (cl : List (Str × Addr)) (fp : List Addr), DE (X.blk s H scope (compEnvC scope cl C X.env) fp) W0 elt g) (hs : ∀ x, foldedSetIterable iter X.env x = pure x := by intro _; rfl) :
    DN X W (.ListComp elt [⟨tg, iter, ifs, 0⟩] scope pos) (f.lc t tt g) :=
  PE.imp (pe_lc (tt := tDT (cc X W0) tt) (te := tD (cc X W0) g) hc hN (pi_seq hi) ok hg ht he hs) fun σ H Q h => by
    rw [hown]
    exact lc_reading h
end
end Sv

set_option Elab.async false
set_option linter.all false
set_option maxRecDepth 100000
namespace Sv
open PySem L2
/-! ## comprehensions over a range -/
def M.lcR (rg : List Dat → Option (List Dat)) (ga : M (List Dat)) (t : Tg) (tt : M Bool) (g : M Dat) : M (List Dat) := ga.bnd fun as => match rg as with
  | some ds => lcI t tt g ds
  | none => fun _ => .stuck
section
variable {X : Cx} {W : WX} {e a b : Expr} {f g : M Dat} {fn ga : M (List Dat)} {pos pos' p : Pos} {elt tg iter : Expr} {ifs : List Expr} {scope : Scope} {own : List (Str × Nat)} {t : Tg} {tt : M Bool}
theorem lcR_word {z : Fx} {σ : L2.St} {Q : VK} {lo : Int} {n : Nat} {H1 G1 : Hp} {ρ1 : En} (r1 : Rel X.K z σ H1 G1 ρ1) (q1 : Run (cc X W) z σ G1 (lcI t tt g (rgL lo n) ρ1) fun es H' H1 ρ' => ∀ p, NewAt X.K z σ H' H1 ρ' p es → Q (.ref p) H') (D : Addr) (hD : H1 D = none) :
    ∃ V : Nat → Nat → Hp → Prop, (∃ m, V 0 m (upd H1 D (.lst []))) ∧ ∀ i m H, V i m H →
      ((Itr lo n).stop i H ∧ Q (.ref D) H) ∨ ((Itr lo n).go i H ∧ ∃ Nx : Hp → Prop, (∀ H', Nx H' → ∃ m', m' < m ∧ V (i + 1) m' H') ∧ ∀ x H', (Itr lo n).yld i H x H' → gT X.K t x (L2.wipe σ t.slots) H' fun σ2 H2 => L2.wipe σ2 t.slots = L2.wipe σ t.slots ∧ tDT (cc X W0) tt σ2 H2 fun b H3 =>
        if b = true then tD (cc X W0) g σ2 H3 fun y H4 => ∃ acc, H4 D = some (.lst acc) ∧ acc.length < sizeLine ∧ Nx (upd H4 D (.lst (acc ++ [y]))) else Nx H3) := by
  obtain ⟨nD, hio, st⟩ := lc_start (c := cc X W) r1 hD q1
  exact lc_range (lo := lo) (n := n) (fun i H => LcInv (cc X W) z σ t tt g Q G1 D (rgL lo n) i H) st (fun i H2 hi w => lc_turn (c := cc X W) (c0 := cc X W0) rfl (rgL_get hi) (.int _) nD hio w) fun H2 w => lc_end (by rw [rgL_len]; exact Nat.le_refl _) nD w
theorem dn_lcR1 (hc : X.calm = true) (hN : X.N.Nodup) (hgl : Gl X "range") (hm : X.mg "range" = none) (ha : DA X W [a] ga) (ok : BlkOk X.N X.env.scope scope own) (hown : own.map (·.2) = t.slots)
    (hg : ∀ (s : Shared) (H : Hp) (C : Addr) (cl : List (Str × Addr)) (fp : List Addr), PG (X.blk s H scope (compEnvC scope cl C X.env) fp) tg (gT X.K t)) (ht : ∀ (s : Shared) (H : Hp) (C : Addr) (cl : List (Str × Addr)) (fp : List Addr), DTs (X.blk s H scope (compEnvC scope cl C X.env) fp) W0 ifs tt)
    (he : ∀ (s : Shared) (H : Hp) (C : Addr) (cl : List (Str × Addr)) (fp : List Addr), DE (X.blk s H scope (compEnvC scope cl C X.env) fp) W0 elt g) (hs1 : starEach [a] X.env = [(false, eval a X.env)] := by rfl) (hs : ∀ x, foldedSetIterable (.Call (.Name "range" p) [a] [] pos') X.env x = pure x := by intro _; rfl) :
    DN X W (.ListComp elt [⟨tg, .Call (.Name "range" p) [a] [] pos', ifs, 0⟩] scope pos) (M.lcR rg1 ga t tt g) :=
  PE.imp (pe_lc (tt := tDT (cc X W0) tt) (te := tD (cc X W0) g) hc hN (pi_range1 hgl hm ha hs1) ok hg ht he hs) fun σ H Q ⟨z, H0, ρ, r, q⟩ => by
    rw [hown]
    refine ⟨z, H0, ρ, r, (Run.bnd q).mono fun as H1 G1 ρ1 r1 s1 q1 vs hv => ?_⟩
    dsimp only at q1
    generalize erg : rg1 as = org at q1
    cases org with
    | none => exact q1.elim
    | some ds =>
      have e := erg
      unfold rg1 at e
      split at e
      · split at e
        · rename_i n hn
          have hn := inR_le hn
          cases e
          cases hv with
          | cons h1 h2 =>
            cases h1; cases h2
            exact ⟨n, rfl, by omega, by omega, fun D hD => lcR_word r1 q1 D hD⟩
        · cases e
      · cases e
theorem dn_lcR2 (hc : X.calm = true) (hN : X.N.Nodup) (hgl : Gl X "range") (hm : X.mg "range" = none) (ha : DA X W [a, b] ga) (ok : BlkOk X.N X.env.scope scope own) (hown : own.map (·.2) = t.slots)
    (hg : ∀ (s : Shared) (H : Hp) (C : Addr) (cl : List (Str × Addr)) (fp : List Addr), PG (X.blk s H scope (compEnvC scope cl C X.env) fp) tg (gT X.K t)) (ht : ∀ (s : Shared) (H : Hp) (C : Addr) (cl : List (Str × Addr)) (fp : List Addr), DTs (X.blk s H scope (compEnvC scope cl C X.env) fp) W0 ifs tt)
    (he : ∀ (s : Shared) (H : Hp) (C : Addr) (cl : List (Str × Addr)) (fp : List Addr), DE (X.blk s H scope (compEnvC scope cl C X.env) fp) W0 elt g) (hs1 : starEach [a, b] X.env = [(false, eval a X.env), (false, eval b X.env)] := by rfl) (hs2 : starEach [b] X.env = [(false, eval b X.env)] := by rfl)
    (hs : ∀ x, foldedSetIterable (.Call (.Name "range" p) [a, b] [] pos') X.env x = pure x := by intro _; rfl) :
    DN X W (.ListComp elt [⟨tg, .Call (.Name "range" p) [a, b] [] pos', ifs, 0⟩] scope pos) (M.lcR rg2 ga t tt g) :=
  PE.imp (pe_lc (tt := tDT (cc X W0) tt) (te := tD (cc X W0) g) hc hN (pi_range2 hgl hm ha hs1 hs2) ok hg ht he hs) fun σ H Q ⟨z, H0, ρ, r, q⟩ => by
    rw [hown]
    refine ⟨z, H0, ρ, r, (Run.bnd q).mono fun as H1 G1 ρ1 r1 s1 q1 vs hv => ?_⟩
    dsimp only at q1
    generalize erg : rg2 as = org at q1
    cases org with
    | none => exact q1.elim
    | some ds =>
      have e := erg
      unfold rg2 at e
      split at e
      · split at e
        · rename_i m n hn
          have hn1 := inR_le hn.1
          have hn2 := inR_le hn.2
          cases e
          cases hv with
          | cons h1 h2 =>
            cases h1
            cases h2 with
            | cons h3 h4 =>
              cases h3; cases h4
              exact ⟨m, n, rfl, ⟨by omega, by omega, by omega, by omega⟩, fun D hD => lcR_word r1 q1 D hD⟩
        · cases e
      · cases e
/-! ## a list of one's own, in place -/
def listAt (ρ : En) (i : Nat) : Option (List Dat) := match ρ[i]? with
  | some (.own ds) => some ds
  | some (.ino ds) => some ds
  | some (.val (.lst ds)) => some ds
  | some (.val (.scr ds)) => some ds
  | some (.val (.tup ds)) => some ds
  | _ => none
def mutAt (ρ : En) (i : Nat) : Option (List Dat) := match ρ[i]? with
  | some (.own ds) => some ds
  | some (.ino ds) => some ds
  | _ => none
def putAt (ρ : En) (i : Nat) (ds : List Dat) : En := match ρ[i]? with
  | some (.own _) => ρ.set i (.own ds)
  | some (.ino _) => ρ.set i (.ino ds)
  | _ => ρ
theorem mutAt_at {K : PySem.W.Frag} {x : Fx} {σ : L2.St} {H H0 : Hp} {ρ : En} {i : Nat} {ds : List Dat} (r : Rel K x σ H H0 ρ) (h : mutAt ρ i = some ds) : mutS ρ i ∧ ∃ a, σ[i]? = some (some (.ref a)) ∧ H0 a = none ∧ LstAt K H H0 a ds := by
  unfold mutAt at h
  split at h
  · rename_i es e
    cases h
    obtain ⟨a, h1, _, h3, h4⟩ := r.own i _ e
    exact ⟨.inl ⟨_, e⟩, a, h1, h3, h4⟩
  · rename_i es e
    cases h
    obtain ⟨a, _, h1, h3, h4⟩ := r.ino i _ e
    exact ⟨.inr ⟨_, e⟩, a, h1, h3, h4⟩
  · cases h
theorem listAt_at {K : PySem.W.Frag} {x : Fx} {σ : L2.St} {H H0 : Hp} {ρ : En} {i : Nat} {ds : List Dat} (r : Rel K x σ H H0 ρ) (h : listAt ρ i = some ds) : ∃ a vs, σ[i]? = some (some (.ref a)) ∧ (SqL K H a vs ∨ SqT K H a vs) ∧ RepA K H0 vs ds := by
  unfold listAt at h
  split at h
  · rename_i es e
    cases h
    obtain ⟨a, h1, _, h3, vs, h4, h5⟩ := r.own i _ e
    exact ⟨a, vs, h1, .inl (SqL.of h4), h5⟩
  · rename_i es e
    cases h
    obtain ⟨a, _, h1, h3, vs, h4, h5⟩ := r.ino i _ e
    exact ⟨a, vs, h1, .inl (SqL.of h4), h5⟩
  · rename_i es e
    cases h
    obtain ⟨v, h1, h2⟩ := r.val i _ e
    cases h2 with
    | lst q1 q2 => exact ⟨_, _, h1, .inl (.inl (sameRd r.sub q1)), q2⟩
  · rename_i es e
    cases h
    obtain ⟨v, h1, h2⟩ := r.val i _ e
    cases h2 with
    | scr q1 q2 => exact ⟨_, _, h1, .inl (sameL r.sub q1), q2⟩
  · rename_i es e
    cases h
    obtain ⟨v, h1, h2⟩ := r.val i _ e
    cases h2 with
    | tup q1 q2 => exact ⟨_, _, h1, .inr (sameT r.sub q1.sq), q2⟩
  · cases h
/-- behind a change of the list at a alone -/
structure GrowB (a : Addr) (H H' H0 H0' : Hp) : Prop where
  k : ∀ b o, b ≠ a → H b = some o → H' b = some o
  s : Same H0 H0'
  s' : Same H0' H'
  fr : ∀ b o, H b = some o → H0 b = none → H0' b = none
theorem Rel.inout {K : PySem.W.Frag} {x : Fx} {σ : L2.St} {H H0 H' H0' : Hp} {ρ : En} {i : Nat} {a : Addr} {ds es : List Dat} (r : Rel K x σ H H0 ρ) (h : mutAt ρ i = some ds) (ha : σ[i]? = some (some (.ref a))) (g : GrowB a H H' H0 H0') (l : LstAt K H' H0' a es) :
    Rel K x σ H' H0' (putAt ρ i es) := by
  have hm := (mutAt_at r h).1
  have he : x.He a = none ∨ x.io i = some a := by
    rcases hm with ⟨ds, e⟩ | ⟨ds, e⟩
    · obtain ⟨b, h1, h2, _⟩ := r.own i ds e; rw [ha] at h1; cases h1; exact .inl h2
    · obtain ⟨b, h0, h1, _⟩ := r.ino i ds e; rw [ha] at h1; cases h1; exact .inr h0
  have ne : ∀ j b, j ≠ i → mutS ρ j → σ[j]? = some (some (.ref b)) → b ≠ a := fun j b n m q z => r.apart j i b n m hm q (by rw [z]; exact ha)
  have big : ∀ b o, x.He b = some o → ∃ u, H b = some u := fun b o hb => by
    by_cases hi : ∀ i, x.io i ≠ some b
    · exact ⟨o, r.ent b o hb hi⟩
    · obtain ⟨i, hi⟩ := Classical.not_forall.mp hi
      have hi : x.io i = some b := Classical.not_not.mp hi
      obtain ⟨ds, e⟩ := r.iow i b hi
      obtain ⟨b', q1, q2, q3, vs, q4, q5⟩ := r.ino i ds e
      rw [hi] at q1; cases q1
      exact ⟨_, q4⟩
  have ms : ∀ j, mutS (putAt ρ i es) j → mutS ρ j := fun j m => by
    by_cases hj : j = i
    · rw [hj]; exact hm
    · have e : (putAt ρ i es)[j]? = ρ[j]? := by
        unfold putAt; split
        · rw [List.getElem?_set_ne (Ne.symm hj)]
        · rw [List.getElem?_set_ne (Ne.symm hj)]
        · rfl
      unfold mutS at m ⊢; rw [e] at m; exact m
  have oth : ∀ j, j ≠ i → (putAt ρ i es)[j]? = ρ[j]? := fun j hj => by
    unfold putAt; split
    · rw [List.getElem?_set_ne (Ne.symm hj)]
    · rw [List.getElem?_set_ne (Ne.symm hj)]
    · rfl
  have len : (putAt ρ i es).length = ρ.length := by unfold putAt; split <;> simp
  have self : ∀ y, (putAt ρ i es)[i]? = some y → (∃ d, ρ[i]? = some (.own d) ∧ y = .own es) ∨ (∃ d, ρ[i]? = some (.ino d) ∧ y = .ino es) := fun y q => by
    unfold putAt at q; split at q
    · rename_i d e
      rcases get_set q with ⟨_, z, _⟩ | ⟨n, _⟩
      · exact .inl ⟨d, e, z⟩
      · exact absurd rfl n
    · rename_i d e
      rcases get_set q with ⟨_, z, _⟩ | ⟨n, _⟩
      · exact .inr ⟨d, e, z⟩
      · exact absurd rfl n
    · rename_i n1 n2
      rcases hm with ⟨d, e⟩ | ⟨d, e⟩
      · exact absurd e (n1 d)
      · exact absurd e (n2 d)
  refine ⟨g.s', fun b o h1 h2 => ?_, len.trans r.len, fun j d q => ?_, fun j d q => ?_, fun j d q => ?_, fun j b q => ?_, fun j k b n m1 m2 => r.apart j k b n (ms j m1) (ms k m2), fun b o h1 h2 => ?_, fun b o q => ?_⟩
  · refine g.k b o (fun z => ?_) (r.ent b o h1 h2)
    subst z
    rcases he with he | he
    · rw [h1] at he; cases he
    · exact h2 i he
  · by_cases hj : j = i
    · subst hj
      rcases self _ q with ⟨_, _, z⟩ | ⟨_, _, z⟩ <;> cases z
    · rw [oth j hj] at q
      obtain ⟨v, q1, q2⟩ := r.val j d q
      exact ⟨v, q1, q2.mono g.s⟩
  · by_cases hj : j = i
    · subst hj
      rcases self _ q with ⟨d0, e0, z⟩ | ⟨_, _, z⟩
      · cases z
        obtain ⟨b, h1, h2, h3, vs, h4, h5⟩ := r.own j d0 e0
        rw [ha] at h1; cases h1
        exact ⟨a, ha, h2, g.fr a _ h4 h3, l⟩
      · cases z
    · rw [oth j hj] at q
      obtain ⟨b, h1, h2, h3, vs, h4, h5⟩ := r.own j d q
      exact ⟨b, h1, h2, g.fr b _ h4 h3, vs, g.k b _ (ne j b hj (.inl ⟨d, q⟩) h1) h4, h5.mono g.s⟩
  · by_cases hj : j = i
    · subst hj
      rcases self _ q with ⟨_, _, z⟩ | ⟨d0, e0, z⟩
      · cases z
      · cases z
        obtain ⟨b, h0, h1, h3, vs, h4, h5⟩ := r.ino j d0 e0
        rw [ha] at h1; cases h1
        exact ⟨a, h0, ha, g.fr a _ h4 h3, l⟩
    · rw [oth j hj] at q
      obtain ⟨b, h0, h1, h3, vs, h4, h5⟩ := r.ino j d q
      exact ⟨b, h0, h1, g.fr b _ h4 h3, vs, g.k b _ (ne j b hj (.inr ⟨d, q⟩) h1) h4, h5.mono g.s⟩
  · obtain ⟨d, e⟩ := r.iow j b q
    by_cases hj : j = i
    · subst hj
      refine ⟨es, ?_⟩
      unfold putAt
      rw [e]
      exact List.getElem?_set_self (List.getElem?_eq_some_iff.mp e).1
    · exact ⟨d, by rw [oth j hj]; exact e⟩
  · obtain ⟨u, hu⟩ := big b o h1
    exact g.fr b u hu (r.old b o h1 h2)
  · obtain ⟨q1, q2, q3, q4⟩ := r.rsv b o q
    have nb : b ≠ a := fun z => q4 i hm (by rw [z]; exact ha)
    exact ⟨g.k b o nb q1, g.fr b o q1 q2, q3, fun j m => q4 j (ms j m)⟩
/-- the list at a is written -/
theorem GrowB.upd {H H0 : Hp} {a : Addr} {o : HO} (s : Same H0 H) (h : H0 a = none) : GrowB a H (upd H a o) H0 H0 :=
  ⟨fun b u n e => by rw [upd_ne n]; exact e, Same.refl _, fun b u e => by rw [upd_ne (ne_of_none e h)]; exact s _ _ e, fun _ _ _ z => z⟩
def hasS (ρ : En) (i : Nat) : Bool := match ρ[i]? with
  | some (.own _) => true
  | some (.ino _) => true
  | some (.val _) => true
  | _ => false
theorem hasS_at {K : PySem.W.Frag} {x : Fx} {σ : L2.St} {H H0 : Hp} {ρ : En} {i : Nat} (r : Rel K x σ H H0 ρ) (h : hasS ρ i = true) : ∃ v, σ[i]? = some (some v) := by
  unfold hasS at h
  split at h
  · rename_i e; obtain ⟨a, h1, _⟩ := r.own i _ e; exact ⟨_, h1⟩
  · rename_i e; obtain ⟨a, _, h1, _⟩ := r.ino i _ e; exact ⟨_, h1⟩
  · rename_i e; obtain ⟨v, h1, _⟩ := r.val i _ e; exact ⟨_, h1⟩
  · cases h
/-- xs[i], xs a name -/
def ixVar (i : Nat) (g : M Dat) : M Dat := fun ρ => if hasS ρ i = true then (g.bnd fun d => fun ρ' => match listAt ρ' i, d with
  | some ds, .int k => (M.lift (atI ds k)) ρ'
  | _, _ => .stuck) ρ else .stuck
theorem ixN_len {n : Nat} {i : Int} {j : Nat} (h : ixN n i = some j) : j < n := (ixN_seq h).2.1
theorem atI_rep {K : PySem.W.Frag} {H0 : Hp} {vs : List V} {ds : List Dat} {k : Int} {d : Dat} (h : RepA K H0 vs ds) (e : atI ds k = some d) : ∃ v, atI vs k = some v ∧ Rep K H0 v d := by
  unfold atI at e ⊢
  rw [h.length]
  cases q : ixN ds.length k with
  | none => rw [q] at e; cases e
  | some j =>
    rw [q] at e
    exact h.get e
theorem de_ixVar (i : Nat) {x : Str} (hb : DE X W b g) (hp : PlainIx b := by exact fun _ _ => rfl) (hN : X.N[i]? = some x := by rfl) (hv : Vis X.env.scope x := by first | exact Or.inl rfl | exact Or.inr (Or.inl rfl) | exact Or.inr (Or.inr rfl)) (hd : (x == ("__debug__" : Str)) = false := by decide)
    (hcd : (x == ("__classdict__" : Str)) = false := by decide) : DE X W (.Subscript (.Name x p) b pos) (ixVar i g) :=
  PE.imp (pe_ix ix_seq (pe_var hN hv hd hcd) hb hp) fun σ H Q ⟨z, H0, ρ, r, q⟩ => by
    unfold ixVar at q
    split at q
    · rename_i hs
      obtain ⟨v, hv⟩ := hasS_at r hs
      refine ⟨v, hv, part r q fun d y H1 G1 ρ1 r1 s1 hy q1 => ?_⟩
      split at q1
      · rename_i ds k e
        obtain ⟨d, e2, q2⟩ := Run.lift q1
        obtain ⟨a, vs, h1, h2, h3⟩ := listAt_at r1 e
        rw [hv] at h1
        cases h1
        cases hy
        obtain ⟨w, e3, h4⟩ := atI_rep h3 e2
        have q3 := q2 H1 G1 r1 (Same.refl _) w h4
        rcases h2 with h2 | h2
        · exact .inl ⟨a, vs, k, w, rfl, rfl, h2, e3, q3⟩
        · exact .inr (.inl ⟨a, vs, k, w, rfl, rfl, h2, e3, q3⟩)
      · exact q1.elim
    · exact q.elim
/-- len(xs), xs a name -/
def lenVar (i : Nat) : M Dat := fun ρ => match listAt ρ i with
  | some ds => .ok (.int ds.length) ρ
  | none => .stuck
theorem de_lenVar (i : Nat) {x : Str} {p2 : Pos} (hgl : Gl X "len") (hm : X.mg "len" = none) (hN : X.N[i]? = some x := by rfl) (hv : Vis X.env.scope x := by first | exact Or.inl rfl | exact Or.inr (Or.inl rfl) | exact Or.inr (Or.inr rfl)) (hd : (x == ("__debug__" : Str)) = false := by decide)
    (hcd : (x == ("__classdict__" : Str)) = false := by decide) : DE X W (.Call (.Name "len" p) [.Name x p2] [] pos) (lenVar i) :=
  PE.imp (pe_callB call_len_seq hgl hm PySem.boot_len (pa_cons (pe_var hN hv hd hcd) pa_nil)) fun σ H Q ⟨z, H0, ρ, r, q⟩ => by
    unfold lenVar at q
    split at q
    · rename_i ds e
      obtain ⟨a, vs, h1, h2, h3⟩ := listAt_at r e
      refine ⟨_, h1, a, vs, rfl, h2, ?_⟩
      rw [h3.length]
      exact q H H0 r (Same.refl _) _ (.int _)
    · exact q.elim
/-- xs.append(e) -/
def appO (i : Nat) (f : M Dat) : En → O := fun ρ => if hasS ρ i = true then (f ρ).toO fun d ρ' => match mutAt ρ' i with
  | some ds => if ds.length < 1000000 then .nxt (putAt ρ' i (ds ++ [d])) else .stuck
  | none => .stuck else .stuck
/-- xs[k] = e -/
def subO (i : Nat) (g f : M Dat) : En → O := fun ρ => ((f.bnd fun d => fun ρ1 => if hasS ρ1 i = true then (g.bnd fun k => M.ret (d, k)) ρ1 else .stuck) ρ).toO fun dk ρ' => match mutAt ρ' i, dk.2 with
  | some ds, .int k => (match ixN ds.length k with
    | some j => .nxt (putAt ρ' i (ds.set j dk.1))
    | none => .stuck)
  | _, _ => .stuck
theorem ds_sub (i : Nat) {x : Str} {tpos : Pos} (hc : X.calm = true) (he : DE X W e f) (hb : DE X W b g) (hN : X.N[i]? = some x := by rfl) (hv : Vis X.env.scope x := by first | exact Or.inl rfl | exact Or.inr (Or.inl rfl) | exact Or.inr (Or.inr rfl)) (hd : (x == ("__debug__" : Str)) = false := by decide)
    (hcd : (x == ("__classdict__" : Str)) = false := by decide) (hs : swapsWithSole [.Subscript (.Name x p) b tpos] e pos.line X.env = pure false := by rfl) (hw : swappedStores [.Subscript (.Name x p) b tpos] e X.env = pure none := by rfl) (hg : ∀ (t : TSet), PSet X t → PG X (.Subscript (.Name x p) b tpos) (gSub (tVar i) (tD (cc X W) g) t)) :
    DS X W (.Assign [.Subscript (.Name x p) b tpos] e pos) (subO i g f) :=
  PS.imp (ps_asg he (hg _ set_list) hs hw) fun D σ H ⟨z, H0, ρ, r, q⟩ => by
    have q := RunS.part (σ := σ) q
    refine part r q fun d v H1 G1 ρ1 r1 s1 hv q1 => ?_
    split at q1
    · rename_i hs
      obtain ⟨w, hw⟩ := hasS_at r1 hs
      refine ⟨w, hw, part r1 q1 fun k y H2 G2 ρ2 r2 s2 hy q2 => ?_⟩
      have q3 := q2 H2 G2 r2 (Same.refl _)
      dsimp only at q3
      split at q3
      · rename_i ds k e
        split at q3
        · rename_i j ej
          obtain ⟨_, a, h1, h2, vs, h4, h5⟩ := mutAt_at r2 e
          rw [hw] at h1
          cases h1
          cases hy
          refine ⟨a, vs, k, j, rfl, rfl, h4, by rw [h5.length]; exact ej, ?_⟩
          exact q3 σ _ G2 (r2.inout e hw (GrowB.upd r2.sub h2) ⟨_, upd_same, h5.set j (hv.mono s2)⟩) (Same.refl _)
        · exact q3.elim
      · exact q3.elim
    · exact q1.elim
end
end Sv

set_option Elab.async false
set_option linter.all false
set_option maxRecDepth 100000
namespace Sv
open PySem L2 PySem.Spec PyProof.Rows
/-! ## room, and nothing that is being shown already -/
structure RoomG (k : Nat) (A : Around) : Prop where
  r : Room k A
  g : A.guards = some []
theorem RoomG.mono {j k : Nat} {A : Around} (r : RoomG k A) (h : j ≤ k) : RoomG j A := ⟨r.1.mono h, r.2⟩
theorem RoomG.units {k : Nat} {A : Around} (r : RoomG k A) : A.units + 64 < cLine := r.1.units
theorem RoomG.deeper {k : Nat} {A : Around} (r : RoomG (k + 1) A) (env : Env) : RoomG k (A.deeper env) := ⟨r.1.deeper env, r.2⟩
structure FnG (P : Program) (w : World) (K : PySem.W.Frag) (mg : Str → Option Value) (base : Heap) (c : CXT) (k : Nat) (f : Addr) (fd : FuncData) (ps : List Str) (sp : L2.Sp) : Prop where
  len : ∀ vs H Q E, sp vs H Q E → vs.length = ps.length
  run : ∀ (A : Around) (out : List Env) (s : Shared) (H : Hp) (ar : Args) (us : List Value) (vs : List V) (Q : VK) (E : XK), RoomG k A → Env0 P w K mg base A out s H → BindsTo s fd ar (ps.zip us) → Vals vs us → sp vs H Q E → codeAny (model P w) A (.call (.ref f) ar) (CR c out P w H s Q E) s
section
variable {P : Program} {w : World} {K : PySem.W.Frag} {mg : Str → Option Value} {base : Heap} {c : CXT} {k : Nat} {f : Addr} {fd : FuncData} {ps N : List Str} {sp sp' : L2.Sp}
theorem FnG.imp (F : FnG P w K mg base c k f fd ps sp) (h : ∀ vs H Q E, sp' vs H Q E → sp vs H Q E) : FnG P w K mg base c k f fd ps sp' :=
  ⟨fun vs H Q E q => F.len vs H Q E (h vs H Q E q), fun A out s H ar us vs Q E hr he hb hv hs => F.run A out s H ar us vs Q E hr he hb hv (h vs H Q E hs)⟩
/-- a def by its body -/
theorem Fun.okG {x qual : Str} {st : Stmt} (F : Fun K x qual st f fd) (S : FnScope N ps (defScope st)) (len : ∀ vs H Q E, sp vs H Q E → vs.length = ps.length)
    (hB : ∀ (cdv : Value) (A : Around) (out : List Env) (s : Shared) (H : Hp) (vs : List V) (Q : VK) (E : XK), RoomG k (A.deeper (envOfC qual (defScope st) s.heap.objs.size f cdv)) → sp vs H Q E → ∃ t, PSs (cxOf (L2.CX P w) P w K mg base N qual (defScope st) f cdv A out s H E) (defBody st) t ∧ t { nx := fun _ H' => Q .non H', rt := Q } (L2.start N vs) H) :
    FnG P w K mg base (L2.CX P w) (k + 1) f fd ps sp := by
  obtain ⟨oc, od, kV, doc, pm, an, cdv, ct, osl, rfl, lk, hcd⟩ := F.ex
  refine ⟨len, fun A out s H ar us vs Q E hr e0 hb rv hsp => ?_⟩
  have ln := len vs H Q E hsp
  have kin : K.In s.heap := e0.mod.kin.keeps fun b o q => (e0.bs b o q).1
  have nl : s.heap.NoLimit := e0.mod.nolimit.keeps fun b o q => (e0.bs b o q).1
  have pk : ∀ y ∈ ps.zip us, (defScope st).names.lookup y.1 = some .local ∨ ((defScope st).names.lookup y.1 = some .cell ∧ ((cellsFrom (s.heap.objs.size + 1) (defScope st).names []).lookup y.1).isSome = true) := fun y hy => by
    rcases S.par y.1 (List.of_mem_zip (a := y.1) (b := y.2) hy).1 with z | z
    · exact Or.inl z
    · exact Or.inr ⟨z, PySem.W.cellsFrom_some _ _ _ (.inl z)⟩
  refine codeAny_call_function hr.1.depth (kin _ _ lk) rfl S.co S.gen rfl (PySem.W.codeRec_of kin hcd) (hb _ _ _ _ (wpAny_newFunctionEnv_cells S.kind pk fun env he s1 xn => ?_))
  subst he
  refine ⟨nl.keeps xn.toInCall.keep, codeAny_func ?_⟩
  obtain ⟨t, ht, hq⟩ := hB cdv A out s H vs Q E (hr.deeper _) hsp
  have I0 : Inv (cxOf (L2.CX P w) P w K mg base N qual (defScope st) f cdv A out s H E) [] (L2.start N vs) H s1 := inv_start S hr.1.hd e0 ln rv xn
  refine wpAny_mono (ht.run [] s1 (L2.start N vs) H _ I0 hq) (fun fl s' hs => ?_) fun _ _ z => z
  have done : ∀ {τ : L2.St} {H' : Hp} {v : V} {u : Value}, Inv (cxOf (L2.CX P w) P w K mg base N qual (defScope st) f cdv A out s H E) [] τ H' s' → RelV v u → Q v H' → CE out P w H s Q u s' := fun {τ H' v u} J ru q => ⟨v, H', J.os, J.bare, J.base, J.hok, ru, q⟩
  cases fl with
  | next => obtain ⟨τ, H', J, q⟩ := hs; exact done (v := .non) (u := .none) J rfl q
  | ret u => obtain ⟨v, τ, H', J, ru, q⟩ := hs; exact done J ru q
  | brk => obtain ⟨_, _, _, q⟩ := hs; exact q.elim
  | cont => obtain ⟨_, _, _, q⟩ := hs; exact q.elim
end
section
variable {X : Cx} {c : CXT} {k : Nat} {f : Addr} {fd : FuncData} {ps : List Str} {sp : L2.Sp} {dvs : List V} {ds : List Value} {E : L2.St → XK} {x : Str} {p pos : Pos} {e : Expr} {es : List Expr} {t : TA}
theorem runG {pins : List (Addr × Obj)} {σ : L2.St} {H : Hp} {s : Shared} {Q : VK} {us ws : List Value} {vs : List V} {kw : List (Str × Value)} (F : FnG X.prog X.w X.K X.mg X.base c k f fd ps sp) (hr : RoomG k X.A) (hb : BindsTo s fd ⟨us, kw⟩ (ps.zip ws)) (hx : PassesAt c X σ (E σ))
    (I : Inv X pins σ H s) (rv : Vals vs ws) (h : sp vs H Q (E σ)) : codeAny (model X.prog X.w) X.A (.call (.ref f) ⟨us, kw⟩) (callEnd (EP X pins σ Q) X.xe) s := by
  refine codeAny_mono (F.run X.A X.stack s H ⟨us, kw⟩ ws vs Q (E σ) hr I.env0 hb rv h) fun r s' hq => ?_
  match r, hq with
  | .error e, hq => exact hx pins H s e s' I hq
  | .ok (.ret u), hq => exact I.after hq
  | .ok .next, hq => exact False.elim hq
  | .ok .brk, hq => exact False.elim hq
  | .ok .cont, hq => exact False.elim hq
theorem pe_callG (F : FnG X.prog X.w X.K X.mg X.base c k f fd ps sp) (hr : RoomG k X.A) (hg : Gl X x) (hm : X.mg x = some (.ref f)) (hk : PySem.W.keepIn X.K (.ref f) = true) (hb : Binds X.K fd ps ds) (hd : Vals dvs ds) (hx : ∀ σ, PassesAt c X σ (E σ))
    (ha : PA X (e :: es) t) (hdb : (x == ("__debug__" : Str)) = false := by decide) (he : starEach (e :: es) X.env = (false, eval e X.env) :: starEach es X.env := by rfl) (hpl : (backTo pos (starEach es X.env)).any (·.1) = false := by rfl) : PE X (.Call (.Name x p) (e :: es) [] pos) (tCallSD sp dvs E t) := by
  refine ⟨fun pins s σ H Q I h => wpAny_Call_Name_kw (ld_glob I hg hm (PySem.W.callWith_K (h₀ := X.base) I.ok.mod.kin hk (thn (ha.run pos pins s σ H _ I h) fun us s1 ⟨vs, H1, I1, r1, q⟩ => ⟨I1.kIn, ?_⟩) he hpl) hdb)⟩
  have r2 := r1.append hd
  exact wpAny_call (runG F hr (hb s1 us I1.kIn (by rw [← r2.length]; exact F.len _ _ _ _ q)) (hx σ) I1 r2 q)
theorem pe_callG0 (F : FnG X.prog X.w X.K X.mg X.base c k f fd ps sp) (hr : RoomG k X.A) (hg : Gl X x) (hm : X.mg x = some (.ref f)) (hk : PySem.W.keepIn X.K (.ref f) = true) (hb : Binds X.K fd ps []) (hx : ∀ σ, PassesAt c X σ (E σ))
    (ha : PA X (e :: es) t) (hdb : (x == ("__debug__" : Str)) = false := by decide) (he : starEach (e :: es) X.env = (false, eval e X.env) :: starEach es X.env := by rfl) (hpl : (backTo pos (starEach es X.env)).any (·.1) = false := by rfl) : PE X (.Call (.Name x p) (e :: es) [] pos) (tCallS sp E t) :=
  ⟨fun pins s σ H Q I h => (pe_callG F hr hg hm hk hb .nil hx ha hdb he hpl).run pins s σ H Q I (by
    show t σ H fun vs H1 => sp (vs ++ []) H1 Q (E σ)
    simp only [List.append_nil]
    exact h)⟩
end
end Sv

set_option Elab.async false
set_option linter.all false
set_option maxRecDepth 100000
namespace Sv
open PySem L2
/-! ## defs and calls -/
abbrev c0 (K : PySem.W.Frag) (mg : Str → Option Value) : Cc := ⟨K, mg, W0⟩
theorem XAt.cast {c c' : Cc} {H H0 : Hp} {cn : Str} {fs : List (Str × Dat)} {cls : Value} {d : Option Addr} (h : XAt c H H0 cn fs cls d) (hK : c.K = c'.K) (hm : c.mg = c'.mg) : XAt c' H H0 cn fs cls d := by
  obtain ⟨C, h1, h2, h3⟩ := h
  exact ⟨C, hm ▸ h1, h2, hK ▸ h3⟩
/-- what a call of a def that changes none of its arguments gives -/
def OutP (K : PySem.W.Frag) (mg : Str → Option Value) (H H0 : Hp) (o : O) (Q : VK) (E : XK) : Prop := match o with
  | .nxt _ => ∀ H' H0', Grow H H' H0 H0' → Q .non H'
  | .ret d _ => ∀ v H' H0', Grow H H' H0 H0' → Rep K H0' v d → Q v H'
  | .new ds _ => ∀ p H' H0', Grow H H' H0 H0' → H p = none → H0' p = none → LstAt K H' H0' p ds → Q (.ref p) H'
  | .err cn fs _ => ∀ cls d H' H0', Grow H H' H0 H0' → XAt (c0 K mg) H' H0' cn fs cls d → E cls d H'
  | _ => False
def spP (K : PySem.W.Frag) (mg : Str → Option Value) (n : Nat) (G : List Dat → O) : Sp := fun vs H Q E => ∃ H0 ds, Same H0 H ∧ RepA K H0 vs ds ∧ ds.length = n ∧ OutP K mg H H0 (G ds) Q E
/-- the slots at the entry -/
def startE (N : Nat) (ss : List Sl) : En := ss ++ List.replicate (N - ss.length) .un
/-- what a call gives that may change the list at a -/
def OutI (K : PySem.W.Frag) (mg : Str → Option Value) (a : Addr) (H H0 : Hp) (o : O) (Q : VK) (E : XK) : Prop := match o with
  | .nxt ρ => ∃ ys, ρ[0]? = some (.ino ys) ∧ ∀ H' H0', GrowB a H H' H0 H0' → LstAt K H' H0' a ys → Q .non H'
  | .ret d ρ => ∃ ys, ρ[0]? = some (.ino ys) ∧ ∀ v H' H0', GrowB a H H' H0 H0' → LstAt K H' H0' a ys → Rep K H0' v d → Q v H'
  | .new ds ρ => ∃ ys, ρ[0]? = some (.ino ys) ∧ ∀ p H' H0', GrowB a H H' H0 H0' → LstAt K H' H0' a ys → H p = none → H0' p = none → LstAt K H' H0' p ds → Q (.ref p) H'
  | .err cn fs ρ => ∃ ys, ρ[0]? = some (.ino ys) ∧ ∀ cls d H' H0', GrowB a H H' H0 H0' → LstAt K H' H0' a ys → XAt (c0 K mg) H' H0' cn fs cls d → E cls d H'
  | _ => False
def spI (K : PySem.W.Frag) (mg : Str → Option Value) (n : Nat) (G : List Dat → List Dat → O) : Sp := fun vs H Q E => ∃ H0 a xs vs' ds, vs = .ref a :: vs' ∧ Same H0 H ∧ H0 a = none ∧ LstAt K H H0 a xs ∧ RepA K H0 vs' ds ∧ ds.length + 1 = n ∧ OutI K mg a H H0 (G xs ds) Q E
abbrev WE0 (E : XK) : WX := fun cls d _ H => E cls d H
section
variable {K : PySem.W.Frag} {mg : Str → Option Value} {H H0 H' H1 : Hp} {σ : L2.St} {ρ : En}
theorem start_get {N : List Str} {vs : List V} {i : Nat} {v : V} (h : vs[i]? = some v) : (L2.start N vs)[i]? = some (some v) := by
  unfold L2.start
  rw [List.getElem?_append_left (by rw [List.length_map]; exact (List.getElem?_eq_some_iff.mp h).1), List.getElem?_map, h]
  rfl
theorem start_len {N : List Str} {vs : List V} (h : vs.length ≤ N.length) : (L2.start N vs).length = N.length := by
  unfold L2.start; rw [List.length_append, List.length_map, List.length_replicate]; omega
theorem startE_len {N : Nat} {ss : List Sl} (h : ss.length ≤ N) : (startE N ss).length = N := by
  unfold startE; rw [List.length_append, List.length_replicate]; omega
theorem startE_get {N i : Nat} {ss : List Sl} {y : Sl} (h : (startE N ss)[i]? = some y) : ss[i]? = some y ∨ y = .un := by
  unfold startE at h
  by_cases hl : i < ss.length
  · rw [List.getElem?_append_left hl] at h; exact .inl h
  · rw [List.getElem?_append_right (by omega)] at h
    obtain ⟨_, e⟩ := List.getElem?_eq_some_iff.mp h
    rw [List.getElem_replicate] at e
    exact .inr e.symm
abbrev fxP (H H0 : Hp) : Fx := ⟨H, H0, fun _ => none, []⟩
abbrev fxI (H H0 : Hp) (a : Addr) : Fx := ⟨H, H0, fun i => if i = 0 then some a else none, []⟩
theorem rel_startP {N : List Str} {vs : List V} {ds : List Dat} (s : Same H0 H) (h : RepA K H0 vs ds) (hl : ds.length ≤ N.length) : Rel K (fxP H H0) (L2.start N vs) H H0 (startE N.length (ds.map .val)) where
  sub := s
  ent := fun b o e _ => e
  len := by rw [startE_len (by rw [List.length_map]; exact hl), start_len (by rw [h.length]; exact hl)]
  val := fun i d e => by
    rcases startE_get e with e | e
    · rw [List.getElem?_map] at e
      cases q : ds[i]? with
      | none => rw [q] at e; cases e
      | some d' =>
        rw [q] at e; cases e
        obtain ⟨v, h1, h2⟩ := h.get q
        exact ⟨v, start_get h1, h2⟩
    · cases e
  own := fun i es e => by
    rcases startE_get e with e | e
    · rw [List.getElem?_map] at e; cases q : ds[i]? <;> rw [q] at e <;> cases e
    · cases e
  ino := fun i es e => by
    rcases startE_get e with e | e
    · rw [List.getElem?_map] at e; cases q : ds[i]? <;> rw [q] at e <;> cases e
    · cases e
  iow := fun i a e => by cases e
  apart := fun i j a _ m _ => by
    exfalso
    rcases m with ⟨es, e⟩ | ⟨es, e⟩ <;> rcases startE_get e with e | e
    · rw [List.getElem?_map] at e; cases q : ds[i]? <;> rw [q] at e <;> cases e
    · cases e
    · rw [List.getElem?_map] at e; cases q : ds[i]? <;> rw [q] at e <;> cases e
    · cases e
  old := fun a o _ h => h
  rsv := fun a o e => by cases e
theorem rel_startI {N : List Str} {vs : List V} {a : Addr} {xs ds : List Dat} (s : Same H0 H) (h0 : H0 a = none) (l : LstAt K H H0 a xs) (h : RepA K H0 vs ds) (hl : ds.length + 1 ≤ N.length) : Rel K (fxI H H0 a) (L2.start N (.ref a :: vs)) H H0 (startE N.length (.ino xs :: ds.map .val)) where
  sub := s
  ent := fun b o e _ => e
  len := by rw [startE_len (by rw [List.length_cons, List.length_map]; exact hl), start_len (by rw [List.length_cons, h.length]; exact hl)]
  val := fun i d e => by
    rcases startE_get e with e | e
    · cases i with
      | zero => cases e
      | succ i =>
        rw [List.getElem?_cons_succ, List.getElem?_map] at e
        cases q : ds[i]? with
        | none => rw [q] at e; cases e
        | some d' =>
          rw [q] at e; cases e
          obtain ⟨v, h1, h2⟩ := h.get q
          exact ⟨v, start_get (by rw [List.getElem?_cons_succ]; exact h1), h2⟩
    · cases e
  own := fun i es e => by
    rcases startE_get e with e | e
    · cases i with
      | zero => cases e
      | succ i => rw [List.getElem?_cons_succ, List.getElem?_map] at e; cases q : ds[i]? <;> rw [q] at e <;> cases e
    · cases e
  ino := fun i es e => by
    rcases startE_get e with e | e
    · cases i with
      | zero => cases e; exact ⟨a, rfl, start_get rfl, h0, l⟩
      | succ i => rw [List.getElem?_cons_succ, List.getElem?_map] at e; cases q : ds[i]? <;> rw [q] at e <;> cases e
    · cases e
  iow := fun i b e => by
    have e : (if i = 0 then some a else none) = some b := e
    split at e
    · rename_i hi; subst hi; exact ⟨xs, rfl⟩
    · cases e
  apart := fun i j b n m1 m2 => by
    have key : ∀ i, mutS (startE N.length (.ino xs :: ds.map .val)) i → i = 0 := fun i m => by
      cases i with
      | zero => rfl
      | succ i =>
        exfalso
        rcases m with ⟨es, e⟩ | ⟨es, e⟩ <;> rcases startE_get e with e | e
        · rw [List.getElem?_cons_succ, List.getElem?_map] at e; cases q : ds[i]? <;> rw [q] at e <;> cases e
        · cases e
        · rw [List.getElem?_cons_succ, List.getElem?_map] at e; cases q : ds[i]? <;> rw [q] at e <;> cases e
        · cases e
    exact absurd ((key i m1).trans (key j m2).symm) n
  old := fun a o _ h => h
  rsv := fun a o e => by cases e
/-- from the body's end to what the caller wants -/
theorem Rel.growP (r : Rel K (fxP H H0) σ H' H1 ρ) (s : Same H0 H1) : Grow H H' H0 H1 := ⟨fun b o e => r.ent b o e (fun _ z => nomatch z), s, r.sub, fun a o h1 h2 => r.old a o h1 h2⟩
theorem Rel.growI {a : Addr} (r : Rel K (fxI H H0 a) σ H' H1 ρ) (s : Same H0 H1) : GrowB a H H' H0 H1 := ⟨fun b o n e => r.ent b o e fun i z => by
  have z : (if i = 0 then some a else none) = some b := z
  split at z
  · cases z; exact n rfl
  · exact absurd z (by simp), s, r.sub, fun a o h1 h2 => r.old a o h1 h2⟩
theorem Rel.inoI {a : Addr} {ys : List Dat} (r : Rel K (fxI H H0 a) σ H' H1 ρ) (e : ρ[0]? = some (.ino ys)) : LstAt K H' H1 a ys := by
  obtain ⟨b, h0, h1, h2, h3⟩ := r.ino 0 ys e
  have h0 : some a = some b := h0
  cases h0
  exact h3
theorem Rel.inoE {a : Addr} (r : Rel K (fxI H H0 a) σ H' H1 ρ) : ∃ ys, ρ[0]? = some (.ino ys) := r.iow 0 a rfl
end
section
variable {P : Program} {w : World} {K : PySem.W.Frag} {mg : Str → Option Value} {base : Heap}
/-- a def by its body -/
theorem fn_pure {x qual : Str} {st : Stmt} {f : Addr} {fd : FuncData} {N ps : List Str} {k : Nat} {body : En → O} (F : Fun K x qual st f fd) (S : FnScope N ps (defScope st))
    (hb : ∀ (cdv : Value) (A : Around) (outer : List Env) (s : Shared) (H : Hp) (E : XK), RoomG k (A.deeper (PyProof.Rows.envOfC qual (defScope st) s.heap.objs.size f cdv)) → DB (cxOf (L2.CX P w) P w K mg base N qual (defScope st) f cdv A outer s H E) (WE0 E) (defBody st) body) :
    FnG P w K mg base (L2.CX P w) (k + 1) f fd ps (spP K mg ps.length fun ds => body (startE N.length (ds.map .val))) := by
  have hpn : ps.length ≤ N.length := by
    have := S.pre
    have e := congrArg List.length this
    rw [List.length_take] at e
    omega
  refine Fun.okG F S (fun vs H Q E h => ?_) (fun cdv A outer s H vs Q E hr h => ⟨_, hb cdv A outer s H E hr, ?_⟩)
  · obtain ⟨H0, ds, _, h1, h2, _⟩ := h
    rw [h1.length, h2]
  · obtain ⟨H0, ds, s0, h1, h2, q⟩ := h
    refine ⟨fxP H H0, H0, _, rel_startP s0 h1 (by omega), ?_⟩
    have q : OutP K mg H H0 (body (startE N.length (ds.map .val))) Q E := q
    revert q
    generalize body (startE N.length (ds.map .val)) = o
    intro q
    cases o with
    | nxt ρ => exact fun σ H' H1 r s => q H' H1 (r.growP s)
    | ret d ρ => exact fun v σ H' H1 r s hv => q v H' H1 (r.growP s) hv
    | new es ρ => exact fun p σ H' H1 r s he h0 l => q p H' H1 (r.growP s) he h0 l
    | err cn fs ρ => exact fun cls d σ H' H1 r s x => q cls d H' H1 (r.growP s) (x.cast rfl rfl)
    | brk ρ => exact q.elim
    | ctn ρ => exact q.elim
    | stuck => exact q.elim
theorem fn_ino {x qual : Str} {st : Stmt} {f : Addr} {fd : FuncData} {N ps : List Str} {k : Nat} {body : En → O} (F : Fun K x qual st f fd) (S : FnScope N ps (defScope st))
    (hb : ∀ (cdv : Value) (A : Around) (outer : List Env) (s : Shared) (H : Hp) (E : XK), RoomG k (A.deeper (PyProof.Rows.envOfC qual (defScope st) s.heap.objs.size f cdv)) → DB (cxOf (L2.CX P w) P w K mg base N qual (defScope st) f cdv A outer s H E) (WE0 E) (defBody st) body) :
    FnG P w K mg base (L2.CX P w) (k + 1) f fd ps (spI K mg ps.length fun xs ds => body (startE N.length (.ino xs :: ds.map .val))) := by
  have hpn : ps.length ≤ N.length := by
    have := S.pre
    have e := congrArg List.length this
    rw [List.length_take] at e
    omega
  refine Fun.okG F S (fun vs H Q E h => ?_) (fun cdv A outer s H vs Q E hr h => ⟨_, hb cdv A outer s H E hr, ?_⟩)
  · obtain ⟨H0, a, xs, vs', ds, rfl, _, _, _, h1, h2, _⟩ := h
    rw [List.length_cons, h1.length, h2]
  · obtain ⟨H0, a, xs, vs', ds, rfl, s0, h0, l, h1, h2, q⟩ := h
    refine ⟨fxI H H0 a, H0, _, rel_startI s0 h0 l h1 (by omega), ?_⟩
    have q : OutI K mg a H H0 (body (startE N.length (.ino xs :: ds.map .val))) Q E := q
    revert q
    generalize body (startE N.length (.ino xs :: ds.map .val)) = o
    intro q
    cases o with
    | nxt ρ => exact fun σ H' H1 r s => by obtain ⟨ys, e, q⟩ := q; exact q H' H1 (r.growI s) (r.inoI e)
    | ret d ρ => exact fun v σ H' H1 r s hv => by obtain ⟨ys, e, q⟩ := q; exact q v H' H1 (r.growI s) (r.inoI e) hv
    | new es ρ => exact fun p σ H' H1 r s he h0 l => by obtain ⟨ys, e, q⟩ := q; exact q p H' H1 (r.growI s) (r.inoI e) he h0 l
    | err cn fs ρ => exact fun cls d σ H' H1 r s x => by obtain ⟨ys, e, q⟩ := q; exact q cls d H' H1 (r.growI s) (r.inoI e) (x.cast rfl rfl)
    | brk ρ => exact q.elim
    | ctn ρ => exact q.elim
    | stuck => exact q.elim
end
section
variable {X : Cx} {W : WX} {e a b : Expr} {f g : M Dat} {ga : M (List Dat)} {pos p : Pos} {x : Str} {es : List Expr} {k n : Nat} {fa : Addr} {fd : FuncData} {ps : List Str} {G : List Dat → O} {GI : List Dat → List Dat → O} {dvs : List V} {dds : List Dat} {ds : List Value}
def callR (o : O) (ρ : En) : R Dat := match o with
  | .nxt _ => .ok .non ρ
  | .ret d _ => .ok d ρ
  | .new es _ => .ok (.lst es) ρ
  | .err c fs _ => .err c fs ρ
  | _ => .stuck
def callN (o : O) (ρ : En) : R (List Dat) := match o with
  | .new es _ => .ok es ρ
  | .err c fs _ => .err c fs ρ
  | _ => .stuck
def M.call (ga : M (List Dat)) (dds : List Dat) (G : List Dat → O) : M Dat := ga.bnd fun ds ρ => callR (G (ds ++ dds)) ρ
def M.callN (ga : M (List Dat)) (dds : List Dat) (G : List Dat → O) : M (List Dat) := ga.bnd fun ds ρ => Sv.callN (G (ds ++ dds)) ρ
theorem new_at {K : PySem.W.Frag} {y : Fx} {σ : L2.St} {H H0 H' H0' : Hp} {ρ : En} {q : Addr} {ds : List Dat} (r : Rel K y σ H H0 ρ) (h : H q = none) (h0 : H0' q = none) (l : LstAt K H' H0' q ds) : NewAt K y σ H' H0' ρ q ds :=
  ⟨(r.fresh h).1, h0, r.notat h, r.nors h, l⟩
theorem out_callR {y : Fx} {σ : L2.St} {H H0 : Hp} {ρ : En} {o : O} {Q : VK} (r : Rel X.K y σ H H0 ρ) (h : Run (cc X W) y σ H0 (callR o ρ) fun d H' H1 _ => ∀ v, Rep X.K H1 v d → Q v H') : OutP X.K X.mg H H0 o Q (WE W σ) := by
  cases o with
  | nxt _ => exact fun H' H0' g => h H' H0' (g.rel r) g.s _ .non
  | ret d _ => exact fun v H' H0' g hv => h H' H0' (g.rel r) g.s v hv
  | new es _ =>
    intro p H' H0' g hp h0 l
    obtain ⟨G2, r2, s2, h2⟩ := (g.rel r).know (new_at r hp h0 l)
    exact h H' G2 r2 (g.s.trans s2) _ h2
  | err cn fs _ => exact fun cls d H' H0' g x => h cls d H' H0' (g.rel r) g.s (x.cast rfl rfl)
  | brk _ => exact h.elim
  | ctn _ => exact h.elim
  | stuck => exact h.elim
theorem out_callN {y : Fx} {σ : L2.St} {H H0 : Hp} {ρ : En} {o : O} {Q : VK} (r : Rel X.K y σ H H0 ρ) (h : Run (cc X W) y σ H0 (callN o ρ) fun ds H' H1 ρ' => ∀ p, NewAt X.K y σ H' H1 ρ' p ds → Q (.ref p) H') : OutP X.K X.mg H H0 o Q (WE W σ) := by
  cases o with
  | new es _ => exact fun p H' H0' g hp h0 l => h H' H0' (g.rel r) g.s p (new_at r hp h0 l)
  | err cn fs _ => exact fun cls d H' H0' g x => h cls d H' H0' (g.rel r) g.s (x.cast rfl rfl)
  | nxt _ => exact h.elim
  | ret _ _ => exact h.elim
  | brk _ => exact h.elim
  | ctn _ => exact h.elim
  | stuck => exact h.elim
/-- how a def is called: where it stands, what it keeps, how its arguments bind; the defaults' values stand in the written part -/
theorem de_call (tk : Takes X W) (F : FnG X.prog X.w X.K X.mg X.base (L2.CX X.prog X.w) k fa fd ps (spP X.K X.mg n G)) (hr : RoomG k X.A) (hg : Gl X x) (hm : X.mg x = some (.ref fa)) (hk : PySem.W.keepIn X.K (.ref fa) = true) (hb : Binds X.K fd ps []) 
    (hn : ∀ ρ ds ρ', ga ρ = .ok ds ρ' → ds.length = n)
    (ha : DA X W (e :: es) ga) (hdb : (x == ("__debug__" : Str)) = false := by decide) (he : starEach (e :: es) X.env = (false, eval e X.env) :: starEach es X.env := by rfl) (hpl : (backTo pos (starEach es X.env)).any (·.1) = false := by rfl) :
    DE X W (.Call (.Name x p) (e :: es) [] pos) (ga.call [] G) :=
  PE.imp (pe_callG0 F hr hg hm hk hb (fun σ => passAt tk σ) ha hdb he hpl) fun σ H Q ⟨z, H0, ρ, r, q⟩ => by
    refine ⟨z, H0, ρ, r, ?_⟩
    unfold M.call at q
    unfold M.bnd at q
    have hn := hn ρ
    cases eg : ga ρ with
    | ok ds ρ1 =>
      rw [eg] at q
      exact fun H1 G1 r1 s1 vs hv => ⟨G1, ds, r1.sub, hv, hn ds ρ1 eg, by have q2 := out_callR r1 (Run.up q s1); rw [List.append_nil] at q2; exact q2⟩
    | err cn fs ρ1 => rw [eg] at q; exact q
    | stuck => rw [eg] at q; exact q
theorem dn_call (tk : Takes X W) (F : FnG X.prog X.w X.K X.mg X.base (L2.CX X.prog X.w) k fa fd ps (spP X.K X.mg n G)) (hr : RoomG k X.A) (hg : Gl X x) (hm : X.mg x = some (.ref fa)) (hk : PySem.W.keepIn X.K (.ref fa) = true) (hb : Binds X.K fd ps []) 
    (hn : ∀ ρ ds ρ', ga ρ = .ok ds ρ' → ds.length = n)
    (ha : DA X W (e :: es) ga) (hdb : (x == ("__debug__" : Str)) = false := by decide) (he : starEach (e :: es) X.env = (false, eval e X.env) :: starEach es X.env := by rfl) (hpl : (backTo pos (starEach es X.env)).any (·.1) = false := by rfl) :
    DN X W (.Call (.Name x p) (e :: es) [] pos) (ga.callN [] G) :=
  PE.imp (pe_callG0 F hr hg hm hk hb (fun σ => passAt tk σ) ha hdb he hpl) fun σ H Q ⟨z, H0, ρ, r, q⟩ => by
    refine ⟨z, H0, ρ, r, ?_⟩
    unfold M.callN at q
    unfold M.bnd at q
    have hn := hn ρ
    cases eg : ga ρ with
    | ok ds ρ1 =>
      rw [eg] at q
      exact fun H1 G1 r1 s1 vs hv => ⟨G1, ds, r1.sub, hv, hn ds ρ1 eg, by have q2 := out_callN r1 (Run.up q s1); rw [List.append_nil] at q2; exact q2⟩
    | err cn fs ρ1 => rw [eg] at q; exact q
    | stuck => rw [eg] at q; exact q
/-- f(xs, ..), xs a list of one's own that f may change -/
def callI (i : Nat) (o : O) (ρ : En) : R Dat := match o with
  | .nxt ρc => (match (ρc[0]? : Option Sl) with | some (.ino ys) => .ok .non (putAt ρ i ys) | _ => .stuck)
  | .ret d ρc => (match (ρc[0]? : Option Sl) with | some (.ino ys) => .ok d (putAt ρ i ys) | _ => .stuck)
  | .new es ρc => (match (ρc[0]? : Option Sl) with | some (.ino ys) => .ok (.lst es) (putAt ρ i ys) | _ => .stuck)
  | .err c fs ρc => (match (ρc[0]? : Option Sl) with | some (.ino ys) => .err c fs (putAt ρ i ys) | _ => .stuck)
  | _ => .stuck
def M.callI (i : Nat) (ga : M (List Dat)) (G : List Dat → List Dat → O) : M Dat := fun ρ => if hasS ρ i = true then (ga.bnd fun ds ρ1 => match mutAt ρ1 i with
  | some xs => Sv.callI i (G xs ds) ρ1
  | none => .stuck) ρ else .stuck
theorem out_callI {y : Fx} {σ : L2.St} {H H0 : Hp} {ρ : En} {o : O} {Q : VK} {i : Nat} {ad : Addr} {xs : List Dat} (r : Rel X.K y σ H H0 ρ) (hm : mutAt ρ i = some xs) (ha : σ[i]? = some (some (.ref ad)))
    (h : Run (cc X W) y σ H0 (callI i o ρ) fun d H' H1 _ => ∀ v, Rep X.K H1 v d → Q v H') : OutI X.K X.mg ad H H0 o Q (WE W σ) := by
  cases o with
  | nxt ρc =>
    unfold callI at h; dsimp only at h
    split at h
    · rename_i ys e
      exact ⟨ys, e, fun H' H0' g l => h H' H0' (r.inout hm ha g l) g.s _ .non⟩
    · exact h.elim
  | ret d ρc =>
    unfold callI at h; dsimp only at h
    split at h
    · rename_i ys e
      exact ⟨ys, e, fun v H' H0' g l hv => h H' H0' (r.inout hm ha g l) g.s v hv⟩
    · exact h.elim
  | new es ρc =>
    unfold callI at h; dsimp only at h
    split at h
    · rename_i ys e
      refine ⟨ys, e, fun p H' H0' g l hp h0 lp => ?_⟩
      have r2 := r.inout hm ha g l
      have ms : ∀ j, mutS (putAt ρ i ys) j → mutS ρ j := fun j m => by
        by_cases hj : j = i
        · rw [hj]; exact (mutAt_at r hm).1
        · have e : (putAt ρ i ys)[j]? = ρ[j]? := by
            unfold putAt; split
            · rw [List.getElem?_set_ne (Ne.symm hj)]
            · rw [List.getElem?_set_ne (Ne.symm hj)]
            · rfl
          unfold mutS at m ⊢; rw [e] at m; exact m
      obtain ⟨G2, r3, s3, h3⟩ := r2.know (p := p) (ds := es) ⟨(r.fresh hp).1, h0, fun j m => r.notat hp j (ms j m), r.nors hp, lp⟩
      exact h H' G2 r3 (g.s.trans s3) _ h3
    · exact h.elim
  | err cn fs ρc =>
    unfold callI at h; dsimp only at h
    split at h
    · rename_i ys e
      exact ⟨ys, e, fun cls d H' H0' g l x => h cls d H' H0' (r.inout hm ha g l) g.s (x.cast rfl rfl)⟩
    · exact h.elim
  | brk _ => exact h.elim
  | ctn _ => exact h.elim
  | stuck => exact h.elim
theorem de_callI (i : Nat) {y : Str} {p2 : Pos} (tk : Takes X W) (F : FnG X.prog X.w X.K X.mg X.base (L2.CX X.prog X.w) k fa fd ps (spI X.K X.mg n GI)) (hr : RoomG k X.A) (hg : Gl X x) (hm : X.mg x = some (.ref fa)) (hk : PySem.W.keepIn X.K (.ref fa) = true) (hb : Binds X.K fd ps []) 
    (hn : ∀ ρ ds ρ', ga ρ = .ok ds ρ' → ds.length + 1 = n) (ha : DA X W es ga)
    (hN : X.N[i]? = some y := by rfl) (hv : Vis X.env.scope y := by first | exact Or.inl rfl | exact Or.inr (Or.inl rfl) | exact Or.inr (Or.inr rfl)) (hd : (y == ("__debug__" : Str)) = false := by decide)
    (hcd : (y == ("__classdict__" : Str)) = false := by decide) (hdb : (x == ("__debug__" : Str)) = false := by decide) (he : starEach (.Name y p2 :: es) X.env = (false, eval (.Name y p2) X.env) :: starEach es X.env := by rfl) (hpl : (backTo pos (starEach es X.env)).any (·.1) = false := by rfl) :
    DE X W (.Call (.Name x p) (.Name y p2 :: es) [] pos) (M.callI i ga GI) :=
  PE.imp (pe_callG0 F hr hg hm hk hb (fun σ => passAt tk σ) (pa_cons (pe_var hN hv hd hcd) ha he) hdb he hpl) fun σ H Q ⟨z, H0, ρ, r, q⟩ => by
    unfold M.callI at q
    split at q
    · rename_i hs
      obtain ⟨v, hv⟩ := hasS_at r hs
      refine ⟨v, hv, ?_⟩
      refine ⟨z, H0, ρ, r, ?_⟩
      unfold M.bnd at q
      have hn := hn ρ
      cases eg : ga ρ with
      | ok ds ρ1 =>
        rw [eg] at q
        intro H1 G1 r1 s1 vs hvs
        have q1 := Run.up q s1
        dsimp only at q1
        split at q1
        · rename_i xs e
          obtain ⟨_, a, h1, h2, l⟩ := mutAt_at r1 e
          rw [hv] at h1
          cases h1
          exact ⟨G1, a, xs, vs, ds, rfl, r1.sub, h2, l, hvs, hn ds ρ1 eg, out_callI r1 e hv q1⟩
        · exact q1.elim
      | err cn fs ρ1 => rw [eg] at q; exact q
      | stuck => rw [eg] at q; exact q
    · exact q.elim
theorem cons_len {n : Nat} (h : ∀ ρ ds ρ', ga ρ = .ok ds ρ' → ds.length = n) : ∀ ρ ds ρ', (f.cons ga) ρ = .ok ds ρ' → ds.length = n + 1 := by
  intro ρ ds ρ' e
  unfold M.cons M.bnd at e
  cases e1 : f ρ with
  | ok d ρ1 =>
    rw [e1] at e; dsimp only at e
    cases e2 : ga ρ1 with
    | ok es ρ2 =>
      rw [e2] at e; dsimp only at e
      cases e
      rw [List.length_cons, h _ _ _ e2]
    | err _ _ _ => rw [e2] at e; cases e
    | stuck => rw [e2] at e; cases e
  | err _ _ _ => rw [e1] at e; cases e
  | stuck => rw [e1] at e; cases e
theorem nil_len : ∀ ρ ds ρ', (M.ret ([] : List Dat)) ρ = .ok ds ρ' → ds.length = 0 := by
  intro ρ ds ρ' e; cases e; rfl
end
end Sv

set_option Elab.async false
set_option linter.all false
set_option maxRecDepth 100000
set_option maxHeartbeats 1000000
/-! ## xs[::-1] of a tuple -/
namespace HT
open PySem PySem.Spec PyProof.Rows
section
variable {prog : Program} {w : World} {A : Around} {E : Value → Shared → Prop} {s : Shared}
theorem sliceApplied_rev {sl : Addr} {vs : Value} {n : Nat} {Q : Int × Int × Nat → Shared → Prop} (hs : s.heap.IsSliceOf sl .none .none vs) (ps : IsPart vs (some (-1)))
    (h : Q ((n : Int) - 1, -1, n) s) : wpAny (model prog w) A (Builtin.Slice.sliceApplied (.ref sl) (pure (n : Int))) Q E s := by
  obtain ⟨os, hos, hcs, hds⟩ := id hs
  unfold Builtin.Slice.sliceApplied Builtin.Slice.sliceFields
  refine wpAny_bind (wpAny_bind (wpAny_field hos hds (x := .none) rfl (wpAny_bind (wpAny_field hos hds (x := .none) rfl (wpAny_bind (wpAny_field hos hds (x := vs) rfl (wpAny_pure ?_)))))))
  refine wpAny_bind (slicePart_ ps ?_)
  show wpAny _ _ (if ((-1 : Int) == 0) = true then _ else _) _ _ s
  rw [if_neg (by decide)]
  refine wpAny_bind (slicePart_none (wpAny_bind (slicePart_none (wpAny_bind (wpAny_pure ?_)))))
  show wpAny _ _ (match Builtin.Slice.sliceAdjust none none (-1) (n : Int) with | (lo, hi) => pure (lo, (-1 : Int), Builtin.Slice.slicePlaces lo hi (-1))) _ _ s
  have e1 : Builtin.Slice.sliceAdjust none none (-1) (n : Int) = ((n : Int) - 1, -1) := by
    unfold Builtin.Slice.sliceAdjust; simp
  have e2 : Builtin.Slice.slicePlaces ((n : Int) - 1) (-1) (-1) = n := by
    unfold Builtin.Slice.slicePlaces
    have h1 : ¬ ((-1 : Int) > 0) := by decide
    rw [if_neg h1]
    by_cases h : (n : Int) - 1 > -1
    · rw [if_pos h, show (- -1 : Int) = 1 by decide, Int.ediv_one]; omega
    · rw [if_neg h]; omega
  rw [e1]
  show wpAny _ _ (pure ((n : Int) - 1, (-1 : Int), Builtin.Slice.slicePlaces ((n : Int) - 1) (-1) (-1))) _ _ s
  rw [e2]
  exact wpAny_pure h
theorem fm_congr {f g : Nat → Option Value} : ∀ (l : List Nat), (∀ m ∈ l, f m = g m) → l.filterMap f = l.filterMap g
  | [], _ => rfl
  | m :: l, h => by rw [List.filterMap_cons, List.filterMap_cons, h m List.mem_cons_self, fm_congr l fun k hk => h k (List.mem_cons_of_mem _ hk)]
theorem pick_rev (xs : Array Value) : ((List.range xs.size).filterMap fun (m : Nat) => xs[(((xs.size : Nat) : Int) - 1 + (m : Int) * -1).toNat]?).toArray = xs.toList.reverse.toArray := by
  have e : ((List.range xs.size).filterMap fun (m : Nat) => xs[(((xs.size : Nat) : Int) - 1 + (m : Int) * -1).toNat]?) = ((List.range xs.size).map fun k => xs.size - 1 - k).filterMap (xs[·]?) := by
    rw [List.filterMap_map]
    refine fm_congr _ fun m hm => ?_
    have h := List.mem_range.mp hm
    have : (((xs.size : Nat) : Int) - 1 + (m : Int) * -1).toNat = xs.size - 1 - m := by omega
    rw [this]
    rfl
  rw [e, PySem.W.krv_range, List.filterMap_reverse, PySem.W.krv_all]
theorem getItem_tuple_rev {t sl : Addr} {items : Array Value} {vs : Value} {Q : Value → Shared → Prop} (ht : IsTup s.heap t items) (hs : s.heap.IsSliceOf sl .none .none vs) (ps : IsPart vs (some (-1)))
    (h : Q (.ref s.heap.objs.size) { s with heap := s.heap.push { cls := .type "tuple", data := .seq items.toList.reverse.toArray } })
    (hsz : items.size ≤ sizeLine) : wpAny (model prog w) A (getItem (.ref t) (.ref sl)) Q E s := by
  have htake : sizeOk (.seq items.toList.reverse.toArray) := by
    show items.toList.reverse.toArray.size ≤ sizeLine
    rw [List.size_toArray, List.length_reverse, Array.length_toList]
    exact hsz
  obtain ⟨os, hos, hcs, hds⟩ := id hs
  have hTs : s.TypeIs (.ref sl) "slice" := ⟨os, hos, hcs⟩
  unfold getItem
  try with_reducible refine wpAny_holding ?_
  first | refine wpAny_bind (wpAny_pure ?_) | skip
  refine wpAny_bind (wpAny_sequenceKey ht.typeIs (by decide) ?_)
  refine wpAny_bind (wpAny_callSpecial?_slot (name := Str.ofString "__getitem__") ht.typeIs PyProof.Rows.slot_tuple_getitem
    (wpAny_call_entry PyProof.Rows.slot_tuple_getitem ht.typeIs entry_tuple_getitem ?_ (args_tuple_getitem _ _)))
  show wpAny _ _ (Builtin.Tuple.tupleItemsOf (.ref t) >>= _) _ _ s
  refine wpAny_bind (tupleItemsOf_ ht ?_)
  refine wpAny_bind (wpAny_typeOf hTs ?_)
  rw [if_pos (by decide)]
  refine wpAny_bind (sliceApplied_rev hs ps ?_)
  have hno : ¬ ((((items.size : Nat) : Int) - 1 == 0 && (-1 : Int) == 1 && items.size == items.size) = true) := by
    intro q
    rw [Bool.and_eq_true, Bool.and_eq_true] at q
    exact absurd q.1.2 (by decide)
  show wpAny _ _ (if (((items.size : Nat) : Int) - 1 == 0 && (-1 : Int) == 1 && items.size == items.size) = true then _ else _) _ _ s
  rw [if_neg hno, pick_rev]
  first
    | exact wpAny_bind (m := Builtin.Tuple.tupleExact _) (wpAny_newObj_type (wpAny_pure ⟨_, rfl, wpAny_pure h⟩) htake)
    | exact wpAny_bind (m := Builtin.Tuple.tupleExact _) (wpAny_newObj_type (wpAny_bind (wpAny_pure (wpAny_pure ⟨_, rfl, wpAny_pure h⟩))) htake)
    | exact wpAny_bind (wpAny_bind (m := Builtin.Tuple.tupleExact _) (wpAny_newObj_type (wpAny_pure (wpAny_pure ⟨_, rfl, wpAny_pure h⟩)) htake))
    | exact wpAny_bind (wpAny_bind (m := Builtin.Tuple.tupleExact _) (wpAny_newObj_type (wpAny_pure ⟨_, rfl, wpAny_pure h⟩) htake))
end
end HT
namespace Sv
open PySem L2 PyProof.Rows
def tRevA (K : PySem.W.Frag) (te : TE) : TE := fun σ H Q => te σ H fun x H1 => ∃ a xs, x = .ref a ∧ ((SqL K H1 a xs ∧ ∀ p, H1 p = none → Q (.ref p) (upd H1 p (.lst xs.reverse))) ∨ (SqT K H1 a xs ∧ ∀ (p : Addr) (o : Obj), H1 p = none → o.dict = none → Q (.ref p) (upd H1 p (.frz o (.tup xs.reverse)))))
section
variable {X : Cx} {W : WX}
theorem pe_revA {e : Expr} {te : TE} {k : Nat} {p1 p2 p3 pos : Pos} (he : PE X e te) : PE X (.Subscript e (.Slice none none (some (.UnaryOp .USub (.Constant (.int 1) k p1) p2)) p3) pos) (tRevA X.K te) := by
  refine ⟨fun pins s σ H Q I h => ?_⟩
  refine Subscript_ (thn (he.run pins s σ H _ I h) fun v s1 ⟨x, H1, I1, r1, q1⟩ => ?_)
  obtain ⟨a, xs, ex, hx⟩ := q1
  subst ex
  cases r1
  have hst : PO X (some (.UnaryOp .USub (.Constant (.int 1) k p1) p2)) (tPart (tUn (rU fun i => .int (-i)) (tC (.int 1)))) := po_some (pe_un un_neg pe_int)
  refine wpAny_Slice (thn (po_none.run pins s1 σ H1 (fun o H2 => o = none ∧ H2 = H1) I1 ⟨rfl, rfl⟩) fun vl s2 ⟨l, H2, I2, pl, el, e2⟩ => ?_)
  subst el e2
  refine thn (po_none.run pins s2 σ H2 (fun o H3 => o = none ∧ H3 = H2) I2 ⟨rfl, rfl⟩) fun vu s3 ⟨u, H3, I3, pu, eu, e3⟩ => ?_
  subst eu e3
  refine thn (hst.run pins s3 σ H3 (fun o H4 => o = some (-1) ∧ H4 = H3) I3 ⟨1, rfl, -1, rfl, rfl, rfl⟩) fun vs s4 ⟨o, H4, I4, ps, eo, e4⟩ => ?_
  subst eo e4
  have I5 : Inv X pins σ H4 { s4 with heap := s4.heap.push { cls := .type "slice", data := .fields #[vl, vu, vs] } } := I4.kept (t' := s4.toks) fun b ob q => Heap.get?_push_of_some _ q
  show wpAny (model X.prog X.w) X.A (subscriptTail e (.Slice none none (some (.UnaryOp .USub (.Constant (.int 1) k p1) p2)) p3) (.ref a) (.ref s4.heap.objs.size)) (EP X pins σ Q) X.xe { s4 with heap := s4.heap.push { cls := .type "slice", data := .fields #[vl, vu, vs] } }
  rcases hx with ⟨hx, q⟩ | ⟨hx, q⟩
  · obtain ⟨its, r, ht, hz⟩ := I5.list hx
    have hlen := r.length
    refine tail_any (ops := [.ref a, .ref s4.heap.objs.size]) ht.isList.typeIs (PySem.slot_list_getitem.lookup) ?_ (by with_unfolding_all rfl)
    refine wpAny_getItem_list_slice ht.isList (Heap.IsSliceOf.new _ vl vu vs) pl pu ps (by decide) ?_ (by rw [List.size_toArray]; omega)
    rw [PySem.W.krv_pick]
    refine ⟨.ref _, _, I5.laid (t' := s4.toks) (o := .lst xs.reverse) (fun b ob q => Heap.get?_push_of_some _ q) (Nat.le_refl _) ?_, rfl, q _ (I5.hok.fresh (Nat.le_refl _))⟩
    exact ⟨by rw [List.length_reverse]; exact hz, _, 0, r.reverse, Heap.get?_push_size _ rfl⟩
  · obtain ⟨its, r, ht, hz⟩ := I5.tuple hx
    have hlen := r.length
    cases pl
    cases pu
    refine tail_any (ops := [.ref a, .ref s4.heap.objs.size]) ht.typeIs (PyProof.Rows.slot_tuple_getitem.lookup) ?_ (by with_unfolding_all rfl)
    refine HT.getItem_tuple_rev ht (Heap.IsSliceOf.new _ .none .none vs) ps ?_ (by rw [List.size_toArray]; omega)
    exact ⟨.ref _, _, tupO_laid (t' := s4.toks) I5 (fun b ob q => Heap.get?_push_of_some _ q) (Nat.le_refl _) (Heap.get?_push_size _ rfl) r.reverse (by rw [List.length_reverse]; exact hz), rfl, q _ _ (I5.hok.fresh (Nat.le_refl _)) rfl⟩
def revD : Dat → Option Dat
  | .lst ds => some (.lst ds.reverse)
  | .tup ds => some (.tup ds.reverse)
  | _ => none
variable {e a b : Expr} {f g : M Dat} {pos p : Pos}
theorem de_rev {k : Nat} {p1 p2 p3 : Pos} (he : DE X W e f) : DE X W (.Subscript e (.Slice none none (some (.UnaryOp .USub (.Constant (.int 1) k p1) p2)) p3) pos) (f.un1 revD) :=
  PE.imp (pe_revA he) fun σ H Q ⟨z, H0, ρ, r, q⟩ => part r q fun d v H1 G1 ρ1 r1 s1 hv q1 => by
    obtain ⟨dz, e, q2⟩ := Run.lift q1
    cases d with
    | lst ds =>
      cases e
      cases hv with
      | @lst a vs _ h1 h2 =>
        refine ⟨a, vs, rfl, .inl ⟨.inl (sameRd r1.sub h1), fun p hp => ?_⟩⟩
        have g := Grow.new (o := .lst vs.reverse) r1.sub hp
        exact q2 _ _ (g.rel r1) g.s _ (Rep.newL (r1.sub.free hp) h2.rev)
    | tup ds =>
      cases e
      cases hv with
      | @tup a vs _ h1 h2 =>
        refine ⟨a, vs, rfl, .inr ⟨sameT r1.sub h1.sq, fun p o hp hd => ?_⟩⟩
        have g := Grow.new (o := .frz o (.tup vs.reverse)) r1.sub hp
        exact q2 _ _ (g.rel r1) g.s _ (Rep.newT (r1.sub.free hp) hd h2.rev)
    | _ => cases e
/-! ## operators by data -/
theorem OpR.or {h : Value → Value → Sem Value} {r r' : R2} (a : OpR X h r) (b : OpR X h r') : OpR X h (fun x y H Q => r x y H Q ∨ r' x y H Q) := fun pins s σ H x y v u Q I rx ry q =>
  q.elim (fun q => a pins s σ H x y v u Q I rx ry q) fun q => b pins s σ H x y v u Q I rx ry q
theorem Snd2.int0 {K : PySem.W.Frag} {gv : Int → Int → V} {gd : Int → Int → Dat} (h : ∀ i j H0, Rep K H0 (gv i j) (gd i j)) : Snd2 K (rI0 gv) (fun x y => match x, y with | .int i, .int j => some (gd i j) | _, _ => none) := by
  intro H H0 x y dx dy dz Q s hx hy e q
  cases dx <;> cases dy <;> cases e
  cases hx; cases hy
  exact ⟨_, _, rfl, rfl, q _ H H0 (Grow.refl s) (h _ _ _)⟩
def iop (c : Int → Int → Bool) (g : Int → Int → Int) : Dat → Dat → Option Dat
  | .int i, .int j => if c i j = true then some (.int (g i j)) else none
  | _, _ => none
theorem Snd2.intC {K : PySem.W.Frag} {C : Int → Int → Prop} {c : Int → Int → Bool} {g : Int → Int → Int} (h : ∀ i j, c i j = true → C i j) : Snd2 K (rI C fun i j => .int (g i j)) (iop c g) := by
  intro H H0 x y dx dy dz Q s hx hy e q
  cases dx with
  | int i =>
    cases dy with
    | int j =>
      cases hx; cases hy
      have e : (if c i j = true then some (Dat.int (g i j)) else none) = some dz := e
      by_cases hc : c i j = true
      · rw [if_pos hc] at e
        cases e
        exact ⟨_, _, rfl, rfl, h _ _ hc, q _ H H0 (Grow.refl s) (.int _)⟩
      · rw [if_neg hc] at e; cases e
    | _ => cases e
  | _ => cases e
def bop (g : Int → Int → Bool) : Dat → Dat → Option Dat
  | .int i, .int j => some (.bl (g i j))
  | _, _ => none
theorem Snd2.bop {K : PySem.W.Frag} {g : Int → Int → Bool} : Snd2 K (rI0 fun i j => .bl (g i j)) (Sv.bop g) := by
  intro H H0 x y dx dy dz Q s hx hy e q
  cases dx <;> cases dy <;> cases e
  cases hx; cases hy
  exact ⟨_, _, rfl, rfl, q _ H H0 (Grow.refl s) (.bl _)⟩
/-- list + list, of known ones -/
def rCatR : R2 := fun x y H Q => ∃ l b xs zs, x = .ref l ∧ y = .ref b ∧ Rd H l (.lst xs) ∧ Rd H b (.lst zs) ∧ xs.length + zs.length ≤ sizeLine ∧ ∀ p, H p = none → Q (.ref p) (upd H p (.lst (xs ++ zs)))
theorem op_catR : OpR X (binaryOp .Add) rCatR := by
  intro pins s σ H x y v u Q I rx ry h
  obtain ⟨l, b, xs, zs, rfl, rfl, hH, hB, hz, q⟩ := h
  cases rx
  cases ry
  obtain ⟨z, its, n, r, e⟩ := hH.ok I.hok
  obtain ⟨z2, its2, n2, r2, e2⟩ := hB.ok I.hok
  have l1 := r.length
  have l2 := r2.length
  refine PySem.P.add_list e e2 ?_ (by rw [List.size_toArray, List.size_toArray]; omega)
  have ea : its.toArray ++ its2.toArray = (its ++ its2).toArray := by simp
  rw [ea]
  exact ⟨.ref _, _, I.lnew (t' := s.toks) (r.append r2) (by rw [List.length_append]; omega), rfl, q _ I.fresh⟩
/-- tuple + tuple, its object known -/
def rCatF (K : PySem.W.Frag) : R2 := fun x y H Q => ∃ a b xs ys, x = .ref a ∧ y = .ref b ∧ SqT K H a xs ∧ SqT K H b ys ∧ xs.length + ys.length ≤ sizeLine ∧
  (xs = [] → Q (.ref b) H) ∧ (xs ≠ [] → ys = [] → Q (.ref a) H) ∧ (xs ≠ [] → ys ≠ [] → ∀ (p : Addr) (o : Obj), H p = none → o.dict = none → Q (.ref p) (upd H p (.frz o (.tup (xs ++ ys)))))
theorem op_catF : OpR X (binaryOp .Add) (rCatF X.K) := by
  intro pins s σ H x y v u Q I rx ry h
  obtain ⟨a, b, xs, ys, rfl, rfl, ha, hb, hz, q0, q1, q2⟩ := h
  cases rx
  cases ry
  obtain ⟨its, r1, p1, _⟩ := I.tuple ha
  obtain ⟨its2, r2, p2, _⟩ := I.tuple hb
  by_cases hx : xs = []
  · subst hx
    cases r1
    exact cat_tup0 p1 p2 ⟨.ref b, H, I, rfl, q0 rfl⟩
  · refine HT.cat_tup p1 p2 (fun z => hx (r1.nil_iff.mp z)) (fun z => ⟨.ref a, H, I, rfl, q1 hx (r2.nil_iff.mp z)⟩) (fun z => ?_) (by rw [← r1.length, ← r2.length]; exact hz)
    exact ⟨.ref s.heap.objs.size, _, tupO_laid (t' := s.toks) I (fun b ob q => Heap.get?_push_of_some _ q) (Nat.le_refl _) (Heap.get?_push_size _ rfl) (r1.append r2) (by rw [List.length_append]; exact hz), rfl, q2 hx (fun w => z (r2.nil_iff.mpr w)) _ _ (I.hok.fresh (Nat.le_refl _)) rfl⟩
def addD : Dat → Dat → Option Dat
  | .int i, .int j => some (.int (i + j))
  | .lst xs, .lst ys => if xs.length + ys.length ≤ 1000000 then some (.lst (xs ++ ys)) else none
  | .tup xs, .tup ys => if xs.length + ys.length ≤ 1000000 then some (.tup (xs ++ ys)) else none
  | _, _ => none
theorem op_addA : OpR X (binaryOp .Add) (fun x y H Q => rI0 (fun i j => .int (i + j)) x y H Q ∨ rCatR x y H Q ∨ rCatF X.K x y H Q) := OpR.or op_add (OpR.or op_catR op_catF)
theorem snd_add {K : PySem.W.Frag} : Snd2 K (fun x y H Q => rI0 (fun i j => .int (i + j)) x y H Q ∨ rCatR x y H Q ∨ rCatF K x y H Q) addD := by
  intro H H0 x y dx dy dz Q s hx hy e q
  cases dx with
  | int i =>
    cases dy <;> first | (cases e; done) | skip
    cases e
    cases hx; cases hy
    exact .inl ⟨_, _, rfl, rfl, q _ H H0 (Grow.refl s) (.int _)⟩
  | lst xs =>
    cases dy with
    | lst ys =>
     have e : (if xs.length + ys.length ≤ 1000000 then some (Dat.lst (xs ++ ys)) else none) = some dz := e
     by_cases hl : xs.length + ys.length ≤ 1000000
     · rw [if_pos hl] at e
       cases e
       cases hx with
       | @lst a vs _ h1 h2 =>
         cases hy with
         | @lst b us _ h3 h4 =>
           refine .inr (.inl ⟨a, b, vs, us, rfl, rfl, sameRd s h1, sameRd s h3, sz (by rw [h2.length, h4.length]; exact hl), fun p hp => ?_⟩)
           exact q _ _ _ (Grow.new s hp) (Rep.newL (s.free hp) (h2.app h4))
     · rw [if_neg hl] at e; cases e
    | _ => cases e
  | tup xs =>
    cases dy with
    | tup ys =>
     have e : (if xs.length + ys.length ≤ 1000000 then some (Dat.tup (xs ++ ys)) else none) = some dz := e
     by_cases hl : xs.length + ys.length ≤ 1000000
     · rw [if_pos hl] at e
       cases e
       cases hx with
       | @tup a vs _ h1 h2 =>
         cases hy with
         | @tup b us _ h3 h4 =>
           refine .inr (.inr ⟨a, b, vs, us, rfl, rfl, sameT s h1.sq, sameT s h3.sq, sz (by rw [h2.length, h4.length]; exact hl), fun z => ?_, fun _ z => ?_, fun _ _ p o hp hd => ?_⟩)
           · subst z; cases h2
             exact q _ H H0 (Grow.refl s) (.tup h3 h4)
           · subst z; cases h4
             rw [List.append_nil] at q
             exact q _ H H0 (Grow.refl s) (.tup h1 h2)
           · exact q _ _ _ (Grow.new s hp) (Rep.newT (s.free hp) hd (h2.app h4))
     · rw [if_neg hl] at e; cases e
    | _ => cases e
  | _ => cases e
theorem de_add (ha : DE X W a f) (hb : DE X W b g) : DE X W (.BinOp a .Add b pos) (f.bin g addD) := de_bin op_addA snd_add ha hb
def subD : Dat → Dat → Option Dat := iop (fun _ _ => true) fun i j => i - j
theorem de_sub (ha : DE X W a f) (hb : DE X W b g) : DE X W (.BinOp a .Sub b pos) (f.bin g subD) :=
  de_bin (r := rI (fun _ _ => True) fun i j => .int (i - j)) (fun pins s σ H x y v u Q I rx ry ⟨i, j, h1, h2, _, q⟩ => op_sub pins s σ H x y v u Q I rx ry ⟨i, j, h1, h2, q⟩) (Snd2.intC fun _ _ _ => trivial) ha hb
def mulD : Dat → Dat → Option Dat := iop (fun i j => decide ((-18446744073709551616 < i ∧ i < 18446744073709551616) ∨ (-18446744073709551616 < j ∧ j < 18446744073709551616))) fun i j => i * j
theorem de_mul (ha : DE X W a f) (hb : DE X W b g) : DE X W (.BinOp a .Mult b pos) (f.bin g mulD) := de_bin op_mul (Snd2.intC fun i j h => by
  have h := of_decide_eq_true h
  unfold CMul
  rcases h with ⟨h1, h2⟩ | ⟨h1, h2⟩
  · exact .inl ⟨by omega, by omega⟩
  · exact .inr ⟨by omega, by omega⟩) ha hb
def modD : Dat → Dat → Option Dat := iop (fun _ j => decide (0 < j)) fun i j => i % j
theorem de_mod (ha : DE X W a f) (hb : DE X W b g) : DE X W (.BinOp a .Mod b pos) (f.bin g modD) := de_bin op_mod (Snd2.intC fun i j h => of_decide_eq_true h) ha hb
def fdivD : Dat → Dat → Option Dat := iop (fun _ j => decide (0 < j ∧ j < 1073741824)) fun i j => i / j
theorem de_fdiv (ha : DE X W a f) (hb : DE X W b g) : DE X W (.BinOp a .FloorDiv b pos) (f.bin g fdivD) := de_bin op_fdiv (Snd2.intC fun i j h => by
  have h := of_decide_eq_true h
  exact h) ha hb
def powD : Dat → Dat → Option Dat := iop (fun i j => decide (0 ≤ j ∧ (Builtin.Int.intBits i : Int) * j ≤ 134217728)) fun i j => i ^ j.toNat
theorem de_pow (ha : DE X W a f) (hb : DE X W b g) : DE X W (.BinOp a .Pow b pos) (f.bin g powD) :=
  de_bin (r := rI (fun i j => 0 ≤ j ∧ (Builtin.Int.intBits i : Int) * j ≤ 2 ^ 27) fun i j => .int (i ^ j.toNat)) (opI fun _ _ _ _ _ _ _ hc q => pow_int hc.1 hc.2 q) (Snd2.intC fun i j h => by
  have h := of_decide_eq_true h
  exact ⟨h.1, by have := h.2; omega⟩) ha hb
def negD : Dat → Option Dat
  | .int i => some (.int (-i))
  | _ => none
theorem de_neg (ha : DE X W a f) : DE X W (.UnaryOp .USub a pos) (f.un1 negD) := de_un un_neg (fun H H0 x dx dz Q s hx e q => by
  cases dx <;> cases e
  cases hx
  exact ⟨_, rfl, q _ H H0 (Grow.refl s) (.int _)⟩) ha
theorem de_lt (ha : DE X W a f) (hb : DE X W b g) : DE X W (.Compare a [.Lt] [b] pos) (f.bin g (bop fun i j => decide (i < j))) := de_cmp op_lt Snd2.bop ha hb (nomark _)
theorem de_le (ha : DE X W a f) (hb : DE X W b g) : DE X W (.Compare a [.LtE] [b] pos) (f.bin g (bop fun i j => decide (i ≤ j))) := de_cmp op_le Snd2.bop ha hb (nomark _)
theorem de_gt (ha : DE X W a f) (hb : DE X W b g) : DE X W (.Compare a [.Gt] [b] pos) (f.bin g (bop fun i j => decide (j < i))) := de_cmp op_gt Snd2.bop ha hb (nomark _)
theorem de_ge (ha : DE X W a f) (hb : DE X W b g) : DE X W (.Compare a [.GtE] [b] pos) (f.bin g (bop fun i j => decide (j ≤ i))) := de_cmp op_ge Snd2.bop ha hb (nomark _)
/-! ### == of data -/
def keyPy : Key → PyData
  | .inl i => .int i
  | .inr x => .str x
mutual
def Dat.py : Dat → PyData
  | .non => .none
  | .bl b => .bool b
  | .int i => .int i
  | .str x => .str x
  | .tup ds => .tuple (Dat.pys ds)
  | .lst ds => .list (Dat.pys ds)
  | .scr ds => .list (Dat.pys ds)
  | .dct ks ds => .dict ((ks.map keyPy).zip (Dat.pys ds))
  | .ins _ _ _ => .none
  | .dno => .none
  | .fn _ => .none
def Dat.pys : List Dat → List PyData
  | [] => []
  | d :: ds => Dat.py d :: Dat.pys ds
end
/-! neither a dict nor an instance in it -/
mutual
def Dat.plain : Dat → Bool
  | .non => true
  | .bl _ => true
  | .int _ => true
  | .str _ => true
  | .tup ds => Dat.plains ds
  | .lst ds => Dat.plains ds
  | .scr ds => Dat.plains ds
  | .dct _ _ => false
  | .ins _ _ _ => false
  | .dno => false
  | .fn _ => false
def Dat.plains : List Dat → Bool
  | [] => true
  | d :: ds => Dat.plain d && Dat.plains ds
end
mutual
theorem Rep.dp {K : PySem.W.Frag} {H : Hp} : ∀ {d : Dat} {v : V}, d.plain = true → Rep K H v d → Dp K H v d.py
  | .non, _, _, h => by cases h; exact .non
  | .bl b, _, _, h => by cases h; exact .bl b
  | .int i, _, _, h => by cases h; exact .int i
  | .str x, _, _, h => by cases h; exact .str x
  | .tup ds, _, p, h => by
    cases h with
    | tup h1 h2 => exact .tup h1.sq (RepA.dp p h2)
  | .lst ds, _, p, h => by
    cases h with
    | lst h1 h2 => exact .lst (.inl h1) (RepA.dp p h2)
  | .scr ds, _, p, h => by
    cases h with
    | scr h1 h2 => exact .lst h1 (RepA.dp p h2)
  | .dct _ _, _, p, _ => nomatch p
  | .ins _ _ _, _, p, _ => nomatch p
  | .dno, _, p, _ => nomatch p
  | .fn _, _, p, _ => nomatch p
theorem RepA.dp {K : PySem.W.Frag} {H : Hp} : ∀ {ds : List Dat} {vs : List V}, Dat.plains ds = true → RepA K H vs ds → DpAll K H vs (Dat.pys ds)
  | [], _, _, h => by cases h; exact .nil
  | d :: ds, _, p, h => by
    have p : (d.plain && Dat.plains ds) = true := p
    rw [Bool.and_eq_true] at p
    cases h with
    | cons h1 h2 => exact .cons (Rep.dp p.1 h1) (RepA.dp p.2 h2)
end
def eqB (d e : Dat) : Bool := PyData.eqv d.py e.py
def okE (d : Dat) : Bool := d.plain && SeqAt.shaped d.py
theorem okE_plain {d : Dat} (h : okE d = true) : d.plain = true := ((Bool.and_eq_true _ _).mp h).1
theorem okE_shaped {d : Dat} (h : okE d = true) : SeqAt.shaped d.py = true := ((Bool.and_eq_true _ _).mp h).2
def eqD (d e : Dat) : Option Dat := if okE d = true ∧ okE e = true then some (.bl (eqB d e)) else none
def neD (d e : Dat) : Option Dat := if okE d = true ∧ okE e = true then some (.bl (!eqB d e)) else none
theorem snd_eq {K : PySem.W.Frag} : Snd2 K (rEqD K) eqD := by
  intro H H0 x y dx dy dz Q s hx hy e q
  unfold eqD at e
  split at e
  · rename_i h
    cases e
    exact ⟨_, _, (hx.mono s).dp (okE_plain h.1), (hy.mono s).dp (okE_plain h.2), okE_shaped h.1, okE_shaped h.2, q _ H H0 (Grow.refl s) (.bl _)⟩
  · cases e
theorem snd_ne {K : PySem.W.Frag} : Snd2 K (rNeD K) neD := by
  intro H H0 x y dx dy dz Q s hx hy e q
  unfold neD at e
  split at e
  · rename_i h
    cases e
    exact ⟨_, _, (hx.mono s).dp (okE_plain h.1), (hy.mono s).dp (okE_plain h.2), okE_shaped h.1, okE_shaped h.2, q _ H H0 (Grow.refl s) (.bl _)⟩
  · cases e
theorem de_eq (hu : X.A.units + 64 < cLine) (ha : DE X W a f) (hb : DE X W b g) : DE X W (.Compare a [.Eq] [b] pos) (f.bin g eqD) := de_cmp (op_eqD hu) snd_eq ha hb (nomark _)
theorem de_ne (hu : X.A.units + 64 < cLine) (ha : DE X W a f) (hb : DE X W b g) : DE X W (.Compare a [.NotEq] [b] pos) (f.bin g neD) := de_cmp (op_neD hu) snd_ne ha hb (nomark _)
/-! ### is None, in -/
def isN : Dat → Bool
  | .non => true
  | _ => false
theorem isN_rep {K : PySem.W.Frag} {H : Hp} {v : V} {d : Dat} (h : Rep K H v d) : decide (v = .non) = isN d := by
  cases h <;> simp [isN]
def isNoneD (d e : Dat) : Option Dat := match e with
  | .non => some (.bl (isN d))
  | _ => none
def notNoneD (d e : Dat) : Option Dat := match e with
  | .non => some (.bl (!isN d))
  | _ => none
theorem de_isN (ha : DE X W a f) (hb : DE X W b g) : DE X W (.Compare a [.Is] [b] pos) (f.bin g isNoneD) := de_cmp op_isN (fun H H0 x y dx dy dz Q s hx hy e q => by
  cases dy <;> cases e
  cases hy
  exact ⟨rfl, by rw [isN_rep hx]; exact q _ H H0 (Grow.refl s) (.bl _)⟩) ha hb (nomark _)
theorem de_notN (ha : DE X W a f) (hb : DE X W b g) : DE X W (.Compare a [.IsNot] [b] pos) (f.bin g notNoneD) := de_cmp op_notN (fun H H0 x y dx dy dz Q s hx hy e q => by
  cases dy <;> cases e
  cases hy
  exact ⟨rfl, by rw [isN_rep hx]; exact q _ H H0 (Grow.refl s) (.bl _)⟩) ha hb (nomark _)
/-- what is flat -/
def flatD : Dat → Bool
  | .tup _ => false
  | .lst _ => false
  | .scr _ => false
  | .dct _ _ => false
  | .ins _ _ _ => false
  | .dno => false
  | .fn _ => false
  | _ => true
def eqF : Dat → Dat → Bool
  | .non, .non => true
  | .bl a, .bl b => a == b
  | .bl a, .int b => (if a then 1 else 0) == b
  | .int a, .bl b => a == (if b then 1 else 0)
  | .int a, .int b => a == b
  | .str a, .str b => a == b
  | _, _ => false
theorem flat_rep {K : PySem.W.Frag} {H : Hp} {v : V} {d : Dat} (h : Rep K H v d) : flatV v = flatD d := by cases h <;> rfl
theorem flat_all {K : PySem.W.Frag} {H : Hp} : ∀ {ds : List Dat} {vs : List V}, RepA K H vs ds → vs.all flatV = ds.all flatD
  | [], _, .nil => rfl
  | d :: ds, _, .cons h1 h2 => by rw [List.all_cons, List.all_cons, flat_rep h1, flat_all h2]
theorem eqF_rep {K : PySem.W.Frag} {H H' : Hp} {v u : V} {d e : Dat} (h : Rep K H v d) (h' : Rep K H' u e) : eqV v u = eqF d e := by cases h <;> cases h' <;> rfl
theorem in_rep {K : PySem.W.Frag} {H H' : Hp} {u : V} {e : Dat} (h' : Rep K H' u e) : ∀ {ds : List Dat} {vs : List V}, RepA K H vs ds → (vs.any fun y => eqV y u) = ds.any fun y => eqF y e
  | [], _, .nil => rfl
  | d :: ds, _, .cons h1 h2 => by rw [List.any_cons, List.any_cons, eqF_rep h1 h', in_rep h' h2]
def inD (d e : Dat) : Option Dat := match items e with
  | some ds => if flatD d = true ∧ ds.all flatD = true then some (.bl (ds.any fun y => eqF y d)) else none
  | none => none
theorem de_in (ha : DE X W a f) (hb : DE X W b g) (hm : behindInMarks .In b = false := by rfl) : DE X W (.Compare a [.In] [b] pos) (f.bin g inD) := de_cmp op_in_seq (fun H H0 x y dx dy dz Q s hx hy e q => by
  unfold inD at e
  cases dy with
  | tup ds =>
    dsimp only [items] at e
    split at e
    · rename_i h
      cases e
      cases hy with
      | @tup a vs _ h1 h2 =>
        refine ⟨a, vs, rfl, .inr (sameT s h1.sq), (flat_rep hx).trans h.1, (flat_all h2).trans h.2, ?_⟩
        rw [if_neg Bool.false_ne_true]
        unfold inV
        rw [in_rep hx h2]
        exact q _ H H0 (Grow.refl s) (.bl _)
    · cases e
  | lst ds =>
    dsimp only [items] at e
    split at e
    · rename_i h
      cases e
      cases hy with
      | @lst a vs _ h1 h2 =>
        refine ⟨a, vs, rfl, .inl (.inl (sameRd s h1)), (flat_rep hx).trans h.1, (flat_all h2).trans h.2, ?_⟩
        rw [if_neg Bool.false_ne_true]
        unfold inV
        rw [in_rep hx h2]
        exact q _ H H0 (Grow.refl s) (.bl _)
    · cases e
  | _ => cases e) ha hb hm
/-! ### subscripts, built-ins -/
def itemsS : Dat → Option (List Dat)
  | .tup ds => some ds
  | .lst ds => some ds
  | .scr ds => some ds
  | _ => none
def ixD (d e : Dat) : Option Dat := match itemsS d, e with
  | some ds, .int k => atI ds k
  | _, _ => none
theorem snd_ix {K : PySem.W.Frag} : Snd2 K (rIx K) ixD := by
  intro H H0 x y dx dy dz Q s hx hy e q
  unfold ixD at e
  cases dx with
  | tup ds =>
    cases dy <;> try cases e
    dsimp only [itemsS] at e
    cases hy
    cases hx with
    | @tup a vs _ h1 h2 =>
      obtain ⟨w, e3, h4⟩ := atI_rep h2 e
      exact .inr (.inl ⟨a, vs, _, w, rfl, rfl, sameT s h1.sq, e3, q _ H H0 (Grow.refl s) h4⟩)
  | lst ds =>
    cases dy <;> try cases e
    dsimp only [itemsS] at e
    cases hy
    cases hx with
    | @lst a vs _ h1 h2 =>
      obtain ⟨w, e3, h4⟩ := atI_rep h2 e
      exact .inl ⟨a, vs, _, w, rfl, rfl, .inl (sameRd s h1), e3, q _ H H0 (Grow.refl s) h4⟩
  | scr ds =>
    cases dy <;> try cases e
    dsimp only [itemsS] at e
    cases hy
    cases hx with
    | @scr a vs _ h1 h2 =>
      obtain ⟨w, e3, h4⟩ := atI_rep h2 e
      exact .inl ⟨a, vs, _, w, rfl, rfl, sameL s h1, e3, q _ H H0 (Grow.refl s) h4⟩
  | _ => cases e
theorem de_at (ha : DE X W a f) (hb : DE X W b g) (hp : PlainIx b := by exact fun _ _ => rfl) : DE X W (.Subscript a b pos) (f.bin g ixD) := de_ix ix_seq snd_ix ha hb hp
variable {es : List Expr} {ga : M (List Dat)}
def lenD : List Dat → Option Dat
  | [.tup ds] => some (.int ds.length)
  | [.lst ds] => some (.int ds.length)
  | [.scr ds] => some (.int ds.length)
  | _ => none
theorem de_len (hg : Gl X "len") (hm : X.mg "len" = none) (ha : DA X W [e] ga) (he : starEach [e] X.env = (false, eval e X.env) :: starEach [] X.env := by rfl) : DE X W (.Call (.Name "len" p) [e] [] pos) (ga.bi lenD) :=
  de_callB call_len_seq (fun H H0 xs ds dz Q s hx e q => by
    unfold lenD at e
    split at e
    · cases e
      cases hx with
      | cons h1 h2 =>
        cases h2
        cases h1 with
        | @tup a vs ds h1 h2 =>
          refine ⟨a, vs, rfl, .inr (sameT s h1.sq), ?_⟩
          rw [h2.length]
          exact q _ H H0 (Grow.refl s) (.int _)
    · cases e
      cases hx with
      | cons h1 h2 =>
        cases h2
        cases h1 with
        | @lst a vs ds h1 h2 =>
          refine ⟨a, vs, rfl, .inl (.inl (sameRd s h1)), ?_⟩
          rw [h2.length]
          exact q _ H H0 (Grow.refl s) (.int _)
    · cases e
      cases hx with
      | cons h1 h2 =>
        cases h2
        cases h1 with
        | @scr a vs ds h1 h2 =>
          refine ⟨a, vs, rfl, .inl (sameL s h1), ?_⟩
          rw [h2.length]
          exact q _ H H0 (Grow.refl s) (.int _)
    · cases e) hg hm PySem.boot_len ha (by decide) (by decide) he
theorem call_tupF : CallR X (.type "tuple") (fun xs H Q => ∃ p ys, xs = [.ref p] ∧ ((SqL X.K H p ys ∧ ∀ (l : Addr) (o : Obj), H l = none → o.dict = none → Q (.ref l) (upd H l (.frz o (.tup ys)))) ∨ (SqT X.K H p ys ∧ Q (.ref p) H))) := by
  intro pins s σ H xs us Q I r h
  obtain ⟨p, ys, rfl, h⟩ := h
  obtain ⟨u, rfl, rx⟩ := vals1 r
  cases rx
  rcases h with ⟨hq, q⟩ | ⟨hq, q⟩
  · obtain ⟨its, r', pl, hz⟩ := I.list hq
    have hlen := r'.length
    refine call_tuple_list pl.isList (fun h' kp => ?_) (by simp only [List.size_toArray] <;> omega)
    have I1 : Inv X pins σ H { s with heap := h' } := I.kept (t' := s.toks) kp
    have I2 : Inv X pins σ (upd H h'.objs.size (.frz (tupO its) (.tup ys))) { s with heap := h'.push (tupO its) } := tupO_laid (s := { s with heap := h' }) (t' := s.toks) I1 (fun b o e => Heap.get?_push_of_some _ e) (Nat.le_refl _) (Heap.get?_push_size _ rfl) r' hz
    exact ⟨.ref h'.objs.size, _, I2, rfl, q _ _ (I1.hok.fresh (Nat.le_refl _)) rfl⟩
  · obtain ⟨its, r', pl, hz⟩ := I.tuple hq
    exact call_tuple_same pl ⟨.ref p, H, I, rfl, q⟩
def tupleD : List Dat → Option Dat
  | [.tup ds] => some (.tup ds)
  | [.lst ds] => some (.tup ds)
  | _ => none
theorem de_tuple (hg : Gl X "tuple") (hm : X.mg "tuple" = none) (ha : DA X W [e] ga) (he : starEach [e] X.env = (false, eval e X.env) :: starEach [] X.env := by rfl) : DE X W (.Call (.Name "tuple" p) [e] [] pos) (ga.bi tupleD) :=
  de_callTy call_tupF (fun H H0 xs ds dz Q s hx e q => by
    unfold tupleD at e
    split at e
    · cases e
      cases hx with
      | cons h1 h2 =>
        cases h2
        cases h1 with
        | @tup a vs ds h1 h2 => exact ⟨a, vs, rfl, .inr ⟨sameT s h1.sq, q _ H H0 (Grow.refl s) (.tup h1 h2)⟩⟩
    · cases e
      cases hx with
      | cons h1 h2 =>
        cases h2
        cases h1 with
        | @lst a vs ds h1 h2 => exact ⟨a, vs, rfl, .inl ⟨.inl (sameRd s h1), fun l o hl hd => q _ _ _ (Grow.new s hl) (Rep.newT (s.free hl) hd h2)⟩⟩
    · cases e) hg hm (by decide +kernel) ha (by decide) (by decide) he
def intD : List Dat → Option Dat
  | [.int i] => some (.int i)
  | [.bl k] => some (.int (if k then 1 else 0))
  | _ => none
theorem de_int1 (hg : Gl X "int") (hm : X.mg "int" = none) (ha : DA X W [e] ga) (he : starEach [e] X.env = (false, eval e X.env) :: starEach [] X.env := by rfl) : DE X W (.Call (.Name "int" p) [e] [] pos) (ga.bi intD) :=
  de_callTy call_int1 (fun H H0 xs ds dz Q s hx e q => by
    unfold intD at e
    split at e
    · cases e
      cases hx with
      | cons h1 h2 => cases h2; cases h1; exact .inl ⟨_, rfl, q _ H H0 (Grow.refl s) (.int _)⟩
    · cases e
      cases hx with
      | cons h1 h2 => cases h2; cases h1; exact .inr ⟨_, rfl, q _ H H0 (Grow.refl s) (.int _)⟩
    · cases e) hg hm (by decide +kernel) ha (by decide) (by decide) he
def max2D : List Dat → Option Dat
  | [.int i, .int j] => some (.int (if j > i then j else i))
  | _ => none
theorem de_max2 (hc : X.calm = true) (hg : Gl X "max") (hm : X.mg "max" = none) (ha : DA X W [a, b] ga) (he : starEach [a, b] X.env = (false, eval a X.env) :: starEach [b] X.env := by rfl) (hpl : (backTo pos (starEach [b] X.env)).any (·.1) = false := by rfl) : DE X W (.Call (.Name "max" p) [a, b] [] pos) (ga.bi max2D) :=
  de_callB (call_max2 hc) (fun H H0 xs ds dz Q s hx e q => by
    unfold max2D at e
    split at e
    · cases e
      cases hx with
      | cons h1 h2 =>
        cases h2 with
        | cons h2 h3 => cases h3; cases h1; cases h2; exact ⟨_, _, rfl, q _ H H0 (Grow.refl s) (.int _)⟩
    · cases e) hg hm (by decide +kernel) ha (by decide) (by decide) he hpl
def min2D : List Dat → Option Dat
  | [.int i, .int j] => some (.int (if j < i then j else i))
  | _ => none
theorem de_min2 (hc : X.calm = true) (hg : Gl X "min") (hm : X.mg "min" = none) (ha : DA X W [a, b] ga) (he : starEach [a, b] X.env = (false, eval a X.env) :: starEach [b] X.env := by rfl) (hpl : (backTo pos (starEach [b] X.env)).any (·.1) = false := by rfl) : DE X W (.Call (.Name "min" p) [a, b] [] pos) (ga.bi min2D) :=
  de_callB (call_min2 hc) (fun H H0 xs ds dz Q s hx e q => by
    unfold min2D at e
    split at e
    · cases e
      cases hx with
      | cons h1 h2 =>
        cases h2 with
        | cons h2 h3 => cases h3; cases h1; cases h2; exact ⟨_, _, rfl, q _ H H0 (Grow.refl s) (.int _)⟩
    · cases e) hg hm (by decide +kernel) ha (by decide) (by decide) he hpl
def bools : List Dat → Option (List Bool)
  | [] => some []
  | .bl b :: ds => (bools ds).map (b :: ·)
  | _ => none
theorem bools_rep {K : PySem.W.Frag} {H : Hp} : ∀ {ds : List Dat} {vs : List V} {bs : List Bool}, RepA K H vs ds → bools ds = some bs → vs = bs.map V.bl
  | [], _, _, .nil, e => by cases e; rfl
  | .bl b :: ds, _, bs, .cons h1 h2, e => by
    unfold bools at e
    cases q : bools ds with
    | none => rw [q] at e; cases e
    | some cs => rw [q] at e; cases e; cases h1; rw [bools_rep h2 q]; rfl
  | .non :: _, _, _, _, e => by cases e
  | .int _ :: _, _, _, _, e => by cases e
  | .str _ :: _, _, _, _, e => by cases e
  | .tup _ :: _, _, _, _, e => by cases e
  | .lst _ :: _, _, _, _, e => by cases e
  | .scr _ :: _, _, _, _, e => by cases e
  | .dct _ _ :: _, _, _, _, e => by cases e
  | .ins _ _ _ :: _, _, _, _, e => by cases e
  | .dno :: _, _, _, _, e => by cases e
  | .fn _ :: _, _, _, _, e => by cases e
def allD : List Dat → Option Dat
  | [.lst ds] => (bools ds).map fun bs => .bl (bs.all id)
  | _ => none
def anyD : List Dat → Option Dat
  | [.lst ds] => (bools ds).map fun bs => .bl (bs.any id)
  | _ => none
theorem de_all (hc : X.calm = true) (hg : Gl X "all") (hm : X.mg "all" = none) (ha : DA X W [e] ga) (he : starEach [e] X.env = (false, eval e X.env) :: starEach [] X.env := by rfl) : DE X W (.Call (.Name "all" p) [e] [] pos) (ga.bi allD) :=
  de_callB (cr_all hc) (fun H H0 xs ds dz Q s hx e q => by
    unfold allD at e
    split at e
    · rename_i ds
      cases eb : bools ds with
      | none => rw [eb] at e; cases e
      | some bs =>
        rw [eb] at e; cases e
        cases hx with
        | cons h1 h2 =>
          cases h2
          cases h1 with
          | @lst a vs ds h1 h2 =>
            have ev := bools_rep h2 eb
            subst ev
            exact ⟨a, bs, rfl, .inl (sameRd s h1), q _ H H0 (Grow.refl s) (.bl _)⟩
    · cases e) hg hm (by decide +kernel) ha (by decide) (by decide) he
theorem de_any (hc : X.calm = true) (hg : Gl X "any") (hm : X.mg "any" = none) (ha : DA X W [e] ga) (he : starEach [e] X.env = (false, eval e X.env) :: starEach [] X.env := by rfl) : DE X W (.Call (.Name "any" p) [e] [] pos) (ga.bi anyD) :=
  de_callB (cr_any hc) (fun H H0 xs ds dz Q s hx e q => by
    unfold anyD at e
    split at e
    · rename_i ds
      cases eb : bools ds with
      | none => rw [eb] at e; cases e
      | some bs =>
        rw [eb] at e; cases e
        cases hx with
        | cons h1 h2 =>
          cases h2
          cases h1 with
          | @lst a vs ds h1 h2 =>
            have ev := bools_rep h2 eb
            subst ev
            exact ⟨a, bs, rfl, .inl (sameRd s h1), q _ H H0 (Grow.refl s) (.bl _)⟩
    · cases e) hg hm (by decide +kernel) ha (by decide) (by decide) he
end
end Sv

set_option Elab.async false
set_option linter.all false
set_option maxRecDepth 100000
set_option maxHeartbeats 1000000
namespace L2
open PySem PySem.Spec PyProof.Rows
/-- tuple.index of flat things -/
def rIndexT (K : PySem.W.Frag) : V → List V → Hp → VK → Prop := fun x xs H Q => ∃ (a : Addr) (ys : List V) (y : V) (j : Nat) (z : V), x = V.ref a ∧ xs = [y] ∧ SqT K H a ys ∧ flatV y = true ∧ ys.all flatV = true ∧ ys[j]? = some z ∧ eqV z y = true ∧
  (∀ (m : Nat) (z' : V), m < j → ys[m]? = some z' → eqV z' y = false) ∧ Q (.int (j : Nat)) H
theorem mt_indexT {X : Cx} : MtR X "tuple.index" (rIndexT X.K) := by
  intro pins s σ H x xs v us Q I rx rxs h
  obtain ⟨a, ys, y, j, z, rfl, rfl, hs, fy, fys, hz, hzj, hno, q⟩ := h
  cases rx
  cases rxs with
  | cons ry rt =>
    rename_i uy ut
    cases rt
    obtain ⟨its, rv, ⟨⟨cls, dd, dt, sl⟩, ho, hc, n, hd⟩, hlen⟩ := I.tuple hs
    simp only at hc hd
    subst hc
    subst hd
    obtain ⟨u, hu, ru⟩ := rv.get hz
    obtain ⟨hjl, hje⟩ := List.getElem?_eq_some_iff.mp hu
    have hvl := rv.length
    have hj : j < its.toArray.size := by simpa using hjl
    refine call_meets PySem.F.slot_tuple_index ⟨_, ho, rfl⟩ PySem.F.entry_tuple_index (PySem.F.args_tuple_index_2 _ _) (TI.tuple_indexAt a its.toArray n dd sl uy (eqU y) j hj ?_ ?_)
      ⟨ho, fun u' hu' => mem_eqAt ry fy rv fys u' (by simpa using hu'), ⟨.int (j : Nat), H, I.tok _, ⟨_, rfl⟩, q⟩⟩
    · have e1 : its.toArray[j] = u := by simpa using hje
      rw [e1, eqU_of ru (flat_at fys hz)]
      exact hzj
    · intro m hm hmj
      have hml : m < its.length := by simpa using hm
      have hmy : m < ys.length := by omega
      have hy' : ys[m]? = some ys[m] := List.getElem?_eq_getElem hmy
      obtain ⟨u2, hu2, ru2⟩ := rv.get hy'
      obtain ⟨_, hme⟩ := List.getElem?_eq_some_iff.mp hu2
      have e1 : its.toArray[m] = u2 := by simpa using hme
      rw [e1, eqU_of ru2 (flat_at fys hy')]
      exact hno m _ hmj hy'
section
variable {X : Cx} {o e : Expr} {es : List Expr} {to : TE} {t : TA} {name : Str} {apos cpos : Pos} {T id : String} {r : V → List V → Hp → VK → Prop}
/-- a method of a list or a tuple, by values: the rule is chosen by what stands there -/
def tBMT (K : PySem.W.Frag) (r : V → List V → Hp → VK → Prop) (to : TE) (t : TA) : TE := fun σ H Q => to σ H fun x H1 => (∃ a vs, x = .ref a ∧ Sv.TupAt K H1 a vs) ∧ t σ H1 fun xs H2 => r x xs H2 Q
theorem pe_bmT (pa : PlainAttrs "tuple") (slot : Slot "tuple" name id) (hty : typeOf (.builtin id) = pure (.type "method_descriptor")) (hm : MtR X id r) (ho : PE X o to) (ha : PA X (e :: es) t)
    (hbase : attributeBase o name X.env (eval o X.env) = eval o X.env := by rfl)
    (hfew : ((backTo cpos (starEach (e :: es) X.env)).all (fun x => !x.1) && (backToKw cpos (keywordEach [] X.env)).all (fun x => x.1.isSome)
      && decide ((e :: es).length + ([] : List Keyword).length + (if ([] : List Keyword).isEmpty then 0 else 1) < 30)) = true := by rfl)
    (hline : (apos.endLine == cpos.line) = true := by rfl) (hs : starEach (e :: es) X.env = (false, eval e X.env) :: starEach es X.env := by rfl) (hplain : (backTo cpos (starEach es X.env)).any (·.1) = false := by rfl) :
    PE X (.Call (.Attribute o name apos) (e :: es) [] cpos) (tBMT X.K r to t) := by
  refine ⟨fun pins s σ H Q I h => ?_⟩
  refine wpAny_Call_method_late hbase hfew hline rfl (thn (ho.run pins s σ H _ I h) fun v s1 ⟨x, H1, I1, r1, ty, q1⟩ => ?_)
  have hh : s1.TypeIs v "tuple" ∧ ∀ a, v = .ref a → ∃ ob, s1.heap.get? a = some ob ∧ ob.dict = none := by
    obtain ⟨a, vs, rfl, ht⟩ := ty
    cases r1
    rcases ht with ⟨ob, he, hd⟩ | ⟨ob, its, n, h1, h2, h3, h4, h5, h6⟩
    · obtain ⟨e1, _, _, _, o2, e2, c2, _⟩ := (show ObjOk X.prog X.w H1 s1.heap a (.frz ob (.tup vs)) from I1.hok a _ he)
      rw [e1] at e2; cases e2
      exact ⟨⟨ob, e1, c2⟩, fun b e => by cases e; exact ⟨ob, e1, hd⟩⟩
    · exact ⟨⟨ob, I1.kIn _ _ h1, h2⟩, fun b e => by cases e; exact ⟨ob, I1.kIn _ _ h1, h3⟩⟩
  refine ⟨"tuple", id, pa, slot, hty, hh.1, hh.2, ?_⟩
  have hA := ha.run cpos pins s1 σ H1 _ I1 q1
  rw [hs] at hA ⊢
  refine Calls.callWith_builtin (by show (false || (backTo cpos (starEach es X.env)).any (·.1)) = false; rw [hplain] <;> rfl) (Calls.evalArgs_plain ?_)
  exact thn hA fun us s2 ⟨vs, H2, I2, r2, q2⟩ => hm pins s2 σ H2 x vs v us Q I2 r1 r2 q2
end
end L2
namespace Sv
open PySem L2 PyProof.Rows
section
variable {X : Cx} {W : WX} {e a b c : Expr} {f g h : M Dat} {pos p apos : Pos} {ga : M (List Dat)}
/-- the first place of an item that is equal -/
def indexF (y : Dat) : List Dat → Option Nat
  | [] => none
  | d :: ds => if eqF d y = true then some 0 else (indexF y ds).map (· + 1)
theorem indexF_spec {K : PySem.W.Frag} {H : Hp} {y : Dat} {u : V} (hu : Rep K H u y) : ∀ {ds : List Dat} {vs : List V} {j : Nat}, RepA K H vs ds → indexF y ds = some j →
    ∃ z, vs[j]? = some z ∧ eqV z u = true ∧ ∀ (m : Nat) (z' : V), m < j → vs[m]? = some z' → eqV z' u = false
  | [], _, _, _, e => by cases e
  | d :: ds, v :: vs, j, .cons h1 h2, e => by
    unfold indexF at e
    by_cases hq : eqF d y = true
    · rw [if_pos hq] at e; cases e
      exact ⟨v, rfl, by rw [eqF_rep h1 hu]; exact hq, fun m _ hm => by omega⟩
    · rw [if_neg hq] at e
      cases q : indexF y ds with
      | none => rw [q] at e; cases e
      | some i =>
        rw [q] at e
        have e : some (i + 1) = some j := e
        cases e
        obtain ⟨z, q1, q2, q3⟩ := indexF_spec hu h2 q
        refine ⟨z, q1, q2, fun m z' hm hz => ?_⟩
        cases m with
        | zero =>
          have hz : some v = some z' := hz
          cases hz
          rw [eqF_rep h1 hu]
          simpa using hq
        | succ m => exact q3 m z' (by omega) hz
def indexD (ds : List Dat) (y : Dat) : Option Dat := if flatD y = true ∧ ds.all flatD = true then (indexF y ds).map fun j => .int (j : Nat) else none
/-- t.index(x), xs.index(x) -/
def M.idxT (f g : M Dat) : M Dat := f.bnd fun d => match d with
  | .tup ds => g.bnd fun y => M.lift (indexD ds y)
  | _ => fun _ => .stuck
def M.idxL (f g : M Dat) : M Dat := f.bnd fun d => match d with
  | .lst ds => g.bnd fun y => M.lift (indexD ds y)
  | _ => fun _ => .stuck
theorem indexD_some {K : PySem.W.Frag} {H : Hp} {ds : List Dat} {vs : List V} {y dz : Dat} {u : V} (hu : Rep K H u y) (h2 : RepA K H vs ds) (e : indexD ds y = some dz) : ∃ j z, dz = .int (j : Nat) ∧ flatV u = true ∧ vs.all flatV = true ∧ vs[j]? = some z ∧ eqV z u = true ∧ ∀ (m : Nat) (z' : V), m < j → vs[m]? = some z' → eqV z' u = false := by
  unfold indexD at e
  by_cases hf : flatD y = true ∧ ds.all flatD = true
  · rw [if_pos hf] at e
    cases q : indexF y ds with
    | none => rw [q] at e; cases e
    | some j =>
      rw [q] at e
      have e : some (Dat.int (j : Nat)) = some dz := e
      cases e
      obtain ⟨z, z1, z2, z3⟩ := indexF_spec hu h2 q
      exact ⟨j, z, rfl, (flat_rep hu).trans hf.1, (flat_all h2).trans hf.2, z1, z2, z3⟩
  · rw [if_neg hf] at e; cases e
theorem de_indexT (ha : DE X W a f) (hb : DE X W b g) (hbase : attributeBase a "index" X.env (eval a X.env) = eval a X.env := by rfl)
    (hfew : ((backTo pos (starEach [b] X.env)).all (fun x => !x.1) && (backToKw pos (keywordEach [] X.env)).all (fun x => x.1.isSome) && decide ([b].length + ([] : List Keyword).length + (if ([] : List Keyword).isEmpty then 0 else 1) < 30)) = true := by rfl)
    (hline : (apos.endLine == pos.line) = true := by rfl) (hs : starEach [b] X.env = (false, eval b X.env) :: starEach [] X.env := by rfl) :
    DE X W (.Call (.Attribute a "index" apos) [b] [] pos) (f.idxT g) :=
  PE.imp (pe_bmT PySem.F.plainAttrs_tuple PySem.F.slot_tuple_index PySem.F.type_tuple_index mt_indexT ha (pa_cons hb pa_nil hs) hbase hfew hline hs) fun σ H Q ⟨z, H0, ρ, r, q⟩ => part r q fun d v H1 G1 ρ1 r1 s1 hv q1 => by
    cases d with
    | tup ds =>
      cases hv with
      | @tup ad vs _ h1 h2 =>
        refine ⟨⟨ad, vs, rfl, h1.mono r1.sub⟩, part r1 q1 fun y u H2 G2 ρ2 r2 s2 hu q2 => ?_⟩
        obtain ⟨dz, e, q3⟩ := Run.lift q2
        obtain ⟨j, z, rfl, f1, f2, z1, z2, z3⟩ := indexD_some hu (h2.mono s2) e
        exact ⟨ad, vs, u, j, z, rfl, rfl, (h1.mono (s2.trans r2.sub)).sq, f1, f2, z1, z2, z3, q3 H2 G2 r2 (Same.refl _) _ (.int _)⟩
    | _ => exact q1.elim
theorem de_indexL (ha : DE X W a f) (hb : DE X W b g) (hbase : attributeBase a "index" X.env (eval a X.env) = eval a X.env := by rfl)
    (hfew : ((backTo pos (starEach [b] X.env)).all (fun x => !x.1) && (backToKw pos (keywordEach [] X.env)).all (fun x => x.1.isSome) && decide ([b].length + ([] : List Keyword).length + (if ([] : List Keyword).isEmpty then 0 else 1) < 30)) = true := by rfl)
    (hline : (apos.endLine == pos.line) = true := by rfl) (hs : starEach [b] X.env = (false, eval b X.env) :: starEach [] X.env := by rfl) :
    DE X W (.Call (.Attribute a "index" apos) [b] [] pos) (f.idxL g) :=
  PE.imp (pe_bm PySem.F.plainAttrs_list PySem.F.slot_list_index PySem.F.type_list_index mt_index ha (pa_cons hb pa_nil hs) hbase hfew hline hs) fun σ H Q ⟨z, H0, ρ, r, q⟩ => part r q fun d v H1 G1 ρ1 r1 s1 hv q1 => by
    cases d with
    | lst ds =>
      cases hv with
      | @lst ad vs _ h1 h2 =>
        refine ⟨.inl ⟨rfl, vs, .inl (sameRd r1.sub h1)⟩, part r1 q1 fun y u H2 G2 ρ2 r2 s2 hu q2 => ?_⟩
        obtain ⟨dz, e, q3⟩ := Run.lift q2
        obtain ⟨j, z, rfl, f1, f2, z1, z2, z3⟩ := indexD_some hu (h2.mono s2) e
        exact ⟨ad, vs, u, j, z, rfl, rfl, .inl (sameRd (s2.trans r2.sub) h1), f1, f2, z1, z2, z3, q3 H2 G2 r2 (Same.refl _) _ (.int _)⟩
    | _ => exact q1.elim
/-! ### isinstance with a built-in class -/
def tyN : Dat → String
  | .non => "NoneType"
  | .bl _ => "bool"
  | .int _ => "int"
  | .str _ => "str"
  | .tup _ => "tuple"
  | .lst _ => "list"
  | .scr _ => "list"
  | .dct _ _ => "dict"
  | .ins _ _ _ => "object"
  | .dno => "dict"
  | .fn _ => "object"
def isIns : Dat → Bool
  | .ins _ _ _ => true
  | .dno => true
  | .fn _ => true
  | _ => false
theorem tyX_rep {K : PySem.W.Frag} {H H0 : Hp} {v : V} {d : Dat} (s : Same H0 H) (hi : isIns d = false) (h : Rep K H0 v d) : TyX K H v (.type (tyN d)) := by
  cases h with
  | non => exact .base .non
  | bl b => exact .base (.bl b)
  | int i => exact .base (.int i)
  | str x => exact .base (.str x)
  | tup h1 _ =>
    rcases h1 with ⟨o, h1, _⟩ | ⟨o, its, n, h1, h2, _⟩
    · exact .fTuple (s _ _ h1)
    · exact .kTuple h1 h2
  | lst h1 _ =>
    rcases h1 with h1 | ⟨o, h1⟩
    · exact .base (.lst (s _ _ h1))
    · exact .base (.frz (s _ _ h1))
  | scr h1 _ =>
    rcases h1 with (h1 | ⟨o, h1⟩) | ⟨o, its, n, h1, h2, _⟩
    · exact .base (.lst (s _ _ h1))
    · exact .base (.frz (s _ _ h1))
    · exact .kList h1 h2
  | dct h1 _ _ => exact .fDict (s _ _ h1)
  | ins _ _ _ _ => cases hi
  | dno _ _ _ => cases hi
  | fn _ => cases hi
def tyNames : List String := ["NoneType", "bool", "int", "str", "tuple", "list", "dict", "object"]
theorem tyN_mem (d : Dat) : tyN d ∈ tyNames := by cases d <;> simp [tyN, tyNames]
/-- the question's answers by the value's type -/
def isTab (T : String) (tb : String → Bool) : Bool := tyNames.all fun s => decide (kitB s T = some (tb s))
def isiD (tb : String → Bool) (d : Dat) : Option Dat := if isIns d = true then (match d with
  | .dno => some (.bl (tb "dict"))
  | _ => none) else some (.bl (tb (tyN d)))
/-- isinstance, also of the dict with the key None -/
def rIsiE (K : PySem.W.Frag) : List V → Hp → VK → Prop := fun xs H Q => rIsi K xs H Q ∨ ∃ (a : Addr) (o : Obj) (c : V) (u : Value) (b : Bool), xs = [.ref a, c] ∧ ClsV c u ∧ H a = some (.ext (NoD a o)) ∧ NoO o ∧ PySem.W.kitOne K (.type "dict") u = some b ∧ Q (.bl b) H
theorem call_isiE : CallR X (.builtin "isinstance") (rIsiE X.K) := by
  intro pins s σ H xs us Q I r h
  rcases h with h | ⟨a, o, c, u, b, rfl, kc, ha, ho, e, q⟩
  · exact call_isi pins s σ H xs us Q I r h
  · obtain ⟨u1, u2, rfl, r1, r2⟩ := vals2 r
    obtain rfl := kc.eq r2
    cases (show u1 = Value.ref a from r1)
    obtain ⟨h1, _⟩ := (show ObjOk X.prog X.w H s.heap a (.ext (NoD a o)) from I.hok a _ ha)
    exact PySem.W.kia_one PySem.W.kitx_dict I.kIn ⟨o, h1, ho.1.1⟩ e (fun z => nomatch z) fun tk => ⟨.bl b, H, I.tok tk, rfl, q⟩
theorem de_isi {T : String} {x : Str} {pn : Pos} (tb : String → Bool) (ht : isTab T tb = true) (hg : Gl X "isinstance") (hm : X.mg "isinstance" = none) (hg2 : Gl X x) (hm2 : X.mg x = none) (hv2 : bootBuiltins x = some (.type T)) (ha : DE X W a f) (hn2 : x ≠ "__name__" := by decide) (hd2 : (x == ("__debug__" : Str)) = false := by decide)
    (hs1 : starEach [a, .Name x pn] X.env = (false, eval a X.env) :: starEach [.Name x pn] X.env := by rfl) (hs2 : starEach [.Name x pn] X.env = (false, eval (.Name x pn) X.env) :: starEach [] X.env := by rfl) (hpl : (backTo pos (starEach [.Name x pn] X.env)).any (·.1) = false := by rfl) :
    DE X W (.Call (.Name "isinstance" p) [a, .Name x pn] [] pos) (f.un1 (isiD tb)) :=
  PE.imp (pe_callB call_isiE hg hm (by decide +kernel) (pa_cons ha (pa_cons (pe_bltn (v := .ty T) hg2 hm2 hv2 rfl hn2 hd2) pa_nil hs2) hs1) (by decide) (by decide) hs1 hpl) fun σ H Q ⟨z, H0, ρ, r, q⟩ => part r q fun d v H1 G1 ρ1 r1 s1 hv q1 => by
    obtain ⟨dz, e, q2⟩ := Run.lift q1
    unfold isiD at e
    cases hi : isIns d with
    | true =>
      rw [hi, if_pos rfl] at e
      cases d with
      | dno =>
        cases e
        cases hv with
        | @dno ad o h1 h2 _ =>
          have hk : kitB "dict" T = some (tb "dict") := of_decide_eq_true (List.all_eq_true.mp ht _ (tyN_mem .dno))
          exact .inr ⟨ad, o, .ty T, _, _, rfl, .ty T, r1.sub _ _ h1, h2, kit_ty hk, q2 H1 G1 r1 (Same.refl _) _ (.bl _)⟩
      | _ => cases e
    | false =>
    rw [hi, if_neg Bool.false_ne_true] at e
    cases e
    have hk : kitB (tyN d) T = some (tb (tyN d)) := of_decide_eq_true (List.all_eq_true.mp ht _ (tyN_mem d))
    exact .inl ⟨v, .ty T, _, _, _, rfl, .ty T, tyX_rep r1.sub hi hv, kit_ty hk, q2 H1 G1 r1 (Same.refl _) _ (.bl _)⟩
/-! ### a < b < c -/
def M.chain (f g h : M Dat) (o1 o2 : Dat → Dat → Option Dat) : M Dat := f.bnd fun x => g.bnd fun y => (M.isB (M.lift (o1 x y))).bnd fun k => if k = true then h.bnd fun z => M.lift (o2 y z) else M.ret (.bl false)
theorem de_chain {op op' : CmpOp} {r r' : R2} {o1 o2 : Dat → Dat → Option Dat} (ho : OpR X (compareOp op) r) (ho' : OpR X (compareOp op') r') (s1 : Snd2 X.K r o1) (s2 : Snd2 X.K r' o2) (ha : DE X W a f) (hb : DE X W b g) (hc : DE X W c h)
    (hm : lastMarks [op, op'] [b, c] = false := by with_unfolding_all rfl) : DE X W (.Compare a [op, op'] [b, c] pos) (M.chain f g h o1 o2) :=
  PE.imp (pe_chain ho ho' ha hb hc hm) fun σ H Q ⟨z, H0, ρ, rl, q⟩ => part rl q fun dx x H1 G1 ρ1 r1 t1 hx q1 => part r1 q1 fun dy y H2 G2 ρ2 r2 t2 hy q2 => by
    unfold M.isB at q2
    rw [bnd_assoc] at q2
    have q2 := Run.bnd q2
    obtain ⟨dk, e, q3⟩ := Run.lift q2
    refine s1 H2 G2 x y dx dy dk _ r2.sub (hx.mono t2) hy e fun v H' H0' g hv => ?_
    have q4 := q3 H' H0' (g.rel r2) g.s
    cases dk with
    | bl k =>
      cases hv
      refine ⟨k, rfl, ?_⟩
      cases k with
      | true =>
        rw [if_pos rfl]
        refine part (g.rel r2) q4 fun dz w H3 G3 ρ3 r3 t3 hw q5 => ?_
        obtain ⟨de, e2, q6⟩ := Run.lift q5
        exact s2 H3 G3 y w dy dz de Q r3.sub (hy.mono (g.s.trans t3)) hw e2 fun v H4 G4 g4 hv => q6 H4 G4 (g4.rel r3) g4.s v hv
      | false =>
        rw [if_neg Bool.false_ne_true]
        exact q4 H' H0' (g.rel r2) (Same.refl _) _ (.bl false)
    | _ => exact q4.elim
/-! ### a, b = e; what cannot be reached; constants of the module -/
def unpO (f : M Dat) (t : Tg) : En → O := fun ρ => (f ρ).toO fun d ρ' => match setT t d ρ' with
  | some ρ2 => .nxt ρ2
  | none => .stuck
theorem ds_unp (t : Tg) {tg : Expr} (he : DE X W e f) (hg : PG X tg (gT X.K t)) (hs : swapsWithSole [tg] e pos.line X.env = pure false := by rfl) (hw : swappedStores [tg] e X.env = pure none := by rfl) (h1 : (assignEach [tg] X.env).map (·.2) = [assign tg X.env] := by rfl) : DS X W (.Assign [tg] e pos) (unpO f t) :=
  PS.imp (ps_asg he hg hs hw h1) fun D σ H ⟨z, H0, ρ, r, q⟩ => sp (α := Dat) r q fun d v H' H1 ρ' r' s' hv q' => by
    cases q1 : setT t d ρ' with
    | none => rw [q1] at q'; exact q'.elim
    | some ρ2 => rw [q1] at q'; exact gT_run r' hv q1 fun σ' r2 _ => q' σ' H' H1 r2 (Same.refl _)
theorem ds_never {st : Stmt} : DS X W st (fun _ => .stuck) := PS.imp ps_never fun D σ H ⟨z, H0, ρ, r, q⟩ => q.elim
theorem de_never : DE X W e (fun _ => .stuck) := ⟨fun pins s σ H Q I ⟨z, H0, ρ, r, q⟩ => q.elim⟩
/-- what the written part holds at a value -/
def KRep (K : PySem.W.Frag) (v : V) (d : Dat) : Prop := ∀ H, Rep K H v d
theorem KRep.int {K : PySem.W.Frag} (i : Int) : KRep K (.int i) (.int i) := fun _ => .int i
theorem KRep.str {K : PySem.W.Frag} (i : Str) : KRep K (.str i) (.str i) := fun _ => .str i
theorem KRep.non {K : PySem.W.Frag} : KRep K .non .non := fun _ => .non
theorem KRep.tup {K : PySem.W.Frag} {ad : Addr} {o : Obj} {its : List Value} {n : Nat} {vs : List V} {ds : List Dat} (h1 : K.lookup ad = some o) (h2 : o.cls = .type "tuple") (h3 : o.dict = none) (h4 : o.data = .seq its.toArray n) (h5 : its.length ≤ 1000000) (h6 : Vals vs its)
    (h : ∀ H, RepA K H vs ds) : KRep K (.ref ad) (.tup ds) := fun H => .tup (.inr ⟨o, its.toArray, n, h1, h2, h3, h4, by rw [List.size_toArray]; exact sz h5, by simpa using h6⟩) (h H)
theorem de_glob {x : Str} {v : V} {d : Dat} {u : Value} (hg : Gl X x) (hm : X.mg x = some u) (r : RelV v u) (h : KRep X.K v d) (hd : (x == ("__debug__" : Str)) = false := by decide) : DE X W (.Name x pos) (M.ret d) :=
  PE.imp (pe_glob hg hm r hd) fun σ H Q ⟨z, H0, ρ, r, q⟩ => q H H0 r (Same.refl _) v (h H0)
end
end Sv

set_option Elab.async false
set_option linter.all false
set_option maxRecDepth 100000
set_option maxHeartbeats 1000000
namespace Sv
open PySem L2 PyProof.Rows
/-! ## calls with keywords and defaults -/
def pick {α : Type} (ix : List Nat) (l : List α) : List α := ix.filterMap (l[·]?)
theorem pick_vals {vs : List V} {us : List Value} (r : Vals vs us) : ∀ ix : List Nat, Vals (pick ix vs) (pick ix us)
  | [] => .nil
  | i :: ix => by
    have ih := pick_vals r ix
    unfold pick at ih ⊢
    rw [List.filterMap_cons, List.filterMap_cons]
    cases h : vs[i]? with
    | none => rw [r.none_of h]; exact ih
    | some v =>
      obtain ⟨u, h1, h2⟩ := r.get h
      rw [h1]
      exact .cons h2 ih
theorem pick_rep {K : PySem.W.Frag} {H : Hp} {vs : List V} {ds : List Dat} (r : RepA K H vs ds) : ∀ ix : List Nat, RepA K H (pick ix vs) (pick ix ds)
  | [] => .nil
  | i :: ix => by
    have ih := pick_rep r ix
    unfold pick at ih ⊢
    rw [List.filterMap_cons, List.filterMap_cons]
    cases h : ds[i]? with
    | none =>
      have : vs[i]? = none := by
        rw [List.getElem?_eq_none_iff] at h ⊢
        rw [r.length]; exact h
      rw [this]; exact ih
    | some d =>
      obtain ⟨v, h1, h2⟩ := r.get h
      rw [h1]
      exact .cons h2 ih
/-- how a call binds: n values by place, keywords ks, the defaults dvs; ix: where each parameter's value stands among them -/
structure KBd (K : PySem.W.Frag) (fd : FuncData) (ps : List Str) (n : Nat) (ks : List Str) (ix : List Nat) (dvs : List V) : Prop where
  ex : ∃ ds : List Value, Vals dvs ds ∧ ∀ (s : Shared) (us ws : List Value), K.In s.heap → us.length = n → ws.length = ks.length → BindsTo s fd ⟨us, ks.zip ws⟩ (ps.zip (pick ix (us ++ ws ++ ds)))
section
variable {X : Cx} {W : WX} {e a b : Expr} {f g : M Dat} {ga gk : M (List Dat)} {pos p kpos : Pos} {x : Str} {es : List Expr} {k n m : Nat} {fa : Addr} {fd : FuncData} {ps ks : List Str} {ix : List Nat} {G : List Dat → O} {dvs : List V} {dds : List Dat} {kws : List Keyword} {nm : Option Str} {sp : Sp} {E : L2.St → XK} {t tk : TA}
def DK (X : Cx) (W : WX) (kws : List Keyword) (f : M (List Dat)) : Prop := PK X kws (tDA (cc X W) f)
theorem PK.imp {t t' : TA} (h : PK X kws t) (m : ∀ σ H Q, t' σ H Q → t σ H Q) : PK X kws t' := ⟨fun pos pins s σ H Q I q => h.run pos pins s σ H Q I (m σ H Q q)⟩
theorem dk_nil : DK X W [] (M.ret []) := PK.imp pk_nil fun σ H Q ⟨z, H0, ρ, r, q⟩ => q H H0 r (Same.refl _) _ .nil
theorem dk_cons (ha : DE X W e f) (hr : DK X W kws ga) : DK X W (⟨nm, e, kpos⟩ :: kws) (f.cons ga) :=
  PK.imp (pk_cons ha hr) fun σ H Q ⟨z, H0, ρ, rl, q⟩ => part rl q fun dx x H1 G1 ρ1 r1 s1 hx q1 => partA r1 q1 fun ds xs H2 G2 ρ2 r2 s2 hxs q2 =>
    q2 H2 G2 r2 (Same.refl _) _ (.cons (hx.mono s2) hxs)
def tCallX (n m : Nat) (sp : L2.Sp) (ix : List Nat) (dvs : List V) (E : L2.St → XK) (t tk : TA) : TE := fun σ H Q => t σ H fun vs H1 => tk σ H1 fun zs H2 => vs.length = n ∧ zs.length = m ∧ sp (pick ix (vs ++ zs ++ dvs)) H2 Q (E σ)
theorem run_fnX {pins : List (Addr × Obj)} {σ : L2.St} {H : Hp} {s : Shared} {Q : VK} {us ws : List Value} {vs zs : List V} (F : FnG X.prog X.w X.K X.mg X.base (L2.CX X.prog X.w) k fa fd ps sp) (hr : RoomG k X.A) (hb : KBd X.K fd ps n ks ix dvs) (hx : PassesAt (L2.CX X.prog X.w) X σ (E σ))
    (I : Inv X pins σ H s) (r : Vals vs us) (rz : Vals zs ws) (l1 : vs.length = n) (l2 : zs.length = ks.length) (h : sp (pick ix (vs ++ zs ++ dvs)) H Q (E σ)) : wpAny (model X.prog X.w) X.A (call (.ref fa) us (ks.zip ws)) (EP X pins σ Q) X.xe s := by
  obtain ⟨ds, rd, to⟩ := hb.ex
  have r2 := pick_vals ((r.append rz).append rd) ix
  refine wpAny_call (codeAny_mono (F.run X.A X.stack s H ⟨us, ks.zip ws⟩ (pick ix (us ++ ws ++ ds)) (pick ix (vs ++ zs ++ dvs)) Q (E σ) hr I.env0 (to s us ws I.kIn (r.length.symm.trans l1) (rz.length.symm.trans l2)) r2 h) fun r s' hq => ?_)
  cases r with
  | error e => exact hx pins H s e s' I hq
  | ok fl =>
    cases fl with
    | ret u => exact I.after hq
    | next => exact False.elim hq
    | brk => exact False.elim hq
    | cont => exact False.elim hq
theorem pe_callX (F : FnG X.prog X.w X.K X.mg X.base (L2.CX X.prog X.w) k fa fd ps sp) (hr : RoomG k X.A) (hg : Gl X x) (hm : X.mg x = some (.ref fa)) (hk : PySem.W.keepIn X.K (.ref fa) = true) (hb : KBd X.K fd ps n ks ix dvs) (hx : ∀ σ, PassesAt (L2.CX X.prog X.w) X σ (E σ))
    (ha : PA X (e :: es) t) (hkw : PK X kws tk) (hall : (backToKw pos (keywordEach kws X.env)).all (·.1.isSome) = true := by rfl) (hks : (backToKw pos (keywordEach kws X.env)).filterMap (·.1) = ks := by rfl)
    (hdb : (x == ("__debug__" : Str)) = false := by decide) (he : starEach (e :: es) X.env = (false, eval e X.env) :: starEach es X.env := by rfl)
    (hpl : ((backTo pos (starEach (e :: es) X.env)).any (·.1) || (backToKw pos (keywordEach kws X.env)).any (·.1.isNone)) = false := by rfl) :
    PE X (.Call (.Name x p) (e :: es) kws pos) (tCallX n ks.length sp ix dvs E t tk) := by
  refine ⟨fun pins s σ H Q I h => ?_⟩
  refine wpAny_Call_Name_kw (ld_glob I hg hm ?_ hdb)
  refine PySem.W.callWith_KW (h₀ := X.base) I.ok.mod.kin hk hall (thn (ha.run pos pins s σ H _ I h) fun us s1 ⟨vs, H1, I1, r, q⟩ => ?_) hpl he
  refine thn (hkw.run pos pins s1 σ H1 _ I1 q) fun ws s2 ⟨zs, H2, I2, rz, l1, l2, q2⟩ => ⟨I2.kIn, ?_⟩
  rw [hks]
  exact run_fnX F hr hb (hx σ) I2 r rz l1 l2 q2
theorem pe_callX0 (F : FnG X.prog X.w X.K X.mg X.base (L2.CX X.prog X.w) k fa fd ps sp) (hr : RoomG k X.A) (hg : Gl X x) (hm : X.mg x = some (.ref fa)) (hk : PySem.W.keepIn X.K (.ref fa) = true) (hb : KBd X.K fd ps 0 ks ix dvs) (hx : ∀ σ, PassesAt (L2.CX X.prog X.w) X σ (E σ))
    (hkw : PK X kws tk) (hall : (backToKw pos (keywordEach kws X.env)).all (·.1.isSome) = true := by rfl) (hks : (backToKw pos (keywordEach kws X.env)).filterMap (·.1) = ks := by rfl)
    (hdb : (x == ("__debug__" : Str)) = false := by decide)
    (hpl : ((backTo pos (starEach [] X.env)).any (·.1) || (backToKw pos (keywordEach kws X.env)).any (·.1.isNone)) = false := by rfl) :
    PE X (.Call (.Name x p) [] kws pos) (tCallX 0 ks.length sp ix dvs E tNil tk) := by
  refine ⟨fun pins s σ H Q I h => ?_⟩
  refine wpAny_Call_Name_kw (ld_glob I hg hm ?_ hdb)
  refine PySem.W.callWith_KW0 (h₀ := X.base) I.ok.mod.kin hk hall ?_ hpl
  refine thn (hkw.run pos pins s σ H _ I h) fun ws s2 ⟨zs, H2, I2, rz, l1, l2, q2⟩ => ⟨I2.kIn, ?_⟩
  rw [hks]
  exact run_fnX (us := []) F hr hb (hx σ) I2 .nil rz l1 l2 q2
def M.callK (ga gk : M (List Dat)) (ix : List Nat) (dds : List Dat) (G : List Dat → O) : M Dat := ga.bnd fun ds => gk.bnd fun zs ρ => callR (G (pick ix (ds ++ zs ++ dds))) ρ
theorem de_callK (tk : Takes X W) (F : FnG X.prog X.w X.K X.mg X.base (L2.CX X.prog X.w) k fa fd ps (spP X.K X.mg ps.length G)) (hr : RoomG k X.A) (hg : Gl X x) (hm : X.mg x = some (.ref fa)) (hk : PySem.W.keepIn X.K (.ref fa) = true) (hb : KBd X.K fd ps n ks ix dvs) (hdd : ∀ H, RepA X.K H dvs dds)
    (hn : ∀ ρ ds ρ', ga ρ = .ok ds ρ' → ds.length = n) (hm' : ∀ ρ ds ρ', gk ρ = .ok ds ρ' → ds.length = ks.length) (hix : ix.length = ps.length) (hlt : ∀ i ∈ ix, i < n + ks.length + dds.length)
    (ha : DA X W (e :: es) ga) (hkw : DK X W kws gk) (hall : (backToKw pos (keywordEach kws X.env)).all (·.1.isSome) = true := by rfl) (hks : (backToKw pos (keywordEach kws X.env)).filterMap (·.1) = ks := by rfl)
    (hdb : (x == ("__debug__" : Str)) = false := by decide) (he : starEach (e :: es) X.env = (false, eval e X.env) :: starEach es X.env := by rfl)
    (hpl : ((backTo pos (starEach (e :: es) X.env)).any (·.1) || (backToKw pos (keywordEach kws X.env)).any (·.1.isNone)) = false := by rfl) :
    DE X W (.Call (.Name x p) (e :: es) kws pos) (M.callK ga gk ix dds G) :=
  PE.imp (pe_callX F hr hg hm hk hb (fun σ => passAt tk σ) ha hkw hall hks hdb he hpl) fun σ H Q ⟨z, H0, ρ, r, q⟩ => by
    refine ⟨z, H0, ρ, r, ?_⟩
    unfold M.callK at q
    have q := Run.bnd q
    have hn := hn ρ
    cases eg : ga ρ with
    | ok ds ρ1 =>
      rw [eg] at q
      intro H1 G1 r1 s1 vs hv
      refine ⟨z, G1, ρ1, r1, ?_⟩
      have q2 := Run.bnd (q H1 G1 r1 s1)
      have hm' := hm' ρ1
      cases ek : gk ρ1 with
      | ok zs ρ2 =>
        rw [ek] at q2
        intro H2 G2 r2 s2 ws hw
        have l1 := hn ds ρ1 eg
        have l2 := hm' zs ρ2 ek
        refine ⟨by rw [hv.length, l1], by rw [hw.length, l2], G2, pick ix (ds ++ zs ++ dds), r2.sub, pick_rep (((hv.mono s2).app hw).app (hdd G2)) ix, ?_, out_callR r2 (q2 H2 G2 r2 s2)⟩
        rw [← hix]
        have key : ∀ ix : List Nat, (∀ i ∈ ix, i < n + ks.length + dds.length) → (pick ix (ds ++ zs ++ dds)).length = ix.length := by
          intro ix
          induction ix with
          | nil => intro _; rfl
          | cons i ix ih =>
            intro h
            have hi : i < (ds ++ zs ++ dds).length := by rw [List.length_append, List.length_append, l1, l2]; exact h i List.mem_cons_self
            unfold pick
            rw [List.filterMap_cons, List.getElem?_eq_getElem hi]
            show (_ :: pick ix (ds ++ zs ++ dds)).length = _
            rw [List.length_cons, List.length_cons, ih fun j hj => h j (List.mem_cons_of_mem _ hj)]
        exact key ix hlt
      | err cn fs ρ2 => rw [ek] at q2; exact q2
      | stuck => rw [ek] at q2; exact q2
    | err cn fs ρ1 => rw [eg] at q; exact q
    | stuck => rw [eg] at q; exact q
theorem de_callK0 (tk : Takes X W) (F : FnG X.prog X.w X.K X.mg X.base (L2.CX X.prog X.w) k fa fd ps (spP X.K X.mg ps.length G)) (hr : RoomG k X.A) (hg : Gl X x) (hm : X.mg x = some (.ref fa)) (hk : PySem.W.keepIn X.K (.ref fa) = true) (hb : KBd X.K fd ps 0 ks ix dvs) (hdd : ∀ H, RepA X.K H dvs dds)
    (hm' : ∀ ρ ds ρ', gk ρ = .ok ds ρ' → ds.length = ks.length) (hix : ix.length = ps.length) (hlt : ∀ i ∈ ix, i < 0 + ks.length + dds.length)
    (hkw : DK X W kws gk) (hall : (backToKw pos (keywordEach kws X.env)).all (·.1.isSome) = true := by rfl) (hks : (backToKw pos (keywordEach kws X.env)).filterMap (·.1) = ks := by rfl)
    (hdb : (x == ("__debug__" : Str)) = false := by decide)
    (hpl : ((backTo pos (starEach [] X.env)).any (·.1) || (backToKw pos (keywordEach kws X.env)).any (·.1.isNone)) = false := by rfl) :
    DE X W (.Call (.Name x p) [] kws pos) (M.callK (M.ret []) gk ix dds G) :=
  PE.imp (pe_callX0 F hr hg hm hk hb (fun σ => passAt tk σ) hkw hall hks hdb hpl) fun σ H Q ⟨z, H0, ρ, r, q⟩ => by
    unfold M.callK at q
    have q := Run.bnd q
    refine ⟨z, H0, ρ, r, ?_⟩
    have q2 := Run.bnd (q H H0 r (Same.refl _))
    have hm' := hm' ρ
    cases ek : gk ρ with
    | ok zs ρ2 =>
      rw [ek] at q2
      intro H2 G2 r2 s2 ws hw
      have l2 := hm' zs ρ2 ek
      refine ⟨rfl, by rw [hw.length, l2], G2, pick ix ([] ++ zs ++ dds), r2.sub, pick_rep ((RepA.app (ds := []) .nil hw).app (hdd G2)) ix, ?_, out_callR r2 (q2 H2 G2 r2 s2)⟩
      rw [← hix]
      have key : ∀ ix : List Nat, (∀ i ∈ ix, i < 0 + ks.length + dds.length) → (pick ix ([] ++ zs ++ dds)).length = ix.length := by
        intro ix
        induction ix with
        | nil => intro _; rfl
        | cons i ix ih =>
          intro h
          have hi : i < ([] ++ zs ++ dds).length := by rw [List.length_append, List.length_append, l2]; exact h i List.mem_cons_self
          unfold pick
          rw [List.filterMap_cons, List.getElem?_eq_getElem hi]
          show (_ :: pick ix ([] ++ zs ++ dds)).length = _
          rw [List.length_cons, List.length_cons, ih fun j hj => h j (List.mem_cons_of_mem _ hj)]
      exact key ix hlt
    | err cn fs ρ2 => rw [ek] at q2; exact q2
    | stuck => rw [ek] at q2; exact q2
/-- the defaults fill up a call by place: f(e, ..) -/
def M.callD (ga : M (List Dat)) (dds : List Dat) (G : List Dat → O) : M Dat := ga.bnd fun ds ρ => callR (G (ds ++ dds)) ρ
theorem de_callD {dsv : List Value} (tk : Takes X W) (F : FnG X.prog X.w X.K X.mg X.base (L2.CX X.prog X.w) k fa fd ps (spP X.K X.mg m G)) (hr : RoomG k X.A) (hg : Gl X x) (hm : X.mg x = some (.ref fa)) (hk : PySem.W.keepIn X.K (.ref fa) = true) (hb : Binds X.K fd ps dsv) (hd : Vals dvs dsv) (hdd : ∀ H, RepA X.K H dvs dds)
    (hn : ∀ ρ ds ρ', ga ρ = .ok ds ρ' → ds.length = n) (hl : n + dds.length = m)
    (ha : DA X W (e :: es) ga) (hdb : (x == ("__debug__" : Str)) = false := by decide) (he : starEach (e :: es) X.env = (false, eval e X.env) :: starEach es X.env := by rfl) (hpl : (backTo pos (starEach es X.env)).any (·.1) = false := by rfl) :
    DE X W (.Call (.Name x p) (e :: es) [] pos) (ga.callD dds G) :=
  PE.imp (pe_callG F hr hg hm hk hb hd (fun σ => passAt tk σ) ha hdb he hpl) fun σ H Q ⟨z, H0, ρ, r, q⟩ => by
    refine ⟨z, H0, ρ, r, ?_⟩
    unfold M.callD at q
    have q := Run.bnd q
    have hn := hn ρ
    cases eg : ga ρ with
    | ok ds ρ1 =>
      rw [eg] at q
      exact fun H1 G1 r1 s1 vs hv => ⟨G1, ds ++ dds, r1.sub, hv.app (hdd G1), by rw [List.length_append, hn ds ρ1 eg]; exact hl, out_callR r1 (q H1 G1 r1 s1)⟩
    | err cn fs ρ1 => rw [eg] at q; exact q
    | stuck => rw [eg] at q; exact q
end
/-! ## the binding of a def without defaults, by keywords -/
theorem kbd_all {K : PySem.W.Frag} {fd : FuncData} {ps ks : List Str} {n : Nat} {ix : List Nat} (h : ∀ us ws : List Value, us.length = n → ws.length = ks.length → bindArgs fd ⟨us, ks.zip ws⟩ = pure (ps.zip (pick ix (us ++ ws ++ [])))) : KBd K fd ps n ks ix [] :=
  ⟨[], .nil, fun s us ws _ l1 l2 => .of_eq (h us ws l1 l2)⟩
theorem fun_kbd {K : PySem.W.Frag} {x qual : Str} {st : Stmt} {f : Addr} {fd : FuncData} {ps ks : List Str} {n : Nat} {ix : List Nat} (F : Fun K x qual st f fd)
    (h : ∀ (kV doc pm : Value) (an : Option Addr) (cdv ct : Value) (us ws : List Value), us.length = n → ws.length = ks.length → bindArgs (PySem.W.fnOf x qual (defArgs st) (defBody st) (defScope st) .none kV doc pm an cdv ct) ⟨us, ks.zip ws⟩ = pure (ps.zip (pick ix (us ++ ws ++ [])))) : KBd K fd ps n ks ix [] := by
  obtain ⟨oc, od, kV, doc, pm, an, cdv, ct, osl, rfl, lk, hcd⟩ := F.ex
  exact kbd_all (h kV doc pm an cdv ct)
end Sv

set_option Elab.async false
set_option linter.all false
set_option maxRecDepth 100000
set_option maxHeartbeats 1000000
namespace Sv
open PySem L2 PyProof.Rows
section
variable {X : Cx} {W : WX} {e a b c : Expr} {f g h : M Dat} {ga : M (List Dat)} {pos p : Pos} {x : Str} {es : List Expr}
theorem dt_chain {op op' : CmpOp} {r r' : R2} {o1 o2 : Dat → Dat → Option Dat} (ho : OpR X (compareOp op) r) (ho' : OpR X (compareOp op') r') (s1 : Snd2 X.K r o1) (s2 : Snd2 X.K r' o2) (ha : DE X W a f) (hb : DE X W b g) (hc : DE X W c h)
    (hm : lastMarks [op, op'] [b, c] = false := by with_unfolding_all rfl) : DT X W (.Compare a [op, op'] [b, c] pos) (M.chain f g h o1 o2).isB :=
  PT.imp (pt_chain ho ho' ha hb hc hm) fun σ H Q ⟨z, H0, ρ, rl, q⟩ => by
    have q := Run.bnd q
    unfold M.chain at q
    refine part rl q fun dx x H1 G1 ρ1 r1 t1 hx q1 => part r1 q1 fun dy y H2 G2 ρ2 r2 t2 hy q2 => ?_
    unfold M.isB at q2
    rw [bnd_assoc] at q2
    have q2 := Run.bnd q2
    obtain ⟨dk, e, q3⟩ := Run.lift q2
    refine s1 H2 G2 x y dx dy dk _ r2.sub (hx.mono t2) hy e fun v H' H0' g hv => ?_
    have q4 := q3 H' H0' (g.rel r2) g.s
    cases dk with
    | bl k =>
      cases hv
      refine ⟨k, rfl, ?_⟩
      cases k with
      | true =>
        rw [if_pos rfl]
        refine part (g.rel r2) q4 fun dz w H3 G3 ρ3 r3 t3 hw q5 => ?_
        obtain ⟨de, e2, q6⟩ := Run.lift q5
        refine s2 H3 G3 y w dy dz de _ r3.sub (hy.mono (g.s.trans t3)) hw e2 fun v H4 G4 g4 hv => ?_
        obtain ⟨bb, e3, q7⟩ := Run.lift (q6 H4 G4 (g4.rel r3) g4.s)
        cases de with
        | bl k2 =>
          cases e3
          cases hv
          exact ⟨_, rfl, q7 H4 G4 (g4.rel r3) (Same.refl _)⟩
        | _ => cases e3
      | false =>
        rw [if_neg Bool.false_ne_true]
        obtain ⟨bb, e3, q7⟩ := Run.lift (q4 H' H0' (g.rel r2) (Same.refl _))
        cases e3
        exact ⟨false, rfl, q7 H' H0' (g.rel r2) (Same.refl _)⟩
    | _ => exact q4.elim
end
/-! ## a def as callers know it -/
/-- a result without the slots -/
def O.pur : O → O
  | .nxt _ => .ret .non []
  | .ret d _ => .ret d []
  | .new ds _ => .new ds []
  | .err c fs _ => .err c fs []
  | _ => .stuck
/-- with the first slot alone -/
def O.inp : O → O
  | .nxt ρ => .ret .non (ρ.take 1)
  | .ret d ρ => .ret d (ρ.take 1)
  | .new ds ρ => .new ds (ρ.take 1)
  | .err c fs ρ => .err c fs (ρ.take 1)
  | _ => .stuck
theorem take1 {ρ : En} {y : Sl} (h : (ρ.take 1)[0]? = some y) : ρ[0]? = some y := by
  rw [List.getElem?_take] at h
  simpa using h
theorem out_pur {K : PySem.W.Frag} {mg : Str → Option Value} {H H0 : Hp} {o : O} {Q : VK} {E : XK} (h : OutP K mg H H0 o.pur Q E) : OutP K mg H H0 o Q E := by
  cases o with
  | nxt _ => exact fun H' H0' g => h .non H' H0' g .non
  | ret d _ => exact h
  | new ds _ => exact h
  | err c fs _ => exact h
  | brk _ => exact h.elim
  | ctn _ => exact h.elim
  | stuck => exact h.elim
theorem out_inp {K : PySem.W.Frag} {mg : Str → Option Value} {a : Addr} {H H0 : Hp} {o : O} {Q : VK} {E : XK} (h : OutI K mg a H H0 o.inp Q E) : OutI K mg a H H0 o Q E := by
  cases o with
  | nxt ρ =>
    obtain ⟨ys, e, h⟩ := h
    exact ⟨ys, take1 e, fun H' H0' g l => h .non H' H0' g l .non⟩
  | ret d ρ => obtain ⟨ys, e, h⟩ := h; exact ⟨ys, take1 e, h⟩
  | new ds ρ => obtain ⟨ys, e, h⟩ := h; exact ⟨ys, take1 e, h⟩
  | err c fs ρ => obtain ⟨ys, e, h⟩ := h; exact ⟨ys, take1 e, h⟩
  | brk _ => exact h.elim
  | ctn _ => exact h.elim
  | stuck => exact h.elim
/-- the def x of the text st stands behind the module's name x and keeps sp -/
structure Fd (P : Program) (w : World) (K : PySem.W.Frag) (mg : Str → Option Value) (base : Heap) (x qual : Str) (st : Stmt) (k : Nat) (ps : List Str) (sp : L2.Sp) : Prop where
  ex : ∃ (fa : Addr) (fd : FuncData), Fun K x qual st fa fd ∧ FnG P w K mg base (L2.CX P w) k fa fd ps sp ∧ mg x = some (.ref fa)
/-- where it stands -/
structure Sd (K : PySem.W.Frag) (mg : Str → Option Value) (x qual : Str) (st : Stmt) : Prop where
  ex : ∃ (fa : Addr) (fd : FuncData), Fun K x qual st fa fd ∧ mg x = some (.ref fa)
/-- how its arguments bind -/
def Bd (x qual : Str) (st : Stmt) (ps ks : List Str) (n : Nat) (ix : List Nat) : Prop :=
  ∀ (kV doc pm : Value) (an : Option Addr) (cdv ct : Value) (us ws : List Value), us.length = n → ws.length = ks.length → bindArgs (PySem.W.fnOf x qual (defArgs st) (defBody st) (defScope st) .none kV doc pm an cdv ct) ⟨us, ks.zip ws⟩ = pure (ps.zip (pick ix (us ++ ws ++ [])))
def Bn (x qual : Str) (st : Stmt) (ps : List Str) : Prop :=
  ∀ (kV doc pm : Value) (an : Option Addr) (cdv ct : Value) (us : List Value), us.length = ps.length → bindArgs (PySem.W.fnOf x qual (defArgs st) (defBody st) (defScope st) .none kV doc pm an cdv ct) ⟨us, []⟩ = pure (ps.zip us)
section
variable {P : Program} {w : World} {K : PySem.W.Frag} {mg : Str → Option Value} {base : Heap} {x qual : Str} {st : Stmt} {k : Nat} {N ps : List Str} {body : En → O}
theorem fd_pure (S : Sd K mg x qual st) (sc : FnScope N ps (defScope st)) (hb : ∀ (f : Addr) (cdv : Value) (A : Around) (outer : List Env) (s : Shared) (H : Hp) (E : XK), RoomG k (A.deeper (PyProof.Rows.envOfC qual (defScope st) s.heap.objs.size f cdv)) → DB (cxOf (L2.CX P w) P w K mg base N qual (defScope st) f cdv A outer s H E) (WE0 E) (defBody st) body) :
    Fd P w K mg base x qual st (k + 1) ps (spP K mg ps.length fun ds => (body (startE N.length (ds.map .val))).pur) := by
  obtain ⟨fa, fd, F, hm⟩ := S.ex
  refine ⟨fa, fd, F, (fn_pure F sc (hb fa)).imp fun vs H Q E h => ?_, hm⟩
  obtain ⟨H0, ds, h1, h2, h3, h4⟩ := h
  exact ⟨H0, ds, h1, h2, h3, out_pur h4⟩
theorem fd_ino (S : Sd K mg x qual st) (sc : FnScope N ps (defScope st)) (hb : ∀ (f : Addr) (cdv : Value) (A : Around) (outer : List Env) (s : Shared) (H : Hp) (E : XK), RoomG k (A.deeper (PyProof.Rows.envOfC qual (defScope st) s.heap.objs.size f cdv)) → DB (cxOf (L2.CX P w) P w K mg base N qual (defScope st) f cdv A outer s H E) (WE0 E) (defBody st) body) :
    Fd P w K mg base x qual st (k + 1) ps (spI K mg ps.length fun xs ds => (body (startE N.length (.ino xs :: ds.map .val))).inp) := by
  obtain ⟨fa, fd, F, hm⟩ := S.ex
  refine ⟨fa, fd, F, (fn_ino F sc (hb fa)).imp fun vs H Q E h => ?_, hm⟩
  obtain ⟨H0, a, xs, vs', ds, e, h1, h2, h3, h4, h5, h6⟩ := h
  exact ⟨H0, a, xs, vs', ds, e, h1, h2, h3, h4, h5, out_inp h6⟩
end
section
variable {X : Cx} {W : WX} {e a b c : Expr} {f g h : M Dat} {ga gk : M (List Dat)} {pos p : Pos} {x qual : Str} {st : Stmt} {es : List Expr} {k j n : Nat} {ps ks : List Str} {ix : List Nat} {G : List Dat → O} {GI : List Dat → List Dat → O} {kws : List Keyword} {sp : L2.Sp}
theorem c_de (D : Fd X.prog X.w X.K X.mg X.base x qual st j ps (spP X.K X.mg n G)) (bn : Bn x qual st ps) (tk : Takes X W) (hr : RoomG k X.A) (hjk : j ≤ k) (hg : Gl X x) 
    (hn : ∀ ρ ds ρ', ga ρ = .ok ds ρ' → ds.length = n)
    (ha : DA X W (e :: es) ga) (hdb : (x == ("__debug__" : Str)) = false := by decide) (he : starEach (e :: es) X.env = (false, eval e X.env) :: starEach es X.env := by rfl) (hpl : (backTo pos (starEach es X.env)).any (·.1) = false := by rfl) :
    DE X W (.Call (.Name x p) (e :: es) [] pos) (ga.call [] G) := by
  obtain ⟨fa, fd, F, ok, hm⟩ := D.ex
  exact de_call tk ok (hr.mono hjk) hg hm F.kp (F.binds bn) hn ha hdb he hpl
theorem c_dn (D : Fd X.prog X.w X.K X.mg X.base x qual st j ps (spP X.K X.mg n G)) (bn : Bn x qual st ps) (tk : Takes X W) (hr : RoomG k X.A) (hjk : j ≤ k) (hg : Gl X x) 
    (hn : ∀ ρ ds ρ', ga ρ = .ok ds ρ' → ds.length = n)
    (ha : DA X W (e :: es) ga) (hdb : (x == ("__debug__" : Str)) = false := by decide) (he : starEach (e :: es) X.env = (false, eval e X.env) :: starEach es X.env := by rfl) (hpl : (backTo pos (starEach es X.env)).any (·.1) = false := by rfl) :
    DN X W (.Call (.Name x p) (e :: es) [] pos) (ga.callN [] G) := by
  obtain ⟨fa, fd, F, ok, hm⟩ := D.ex
  exact dn_call tk ok (hr.mono hjk) hg hm F.kp (F.binds bn) hn ha hdb he hpl
theorem c_di (i : Nat) {y : Str} {p2 : Pos} (D : Fd X.prog X.w X.K X.mg X.base x qual st j ps (spI X.K X.mg n GI)) (bn : Bn x qual st ps) (tk : Takes X W) (hr : RoomG k X.A) (hjk : j ≤ k) (hg : Gl X x) 
    (hn : ∀ ρ ds ρ', ga ρ = .ok ds ρ' → ds.length + 1 = n) (ha : DA X W es ga)
    (hN : X.N[i]? = some y := by rfl) (hv : Vis X.env.scope y := by first | exact Or.inl rfl | exact Or.inr (Or.inl rfl) | exact Or.inr (Or.inr rfl)) (hd : (y == ("__debug__" : Str)) = false := by decide)
    (hcd : (y == ("__classdict__" : Str)) = false := by decide) (hdb : (x == ("__debug__" : Str)) = false := by decide) (he : starEach (.Name y p2 :: es) X.env = (false, eval (.Name y p2) X.env) :: starEach es X.env := by rfl) (hpl : (backTo pos (starEach es X.env)).any (·.1) = false := by rfl) :
    DE X W (.Call (.Name x p) (.Name y p2 :: es) [] pos) (M.callI i ga GI) := by
  obtain ⟨fa, fd, F, ok, hm⟩ := D.ex
  exact de_callI i tk ok (hr.mono hjk) hg hm F.kp (F.binds bn) hn ha hN hv hd hcd hdb he hpl
theorem c_dk (D : Fd X.prog X.w X.K X.mg X.base x qual st j ps (spP X.K X.mg ps.length G)) (bd : Bd x qual st ps ks n ix) (tk : Takes X W) (hr : RoomG k X.A) (hjk : j ≤ k) (hg : Gl X x) 
    (hn : ∀ ρ ds ρ', ga ρ = .ok ds ρ' → ds.length = n) (hm' : ∀ ρ ds ρ', gk ρ = .ok ds ρ' → ds.length = ks.length) (hix : ix.length = ps.length) (hlt : ∀ i ∈ ix, i < n + ks.length + ([] : List Dat).length)
    (ha : DA X W (e :: es) ga) (hkw : DK X W kws gk) (hall : (backToKw pos (keywordEach kws X.env)).all (·.1.isSome) = true := by rfl) (hks : (backToKw pos (keywordEach kws X.env)).filterMap (·.1) = ks := by rfl)
    (hdb : (x == ("__debug__" : Str)) = false := by decide) (he : starEach (e :: es) X.env = (false, eval e X.env) :: starEach es X.env := by rfl)
    (hpl : ((backTo pos (starEach (e :: es) X.env)).any (·.1) || (backToKw pos (keywordEach kws X.env)).any (·.1.isNone)) = false := by rfl) :
    DE X W (.Call (.Name x p) (e :: es) kws pos) (M.callK ga gk ix [] G) := by
  obtain ⟨fa, fd, F, ok, hm⟩ := D.ex
  exact de_callK tk ok (hr.mono hjk) hg hm F.kp (fun_kbd F bd) (fun _ => .nil) hn hm' hix hlt ha hkw hall hks hdb he hpl
theorem c_dk0 (D : Fd X.prog X.w X.K X.mg X.base x qual st j ps (spP X.K X.mg ps.length G)) (bd : Bd x qual st ps ks 0 ix) (tk : Takes X W) (hr : RoomG k X.A) (hjk : j ≤ k) (hg : Gl X x) 
    (hm' : ∀ ρ ds ρ', gk ρ = .ok ds ρ' → ds.length = ks.length) (hix : ix.length = ps.length) (hlt : ∀ i ∈ ix, i < 0 + ks.length + ([] : List Dat).length)
    (hkw : DK X W kws gk) (hall : (backToKw pos (keywordEach kws X.env)).all (·.1.isSome) = true := by rfl) (hks : (backToKw pos (keywordEach kws X.env)).filterMap (·.1) = ks := by rfl)
    (hdb : (x == ("__debug__" : Str)) = false := by decide)
    (hpl : ((backTo pos (starEach [] X.env)).any (·.1) || (backToKw pos (keywordEach kws X.env)).any (·.1.isNone)) = false := by rfl) :
    DE X W (.Call (.Name x p) [] kws pos) (M.callK (M.ret []) gk ix [] G) := by
  obtain ⟨fa, fd, F, ok, hm⟩ := D.ex
  exact de_callK0 tk ok (hr.mono hjk) hg hm F.kp (fun_kbd F bd) (fun _ => .nil) hm' hix hlt hkw hall hks hdb hpl
/-- how the defaults of x's def fill up -/
def BdD (K : PySem.W.Frag) (mg : Str → Option Value) (x qual : Str) (st : Stmt) (ps : List Str) (dvs : List V) : Prop := ∀ (fa : Addr) (fd : FuncData), Fun K x qual st fa fd → mg x = some (.ref fa) → ∃ dsv, Vals dvs dsv ∧ Binds K fd ps dsv
theorem c_dd {dvs : List V} {dds : List Dat} (D : Fd X.prog X.w X.K X.mg X.base x qual st j ps (spP X.K X.mg ps.length G)) (bd : BdD X.K X.mg x qual st ps dvs) (hdd : ∀ H, RepA X.K H dvs dds) (tk : Takes X W) (hr : RoomG k X.A) (hjk : j ≤ k) (hg : Gl X x) 
    (hn : ∀ ρ ds ρ', ga ρ = .ok ds ρ' → ds.length = n) (hl : n + dds.length = ps.length)
    (ha : DA X W (e :: es) ga) (hdb : (x == ("__debug__" : Str)) = false := by decide) (he : starEach (e :: es) X.env = (false, eval e X.env) :: starEach es X.env := by rfl) (hpl : (backTo pos (starEach es X.env)).any (·.1) = false := by rfl) :
    DE X W (.Call (.Name x p) (e :: es) [] pos) (ga.callD dds G) := by
  obtain ⟨fa, fd, F, ok, hm⟩ := D.ex
  obtain ⟨dsv, h1, h2⟩ := bd fa fd F hm
  exact de_callD tk ok (hr.mono hjk) hg hm F.kp h2 h1 hdd hn hl ha hdb he hpl
end
end Sv

set_option Elab.async false
set_option linter.all false
set_option maxRecDepth 100000
set_option maxHeartbeats 1000000
namespace Sv
open PySem L2 PyProof.Rows
abbrev ltD : Dat → Dat → Option Dat := bop fun i j => decide (i < j)
abbrev leD : Dat → Dat → Option Dat := bop fun i j => decide (i ≤ j)
abbrev gtD : Dat → Dat → Option Dat := bop fun i j => decide (j < i)
abbrev geD : Dat → Dat → Option Dat := bop fun i j => decide (j ≤ i)
def tb_int : String → Bool := fun s => s == "int" || s == "bool"
def tb_bool : String → Bool := fun s => s == "bool"
def tb_str : String → Bool := fun s => s == "str"
def tb_tuple : String → Bool := fun s => s == "tuple"
def tb_list : String → Bool := fun s => s == "list"
def tb_dict : String → Bool := fun s => s == "dict"
section
variable {X : Cx} {W : WX} {e a b c : Expr} {f g h : M Dat} {ga : M (List Dat)} {pos pos' p apos cpos : Pos} {x : Str} {es : List Expr}
/-- a comparison as a test -/
def CmpS (X : Cx) (o : CmpOp) (op : Dat → Dat → Option Dat) : Prop := ∃ r : R2, OpR X (compareOp o) r ∧ Snd2 X.K r op
theorem dt_cmpS {o : CmpOp} {op : Dat → Dat → Option Dat} (h : CmpS X o op) (ha : DE X W a f) (hb : DE X W b g) (hm : behindInMarks o b = false) : DT X W (.Compare a [o] [b] pos) (M.isB (f.bin g op)) := by
  obtain ⟨r, ho, hs⟩ := h
  exact PT.imp (pt_cmpR ho ha hb hm) fun σ H Q ⟨z, H0, ρ, rl, q⟩ => op_run (X := X) (F := W) (Q := fun v H' => ∃ b, v = .bl b ∧ Q b H') hs (part rl q fun d v H1 G1 ρ1 r1 s1 hx q1 => by
    obtain ⟨b, e, q2⟩ := Run.lift q1
    cases d <;> cases e
    cases hx
    exact ⟨b, rfl, q2 _ _ r1 (Same.refl _)⟩)
theorem cs_lt : CmpS X .Lt (bop fun i j => decide (i < j)) := ⟨_, op_lt, Snd2.bop⟩
theorem dt_lt (ha : DE X W a f) (hb : DE X W b g) : DT X W (.Compare a [.Lt] [b] pos) (M.isB (f.bin g (bop fun i j => decide (i < j)))) := dt_cmpS cs_lt ha hb (nomark _)
theorem cs_le : CmpS X .LtE (bop fun i j => decide (i ≤ j)) := ⟨_, op_le, Snd2.bop⟩
theorem dt_le (ha : DE X W a f) (hb : DE X W b g) : DT X W (.Compare a [.LtE] [b] pos) (M.isB (f.bin g (bop fun i j => decide (i ≤ j)))) := dt_cmpS cs_le ha hb (nomark _)
theorem cs_gt : CmpS X .Gt (bop fun i j => decide (j < i)) := ⟨_, op_gt, Snd2.bop⟩
theorem dt_gt (ha : DE X W a f) (hb : DE X W b g) : DT X W (.Compare a [.Gt] [b] pos) (M.isB (f.bin g (bop fun i j => decide (j < i)))) := dt_cmpS cs_gt ha hb (nomark _)
theorem cs_ge : CmpS X .GtE (bop fun i j => decide (j ≤ i)) := ⟨_, op_ge, Snd2.bop⟩
theorem dt_ge (ha : DE X W a f) (hb : DE X W b g) : DT X W (.Compare a [.GtE] [b] pos) (M.isB (f.bin g (bop fun i j => decide (j ≤ i)))) := dt_cmpS cs_ge ha hb (nomark _)
theorem cs_eq (hu : X.A.units + 64 < cLine) : CmpS X .Eq eqD := ⟨_, (op_eqD hu), snd_eq⟩
theorem dt_eq (hu : X.A.units + 64 < cLine) (ha : DE X W a f) (hb : DE X W b g) : DT X W (.Compare a [.Eq] [b] pos) (M.isB (f.bin g eqD)) := dt_cmpS (cs_eq hu) ha hb (nomark _)
theorem cs_ne (hu : X.A.units + 64 < cLine) : CmpS X .NotEq neD := ⟨_, (op_neD hu), snd_ne⟩
theorem dt_ne (hu : X.A.units + 64 < cLine) (ha : DE X W a f) (hb : DE X W b g) : DT X W (.Compare a [.NotEq] [b] pos) (M.isB (f.bin g neD)) := dt_cmpS (cs_ne hu) ha hb (nomark _)
theorem cs_isN : CmpS X .Is isNoneD := ⟨_, op_isN, (fun H H0 x y dx dy dz Q s hx hy e q => by
  cases dy <;> cases e
  cases hy
  exact ⟨rfl, by rw [isN_rep hx]; exact q _ H H0 (Grow.refl s) (.bl _)⟩)⟩
theorem dt_isN (ha : DE X W a f) (hb : DE X W b g) : DT X W (.Compare a [.Is] [b] pos) (M.isB (f.bin g isNoneD)) := dt_cmpS cs_isN ha hb (nomark _)
theorem cs_notN : CmpS X .IsNot notNoneD := ⟨_, op_notN, (fun H H0 x y dx dy dz Q s hx hy e q => by
  cases dy <;> cases e
  cases hy
  exact ⟨rfl, by rw [isN_rep hx]; exact q _ H H0 (Grow.refl s) (.bl _)⟩)⟩
theorem dt_notN (ha : DE X W a f) (hb : DE X W b g) : DT X W (.Compare a [.IsNot] [b] pos) (M.isB (f.bin g notNoneD)) := dt_cmpS cs_notN ha hb (nomark _)
theorem cs_in : CmpS X .In inD := ⟨_, op_in_seq, (fun H H0 x y dx dy dz Q s hx hy e q => by
  unfold inD at e
  cases dy with
  | tup ds =>
    dsimp only [items] at e
    split at e
    · rename_i h
      cases e
      cases hy with
      | @tup a vs _ h1 h2 =>
        refine ⟨a, vs, rfl, .inr (sameT s h1.sq), (flat_rep hx).trans h.1, (flat_all h2).trans h.2, ?_⟩
        rw [if_neg Bool.false_ne_true]
        unfold inV
        rw [in_rep hx h2]
        exact q _ H H0 (Grow.refl s) (.bl _)
    · cases e
  | lst ds =>
    dsimp only [items] at e
    split at e
    · rename_i h
      cases e
      cases hy with
      | @lst a vs _ h1 h2 =>
        refine ⟨a, vs, rfl, .inl (.inl (sameRd s h1)), (flat_rep hx).trans h.1, (flat_all h2).trans h.2, ?_⟩
        rw [if_neg Bool.false_ne_true]
        unfold inV
        rw [in_rep hx h2]
        exact q _ H H0 (Grow.refl s) (.bl _)
    · cases e
  | _ => cases e)⟩
theorem dt_in (ha : DE X W a f) (hb : DE X W b g) (hm : behindInMarks .In b = false := by rfl) : DT X W (.Compare a [.In] [b] pos) (M.isB (f.bin g inD)) := dt_cmpS cs_in ha hb hm
/-- xs.append(e), xs a name -/
def appL (i : Nat) (f : M Dat) : En → O := fun ρ => match mutAt ρ i with
  | some _ => (f ρ).toO fun d ρ' => (match mutAt ρ' i with
    | some ds => if ds.length < 1000000 then .nxt (putAt ρ' i (ds ++ [d])) else .stuck
    | none => .stuck)
  | none => .stuck
theorem ds_app (i : Nat) (he : DE X W e f) (hN : X.N[i]? = some x := by rfl) (hv : Vis X.env.scope x := by first | exact Or.inl rfl | exact Or.inr (Or.inl rfl) | exact Or.inr (Or.inr rfl)) (hd : (x == ("__debug__" : Str)) = false := by decide)
    (hcd : (x == ("__classdict__" : Str)) = false := by decide)
    (hbase : attributeBase (.Name x p) "append" X.env (eval (.Name x p) X.env) = eval (.Name x p) X.env := by rfl)
    (hfew : ((backTo cpos (starEach [e] X.env)).all (fun x => !x.1) && (backToKw cpos (keywordEach [] X.env)).all (fun x => x.1.isSome)
      && decide ([e].length + ([] : List Keyword).length + (if ([] : List Keyword).isEmpty then 0 else 1) < 30)) = true := by rfl)
    (hline : (apos.endLine == cpos.line) = true := by rfl) (hs : starEach [e] X.env = (false, eval e X.env) :: starEach [] X.env := by rfl) (hplain : (backTo cpos (starEach [] X.env)).any (·.1) = false := by rfl)
    (hw : swapsWith (.Call (.Attribute (.Name x p) "append" apos) [e] [] cpos) none pos.line X.env = pure false := by rfl) :
    DS X W (.Expr (.Call (.Attribute (.Name x p) "append" apos) [e] [] cpos) pos) (appL i f) :=
  PS.imp (ps_expr (pe_bm PySem.F.plainAttrs_list PySem.F.slot_list_append PySem.F.type_list_append mt_append (pe_var hN hv hd hcd) (pa_cons he pa_nil hs) hbase hfew hline hs hplain) hw) fun D σ H ⟨z, H0, ρ, r, q⟩ => by
    unfold appL at q
    split at q
    · rename_i ds0 e0
      obtain ⟨_, a, h1, h2, vs, h4, h5⟩ := mutAt_at r e0
      refine ⟨_, h1, .inl ⟨rfl, vs, SqL.of h4⟩, z, H0, ρ, r, (RunS.part (σ := σ) q).mono fun d H1 G1 ρ1 r1 s1 q1 y hy => ?_⟩
      split at q1
      · rename_i ds e
        split at q1
        · rename_i hl
          obtain ⟨_, a2, g1, g2, vs, g4, g5⟩ := mutAt_at r1 e
          rw [h1] at g1
          cases g1
          refine ⟨a, vs, y, rfl, rfl, g4, by rw [g5.length]; exact Nat.lt_of_lt_of_le hl (by decide), ?_⟩
          exact q1 σ _ G1 (r1.inout e h1 (GrowB.upd r1.sub g2) ⟨_, upd_same, g5.app (.cons hy .nil)⟩) (Same.refl _)
        · exact q1.elim
      · exact q1.elim
    · exact q.elim
variable {elt tg iter : Expr} {ifs : List Expr} {scope : Scope} {own : List (Str × Nat)} {t : Tg} {tt : M Bool}
/-- y = [.. for .. in known data], y a plain local -/
theorem ds_setLc (i : Nat) {spos : Pos} {y : Str} {py : Pos} (hc : X.calm = true) (hN : X.N.Nodup) (hy : X.N[i]? = some y) (hyl : X.env.scope.names.lookup y = some .local)
    (hsw : swapsWith (.ListComp elt [⟨tg, iter, ifs, 0⟩] scope pos) (some (.Name y py)) spos.line X.env = pure true) (hi : DE X W iter f) (ok : BlkOk X.N X.env.scope scope own) (hown : own.map (·.2) = t.slots)
    (hg : ∀ (s : Shared) (H : Hp) (C : Addr) (cl : List (Str × Addr)) (fp : List Addr), PG (X.blk s H scope (compEnvC scope cl C X.env) fp) tg (gT X.K t)) (ht : ∀ (s : Shared) (H : Hp) (C : Addr) (cl : List (Str × Addr)) (fp : List Addr), DTs (X.blk s H scope (compEnvC scope cl C X.env) fp) W0 ifs tt)
    (he : ∀ (s : Shared) (H : Hp) (C : Addr) (cl : List (Str × Addr)) (fp : List Addr), DE (X.blk s H scope (compEnvC scope cl C X.env) fp) W0 elt g) (hs : ∀ x, foldedSetIterable iter X.env x = pure x := by intro _; rfl) :
    DS X W (.Assign [.Name y py] (.ListComp elt [⟨tg, iter, ifs, 0⟩] scope pos) spos) (setNO (f.lc t tt g) i) :=
  PS.imp (ps_setLc (tt := tDT (cc X W0) tt) (te := tD (cc X W0) g) hc hN hy hyl hsw (pi_seq hi) ok hg ht he hs) fun D σ H ⟨z, H0, ρ, r, q⟩ => by
    rw [hown]
    exact lc_reading (X := X) (W := W) (Q := fun x H1 => gName i x σ H1 D.nx) ⟨z, H0, ρ, r, (RunS.part (σ := σ) q).mono fun ds H1 G1 ρ1 r1 s1 q1 p n => setN_run r1 n q1⟩
end
end Sv

set_option Elab.async false
set_option linter.all false
set_option maxRecDepth 100000
set_option maxHeartbeats 1000000
namespace ZS
open PySem PySem.Spec PyProof.Rows
open PySem.Sem (wp)
theorem typeCall_zip (us : List Value) : checkTypeCall "zip" ⟨us, []⟩ = pure () := by kernel_rfl
theorem newCall_zip : ∀ us : List Value, us.length ≤ 5 → checkBuiltinCall "zip.__new__" ⟨.type "zip" :: us, []⟩ = pure ()
  | [], _ => by kernel_rfl
  | [a], _ => by kernel_rfl
  | [a, b], _ => by kernel_rfl
  | [a, b, c], _ => by kernel_rfl
  | [a, b, c, d], _ => by kernel_rfl
  | [a, b, c, d, e], _ => by kernel_rfl
  | _ :: _ :: _ :: _ :: _ :: _ :: _, h => by simp at h
theorem args_init (obj : Value) : ∀ us : List Value, us.length ≤ 5 → argsOk "object.__init__" ⟨obj :: us, []⟩ := by
  have key : ∀ us : List Value, us.length ≤ 5 → argsOk "object.__init__" ⟨obj :: us, []⟩ := fun us h => by
    unfold argsOk; rw [signature?_of (id := "object.__init__") (n := ['_', '_', 't', 'i', 'n', 'i', '_', '_']) (o := ['t', 'c', 'e', 'j', 'b', 'o']) (by kernel_rfl) F.owner_object]
    match us, h with
    | [], _ => kernel_rfl
    | [a], _ => kernel_rfl
    | [a, b], _ => kernel_rfl
    | [a, b, c], _ => kernel_rfl
    | [a, b, c, d], _ => kernel_rfl
    | [a, b, c, d, e], _ => kernel_rfl
    | _ :: _ :: _ :: _ :: _ :: _ :: _, h => simp at h
  exact key
theorem newClass_zip (us : List Value) : Builtin.SmallTypes.newClass "zip" ⟨.type "zip" :: us, []⟩ = pure (.type "zip", us) := by
  unfold Builtin.SmallTypes.newClass
  simp only [isType, sub_zip, pure_bind, Bool.not_true, Bool.false_eq_true, if_false]
section
variable {prog : Program} {w : World} {A : Around} {E : Value → Shared → Prop} {s : Shared}
theorem wpAny_alive {a : Addr} {o : Obj} {Q : Option Obj → Shared → Prop} (ho : s.heap.get? a = some o) (h : Q (some o) s) : wpAny (model prog w) A (loadIfAlive a) Q E s :=
  fun Γ p _ => by
    unfold loadIfAlive
    rw [Sem.wp_loadIfAlive, ho]
    exact h
abbrev ZObj (f0 f1 : Value) (TI TO : Addr) : Obj := { cls := .type "zip", dict := none, data := .fields #[f0, f1, .bool false, .ref TI, .ref TO], slots := #[] }
abbrev TObj (xs : Array Value) : Obj := { cls := .type "tuple", data := .seq xs }
/-- what stands apart -/
structure Ap (z TI TO : Addr) (its rs : List Addr) : Prop where
  TIz : TI ≠ z
  TOz : TO ≠ z
  TIO : TI ≠ TO
  nd : its.Nodup
  zi : z ∉ its
  Ti : TI ∉ its
  Oi : TO ∉ its
  r : ∀ x ∈ rs, x ≠ z ∧ x ≠ TO ∧ x ∉ its
  l : its.length = rs.length
structure Zst (h : Heap) (z TI TO : Addr) (its rs : List Addr) (xss : List (Array Value)) (j : Nat) (f0 f1 : Value) (kept : Array Value) : Prop where
  z : h.get? z = some (ZObj f0 f1 TI TO)
  TI : h.get? TI = some (TObj (its.map Value.ref).toArray)
  TO : h.get? TO = some (TObj kept)
  it : ∀ (k : Nat) (i r : Addr), its[k]? = some i → rs[k]? = some r → h.IsTupleIter i r j
  row : ∀ (k : Nat) (r : Addr) (xs : Array Value), rs[k]? = some r → xss[k]? = some xs → h.IsTuple r xs
theorem upd_tup {T : Addr} {kp : Array Value} {x : Value} {k : Nat} {Q : Unit → Shared → Prop} (hT : s.heap.get? T = some (TObj kp)) (hs : kp.size ≤ 100)
    (h : ∀ h', h'.get? T = some (TObj (kp.setIfInBounds k x)) → Heap.SameBut T s.heap h' → Q () { s with heap := h' }) :
    wpAny (model prog w) A (updateSeq T (·.setIfInBounds k x)) Q E s := by
  refine wpAny_updateSeq hT rfl (h _ ?_ (Heap.SameBut.update ..)) (Nat.le_trans hs (by decide)) (Nat.le_trans (by rw [Array.size_setIfInBounds]; exact hs) (by decide))
  rw [Heap.get?_update_self _ hT rfl]
  simp [Obj.mapSeq]
structure Fill (h : Heap) (s : Shared) (z TI TO : Addr) (its rs : List Addr) (f1 : Value) (col : List Value) (j k : Nat) (h' : Heap) : Prop where
  fz : h'.get? z = some (ZObj .ellipsis f1 TI TO)
  fTO : ∃ kp, h'.get? TO = some (TObj kp) ∧ kp.size = its.length ∧ ∀ i, i < k → kp[i]? = col[i]?
  fit : ∀ (i : Nat) (it r : Addr), its[i]? = some it → rs[i]? = some r → h'.IsTupleIter it r (if i < k then j + 1 else j)
  oth : ∀ c o, c ≠ z → c ≠ TO → c ∉ its → h.get? c = some o → h'.get? c = some o
  size : h'.objs.size = h.objs.size
theorem next_A {z TI TO : Addr} {its rs : List Addr} {xss : List (Array Value)} {j : Nat} {f1 : Value} {kept : Array Value} {col : List Value} {Q : Value → Shared → Prop} (D : Ap z TI TO its rs) (hz : Zst s.heap z TI TO its rs xss j .none f1 kept) (hk : kept.size = its.length) (h5 : its.length ≤ 5) (hne : its ≠ [])
    (lx : xss.length = rs.length) (hcl : col.length = its.length) (hc : ∀ (k : Nat) (xs : Array Value), xss[k]? = some xs → xs[j]? = col[k]?)
    (hQ : ∀ h', Zst h' z TI TO its rs xss (j + 1) (rawInt s.heap.objs.size) (.bool false) col.toArray → h'.get? s.heap.objs.size = some (TObj col.toArray) → h'.objs.size = s.heap.objs.size + 1 →
      (∀ c o, c ≠ z → c ≠ TO → c ∉ its → s.heap.get? c = some o → h'.get? c = some o) → Q (.ref s.heap.objs.size) { s with heap := h' }) :
    wpAny (model prog w) A (Builtin.«zip.__next__» ⟨[.ref z], []⟩) (fun fin s' => ∃ v, fin = .done (.ret v) ∧ Q v s') E s := by
  have hz0 := hz.z
  show wpAny _ _ (field (.ref z) 2 >>= _) _ _ _
  refine wpAny_bind (wpAny_field hz0 rfl (x := .bool false) rfl ?_)
  show wpAny _ _ (field (.ref z) 3 >>= _) _ _ _
  refine wpAny_bind (wpAny_field hz0 rfl (x := .ref TI) rfl ?_)
  refine wpAny_bind (wpAny_seqItems hz.TI rfl ?_)
  try dsimp only
  rw [if_neg (by cases its <;> simp_all)]
  show wpAny _ _ (Builtin.SmallTypes.ownedTupleIsFree (.ref z) >>= _) _ _ _
  refine wpAny_bind ?_
  unfold Builtin.SmallTypes.ownedTupleIsFree
  refine wpAny_bind (wpAny_field hz0 rfl (x := .none) rfl (wpAny_pure ?_))
  simp only [if_true]
  refine wpAny_bind (wpAny_rule ?_)
  refine wpAny_bind (wpAny_field hz0 rfl (x := .ref TO) rfl ?_)
  refine wpAny_bind (wpAny_setField_rec hz0 (by simp) fun h₁ hz₁ hs₁ => ?_)
  replace hz₁ : h₁.get? z = some (ZObj .ellipsis f1 TI TO) := hz₁
  refine wpAny_bind ?_
  refine wpAny_forIn_list _ (fun rest b s' => b = (none, ()) ∧ ∃ k h', k ≤ its.length ∧ rest = ((its.map Value.ref).zipIdx).drop k ∧ s' = { s with heap := h' } ∧ Fill s.heap s z TI TO its rs f1 col j k h') _ ?turn ?fin _ _ ?start
  case start =>
    refine ⟨rfl, 0, h₁, Nat.zero_le _, rfl, rfl, hz₁, ⟨kept, hs₁.extBut _ _ D.TOz hz.TO, hk, fun i hi => absurd hi (Nat.not_lt_zero _)⟩, fun i it r e1 e2 => ?_, fun c o c1 _ _ e => hs₁.extBut _ _ c1 e, hs₁.1⟩
    rw [if_neg (Nat.not_lt_zero _)]
    exact (hz.it i it r e1 e2).extBut hs₁.extBut fun e => D.zi (e ▸ List.mem_of_getElem? e1)
  case turn =>
    rintro ⟨x, n⟩ rest b s' ⟨rfl, k, h', hkl, hr, rfl, F⟩
    have hlt : k < its.length := by
      rcases Nat.lt_or_ge k its.length with q | q
      · exact q
      · rw [List.drop_eq_nil_of_le (by simpa using q)] at hr; cases hr
    rw [List.drop_eq_getElem_cons (by simpa using hlt)] at hr
    simp only [List.getElem_zipIdx, List.getElem_map, Nat.zero_add, List.cons.injEq, Prod.mk.injEq] at hr
    obtain ⟨⟨rfl, rfl⟩, rfl⟩ := hr
    have i1 : its[n]? = some its[n] := List.getElem?_eq_getElem hlt
    have hrl : n < rs.length := by rw [← D.l]; exact hlt
    have r1 : rs[n]? = some rs[n] := List.getElem?_eq_getElem hrl
    have hxl : n < xss.length := by rw [lx]; exact hrl
    have x1 : xss[n]? = some xss[n] := List.getElem?_eq_getElem hxl
    have hcl' : n < col.length := by rw [hcl]; exact hlt
    have c1 : col[n]? = some col[n] := List.getElem?_eq_getElem hcl'
    have hx : xss[n][j]? = some col[n] := (hc n _ x1).trans c1
    obtain ⟨kp, hTO, hks, hkp⟩ := F.fTO
    have iter := F.fit n _ _ i1 r1
    rw [if_neg (Nat.lt_irrefl n)] at iter
    have ra := D.r _ (List.getElem_mem hrl)
    have row : h'.IsTuple rs[n] xss[n] := by
      obtain ⟨o, ho, q⟩ := hz.row n _ _ r1 x1
      exact ⟨o, F.oth _ _ ra.1 ra.2.1 ra.2.2 ho, q⟩
    refine wpAny_bind (wpAny_onRaise ?_)
    show wpAny _ _ (Builtin.SmallTypes.nextOf (.ref its[n]) >>= _) _ _ _
    refine wpAny_bind (RZ.nextOf_tuple_item (s := { s with heap := h' }) iter row hx fun h₂ h1₂ hs₂ => wpAny_pure ?_)
    have itz : its[n] ≠ z := fun e => D.zi (e ▸ List.getElem_mem hlt)
    have itO : its[n] ≠ TO := fun e => D.Oi (e ▸ List.getElem_mem hlt)
    have hTO₂ : h₂.get? TO = some (TObj kp) := hs₂.extBut _ _ (Ne.symm itO) hTO
    refine wpAny_bind (wpAny_seqItems (s := { s with heap := h₂ }) hTO₂ rfl ?_)
    refine wpAny_bind (upd_tup (s := { s with heap := h₂ }) hTO₂ (by rw [hks]; omega) fun h₃ hTO₃ hs₃ => ?_)
    refine wpAny_bind (wpAny_letGo (wpAny_pure ?_))
    refine ⟨rfl, n + 1, h₃, hlt, rfl, rfl, hs₃.extBut _ _ (Ne.symm D.TOz) (hs₂.extBut _ _ (Ne.symm itz) F.fz), ⟨_, hTO₃, by rw [Array.size_setIfInBounds]; exact hks, fun i hi => ?_⟩, fun i it r e1 e2 => ?_, fun c o c1 c2 c3 e => hs₃.extBut _ _ c2 (hs₂.extBut _ _ (fun e => c3 (e ▸ List.getElem_mem hlt)) (F.oth c o c1 c2 c3 e)), by rw [hs₃.1, hs₂.1]; exact F.size⟩
    · rw [Array.getElem?_setIfInBounds]
      by_cases e : n = i
      · subst e
        rw [if_pos rfl, if_pos (by rw [hks]; exact hlt), c1]
      · rw [if_neg e]
        exact hkp i (by omega)
    · by_cases e : i = n
      · subst e
        rw [i1] at e1; cases e1
        rw [r1] at e2; cases e2
        rw [if_pos (Nat.lt_succ_self _)]
        exact h1₂.extBut hs₃.extBut itO
      · have q := F.fit i it r e1 e2
        have ne : it ≠ its[n] := fun e' => e (by
          have := (List.getElem?_inj (by
            rcases List.getElem?_eq_some_iff.mp e1 with ⟨a, _⟩; exact a) D.nd).mp (e1.trans (e' ▸ i1.symm))
          exact this)
        have e3 : (if i < n + 1 then j + 1 else j) = (if i < n then j + 1 else j) := by
          by_cases q : i < n
          · rw [if_pos q, if_pos (by omega)]
          · rw [if_neg q, if_neg (by omega)]
        rw [e3]
        exact (q.extBut hs₂.extBut ne).extBut hs₃.extBut fun e => D.Oi (e ▸ List.mem_of_getElem? e1)
  case fin =>
    rintro b s' ⟨rfl, k, h', hkl, hr, rfl, F⟩
    have hk' : k = its.length := by
      have := congrArg List.length hr
      simp at this
      omega
    subst hk'
    obtain ⟨kp, hTO, hks, hkp⟩ := F.fTO
    have ekp : kp = col.toArray := by
      apply Array.ext'
      apply List.ext_getElem?
      intro i
      by_cases hi : i < its.length
      · have := hkp i hi
        simpa using this
      · rw [List.getElem?_eq_none (by simpa [hks] using hi), List.getElem?_eq_none (by simp; omega)]
    subst ekp
    show wpAny _ _ (seqItems? (.ref TO) >>= _) _ _ _
    refine wpAny_bind (wpAny_seqItems (s := { s with heap := h' }) hTO rfl ?_)
    refine wpAny_bind (wpAny_newTuple ?_ (by simp; exact Nat.le_trans (by omega : col.length ≤ 5) (by decide)))
    have ec : (col.toArray.toList.toArray : Array Value) = col.toArray := by simp
    rw [ec]
    show wpAny _ _ (Builtin.SmallTypes.ownedTupleHandOut (.ref z) (.ref h'.objs.size) >>= _) _ _ _
    refine wpAny_bind ?_
    unfold Builtin.SmallTypes.ownedTupleHandOut
    have hz₆ : (h'.push (TObj col.toArray)).get? z = some (ZObj .ellipsis f1 TI TO) := Heap.get?_push_of_some _ F.fz
    refine wpAny_bind (wpAny_setField_rec hz₆ (by simp) fun h₇ hz₇ hs₇ => ?_)
    replace hz₇ : h₇.get? z = some (ZObj (rawInt h'.objs.size) f1 TI TO) := hz₇
    refine wpAny_setField_rec hz₇ (by simp) fun h₈ hz₈ hs₈ => ?_
    replace hz₈ : h₈.get? z = some (ZObj (rawInt h'.objs.size) (.bool false) TI TO) := hz₈
    have up : ∀ c o, c ≠ z → h'.get? c = some o → h₈.get? c = some o := fun c o c1 e => hs₈.extBut _ _ c1 (hs₇.extBut _ _ c1 (Heap.get?_push_of_some _ e))
    have zlt : z < h'.objs.size := Heap.lt_size F.fz
    have hT₈ : h₈.get? h'.objs.size = some (TObj col.toArray) := hs₈.extBut _ _ (Nat.ne_of_gt zlt) (hs₇.extBut _ _ (Nat.ne_of_gt zlt) (Heap.get?_push_size _ rfl))
    have hz8 : h₈.objs.size = h'.objs.size + 1 := by rw [hs₈.1, hs₇.1, Heap.size_push]
    refine wpAny_pure ⟨_, rfl, ?_⟩
    show Q (.ref h'.objs.size) _
    rw [F.size] at hz₈ hT₈ hz8 ⊢
    refine hQ h₈ ⟨hz₈, up _ _ D.TIz (F.oth _ _ D.TIz D.TIO D.Ti hz.TI), up _ _ D.TOz hTO, fun k i r e1 e2 => ?_, fun k r xs e1 e2 => ?_⟩ hT₈ hz8 fun c o c1 c2 c3 e => up c o c1 (F.oth c o c1 c2 c3 e)
    · have q := F.fit k i r e1 e2
      rw [if_pos (List.getElem?_eq_some_iff.mp e1).1] at q
      exact q.at fun o e => up _ o (fun e' => D.zi (e' ▸ List.mem_of_getElem? e1)) e
    · obtain ⟨o, ho, q⟩ := hz.row k r xs e1 e2
      have ra := D.r _ (List.mem_of_getElem? e1)
      exact ⟨o, up _ _ ra.1 (F.oth _ _ ra.1 ra.2.1 ra.2.2 ho), q⟩
structure Coll (h : Heap) (z TI TO : Addr) (its rs : List Addr) (f0 : Value) (kept : Array Value) (col : List Value) (j k : Nat) (h' : Heap) (b : Array Value) : Prop where
  fz : h'.get? z = some (ZObj f0 (.bool true) TI TO)
  fit : ∀ (i : Nat) (it r : Addr), its[i]? = some it → rs[i]? = some r → h'.IsTupleIter it r (if i < k then j + 1 else j)
  oth : ∀ c o, c ≠ z → c ∉ its → h.get? c = some o → h'.get? c = some o
  size : h'.objs.size = h.objs.size
  acc : b.toList = col.take k
theorem free_B {z TI TO ad : Addr} {od : Obj} {fb : Bool} (hz0 : s.heap.get? z = some (ZObj (rawInt ad) (.bool fb) TI TO)) (had : s.heap.get? ad = some od) :
    wpAny (model prog w) A (Builtin.SmallTypes.ownedTupleIsFree (.ref z)) (fun b s' => b = false ∧ ∃ h₁, s' = { s with heap := h₁ } ∧ h₁.get? z = some (ZObj (rawInt ad) (.bool true) TI TO) ∧ (∀ c o, c ≠ z → s.heap.get? c = some o → h₁.get? c = some o) ∧ h₁.objs.size = s.heap.objs.size) E s := by
  unfold Builtin.SmallTypes.ownedTupleIsFree
  refine wpAny_bind (wpAny_field hz0 rfl (x := rawInt ad) rfl ?_)
  show wpAny _ _ (loadIfAlive ad >>= _) _ _ _
  refine wpAny_bind (wpAny_alive had ?_)
  try dsimp only
  rw [if_neg (by simp)]
  refine wpAny_bind (wpAny_field hz0 rfl (x := .bool fb) rfl ?_)
  cases fb with
  | true =>
    rw [if_neg (by decide)]
    exact wpAny_pure ⟨rfl, s.heap, rfl, hz0, fun _ _ _ e => e, rfl⟩
  | false =>
    rw [if_pos (by decide)]
    refine wpAny_bind (wpAny_setField_rec hz0 (by simp) fun h₁ hz₁ hs₁ => ?_)
    exact wpAny_pure ⟨rfl, h₁, rfl, hz₁, fun c o c1 e => hs₁.extBut _ _ c1 e, hs₁.1⟩
theorem next_B {z TI TO ad : Addr} {od : Obj} {its rs : List Addr} {xss : List (Array Value)} {j : Nat} {fb : Bool} {kept : Array Value} {col : List Value} {Q : Value → Shared → Prop} (D : Ap z TI TO its rs) (hz : Zst s.heap z TI TO its rs xss j (rawInt ad) (.bool fb) kept) (had : s.heap.get? ad = some od) (h5 : its.length ≤ 5) (hne : its ≠ [])
    (lx : xss.length = rs.length) (hcl : col.length = its.length) (hc : ∀ (k : Nat) (xs : Array Value), xss[k]? = some xs → xs[j]? = col[k]?)
    (hQ : ∀ h', Zst h' z TI TO its rs xss (j + 1) (rawInt ad) (.bool true) kept → h'.get? s.heap.objs.size = some (TObj col.toArray) → h'.objs.size = s.heap.objs.size + 1 →
      (∀ c o, c ≠ z → c ≠ TO → c ∉ its → s.heap.get? c = some o → h'.get? c = some o) → Q (.ref s.heap.objs.size) { s with heap := h' }) :
    wpAny (model prog w) A (Builtin.«zip.__next__» ⟨[.ref z], []⟩) (fun fin s' => ∃ v, fin = .done (.ret v) ∧ Q v s') E s := by
  have hz0 := hz.z
  show wpAny _ _ (field (.ref z) 2 >>= _) _ _ _
  refine wpAny_bind (wpAny_field hz0 rfl (x := .bool false) rfl ?_)
  show wpAny _ _ (field (.ref z) 3 >>= _) _ _ _
  refine wpAny_bind (wpAny_field hz0 rfl (x := .ref TI) rfl ?_)
  refine wpAny_bind (wpAny_seqItems hz.TI rfl ?_)
  try dsimp only
  rw [if_neg (by cases its <;> simp_all)]
  show wpAny _ _ (Builtin.SmallTypes.ownedTupleIsFree (.ref z) >>= _) _ _ _
  refine wpAny_bind (wpAny_mono (free_B hz0 had) (fun b s' ⟨hb, h₁, hs', hz₁, ho₁, hs₁⟩ => ?_) fun _ _ h => h)
  subst hb; subst hs'
  rw [if_neg Bool.false_ne_true]
  refine wpAny_bind ?_
  refine MeetsSeq2.wpAny_forIn_array _ (fun rest b s' => b.1 = none ∧ ∃ k h', k ≤ its.length ∧ rest = (its.map Value.ref).drop k ∧ s' = { s with heap := h' } ∧ Coll s.heap z TI TO its rs (rawInt ad) kept col j k h' b.2) _ ?turn ?fin _ _ ?start
  case start =>
    refine ⟨rfl, 0, h₁, Nat.zero_le _, by simp, rfl, hz₁, fun i it r e1 e2 => ?_, fun c o c1 _ e => ho₁ c o c1 e, hs₁, by simp⟩
    rw [if_neg (Nat.not_lt_zero _)]
    exact (hz.it i it r e1 e2).at fun o e => ho₁ _ o (fun e => D.zi (e ▸ List.mem_of_getElem? e1)) e
  case turn =>
    rintro x rest b s' ⟨hb, k, h', hkl, hr, rfl, F⟩
    have hlt : k < its.length := by
      rcases Nat.lt_or_ge k its.length with q | q
      · exact q
      · rw [List.drop_eq_nil_of_le (by simpa using q)] at hr; cases hr
    rw [List.drop_eq_getElem_cons (by simpa using hlt)] at hr
    simp only [List.getElem_map, List.cons.injEq] at hr
    obtain ⟨rfl, rfl⟩ := hr
    have i1 : its[k]? = some its[k] := List.getElem?_eq_getElem hlt
    have hrl : k < rs.length := by rw [← D.l]; exact hlt
    have r1 : rs[k]? = some rs[k] := List.getElem?_eq_getElem hrl
    have hxl : k < xss.length := by rw [lx]; exact hrl
    have x1 : xss[k]? = some xss[k] := List.getElem?_eq_getElem hxl
    have hcl' : k < col.length := by rw [hcl]; exact hlt
    have c1 : col[k]? = some col[k] := List.getElem?_eq_getElem hcl'
    have hx : xss[k][j]? = some col[k] := (hc k _ x1).trans c1
    have iter := F.fit k _ _ i1 r1
    rw [if_neg (Nat.lt_irrefl k)] at iter
    have ra := D.r _ (List.getElem_mem hrl)
    have row : h'.IsTuple rs[k] xss[k] := by
      obtain ⟨o, ho, q⟩ := hz.row k _ _ r1 x1
      exact ⟨o, F.oth _ _ ra.1 ra.2.2 ho, q⟩
    refine wpAny_bind (wpAny_holding ?_)
    show wpAny _ _ (Builtin.SmallTypes.nextOf (.ref its[k]) >>= _) _ _ _
    refine wpAny_bind (RZ.nextOf_tuple_item (s := { s with heap := h' }) iter row hx fun h₂ h1₂ hs₂ => wpAny_pure ?_)
    have itz : its[k] ≠ z := fun e => D.zi (e ▸ List.getElem_mem hlt)
    refine wpAny_pure ⟨rfl, k + 1, h₂, hlt, rfl, rfl, hs₂.extBut _ _ (Ne.symm itz) F.fz, fun i it r e1 e2 => ?_, fun c o c1 c3 e => hs₂.extBut _ _ (fun e => c3 (e ▸ List.getElem_mem hlt)) (F.oth c o c1 c3 e), by rw [hs₂.1]; exact F.size, ?_⟩
    · by_cases e : i = k
      · subst e
        rw [i1] at e1; cases e1
        rw [r1] at e2; cases e2
        rw [if_pos (Nat.lt_succ_self _)]
        exact h1₂
      · have q := F.fit i it r e1 e2
        have ne : it ≠ its[k] := fun e' => e (by
          have := (List.getElem?_inj (by
            rcases List.getElem?_eq_some_iff.mp e1 with ⟨a, _⟩; exact a) D.nd).mp (e1.trans (e' ▸ i1.symm))
          exact this)
        have e3 : (if i < k + 1 then j + 1 else j) = (if i < k then j + 1 else j) := by
          by_cases q : i < k
          · rw [if_pos q, if_pos (by omega)]
          · rw [if_neg q, if_neg (by omega)]
        rw [e3]
        exact q.extBut hs₂.extBut ne
    · show (b.2.push col[k]).toList = col.take (k + 1)
      rw [Array.toList_push, F.acc, List.take_succ_eq_append_getElem hcl']
  case fin =>
    rintro b s' ⟨hb, k, h', hkl, hr, rfl, F⟩
    have hk' : k = its.length := by
      have := congrArg List.length hr
      simp at this
      omega
    subst hk'
    have eb : b.2.toList = col := by rw [F.acc, ← hcl, List.take_length]
    simp only [hb]
    refine wpAny_bind (wpAny_newTuple ?_ (by rw [eb]; exact Nat.le_trans (by omega : col.length ≤ 5) (by decide)))
    rw [eb]
    refine wpAny_pure ⟨_, rfl, ?_⟩
    show Q (.ref h'.objs.size) _
    have hT₈ : (h'.push (TObj col.toArray)).get? h'.objs.size = some (TObj col.toArray) := Heap.get?_push_size _ rfl
    have hz8 : (h'.push (TObj col.toArray)).objs.size = h'.objs.size + 1 := Heap.size_push ..
    rw [F.size] at hT₈ hz8 ⊢
    refine hQ _ ⟨Heap.get?_push_of_some _ F.fz, Heap.get?_push_of_some _ (F.oth _ _ D.TIz D.Ti hz.TI), Heap.get?_push_of_some _ (F.oth _ _ D.TOz D.Oi hz.TO), fun k i r e1 e2 => ?_, fun k r xs e1 e2 => ?_⟩ hT₈ hz8 fun c o c1 c2 c3 e => Heap.get?_push_of_some _ (F.oth c o c1 c3 e)
    · have q := F.fit k i r e1 e2
      rw [if_pos (List.getElem?_eq_some_iff.mp e1).1] at q
      exact q.at fun o e => Heap.get?_push_of_some _ e
    · obtain ⟨o, ho, q⟩ := hz.row k r xs e1 e2
      have ra := D.r _ (List.mem_of_getElem? e1)
      exact ⟨o, Heap.get?_push_of_some _ (F.oth _ _ ra.1 ra.2.2 ho), q⟩
end
end ZS

set_option Elab.async false
set_option linter.all false
set_option maxRecDepth 100000
set_option maxHeartbeats 1000000
namespace ZS
open PySem PySem.Spec PyProof.Rows
section
variable {prog : Program} {w : World} {A : Around} {E : Value → Shared → Prop} {s : Shared}
theorem end_B {z TI TO ad : Addr} {od : Obj} {its rs : List Addr} {xss : List (Array Value)} {j : Nat} {fb : Bool} {kept : Array Value} {Q : Fin → Shared → Prop} (hh : A.handled = none) (D : Ap z TI TO its rs) (hz : Zst s.heap z TI TO its rs xss j (rawInt ad) (.bool fb) kept) (had : s.heap.get? ad = some od) (hne : its ≠ [])
    (lx : xss.length = rs.length) (hc : ∀ (k : Nat) (xs : Array Value), xss[k]? = some xs → xs[j]? = none)
    (hE : ∀ h' e, (∀ c o, c ≠ z → c ∉ its → s.heap.get? c = some o → h'.get? c = some o) → (∃ o, h'.get? e = some o ∧ o.cls = .type "StopIteration") → E (.ref e) { s with heap := h' }) :
    wpAny (model prog w) A (Builtin.«zip.__next__» ⟨[.ref z], []⟩) Q E s := by
  have hz0 := hz.z
  show wpAny _ _ (field (.ref z) 2 >>= _) _ _ _
  refine wpAny_bind (wpAny_field hz0 rfl (x := .bool false) rfl ?_)
  show wpAny _ _ (field (.ref z) 3 >>= _) _ _ _
  refine wpAny_bind (wpAny_field hz0 rfl (x := .ref TI) rfl ?_)
  refine wpAny_bind (wpAny_seqItems hz.TI rfl ?_)
  try dsimp only
  rw [if_neg (by cases its <;> simp_all)]
  show wpAny _ _ (Builtin.SmallTypes.ownedTupleIsFree (.ref z) >>= _) _ _ _
  refine wpAny_bind (wpAny_mono (free_B hz0 had) (fun b s' ⟨hb, h₁, hs', hz₁, ho₁, hs₁⟩ => ?_) fun _ _ h => h)
  subst hb; subst hs'
  rw [if_neg Bool.false_ne_true]
  refine wpAny_bind ?_
  have hlt : 0 < its.length := by cases its <;> simp_all
  refine MeetsSeq2.wpAny_forIn_array _ (fun rest b s' => rest = its.map Value.ref ∧ s' = { s with heap := h₁ }) _ ?turn ?fin _ _ ?start
  case start => exact ⟨by simp, rfl⟩
  case turn =>
    rintro x rest b s' ⟨hr, rfl⟩
    obtain ⟨i0, its', rfl⟩ : ∃ a l, its = a :: l := by cases its with | nil => simp at hlt | cons a l => exact ⟨a, l, rfl⟩
    rw [List.map_cons] at hr
    obtain ⟨rfl, rfl⟩ := List.cons.inj hr
    have hrl : 0 < rs.length := by rw [← D.l]; exact hlt
    have r1 : rs[0]? = some rs[0] := List.getElem?_eq_getElem hrl
    have hxl : 0 < xss.length := by rw [lx]; exact hrl
    have x1 : xss[0]? = some xss[0] := List.getElem?_eq_getElem hxl
    have hx := hc 0 _ x1
    have iter := hz.it 0 i0 _ rfl r1
    have ra := D.r _ (List.getElem_mem hrl)
    have iz : i0 ≠ z := fun e => D.zi (e ▸ List.mem_cons_self)
    have row : h₁.IsTuple rs[0] xss[0] := by
      obtain ⟨o, ho, q⟩ := hz.row 0 _ _ r1 x1
      exact ⟨o, ho₁ _ _ ra.1 ho, q⟩
    refine wpAny_bind (wpAny_holding ?_)
    show wpAny _ _ (Builtin.SmallTypes.nextOf (.ref i0) >>= _) _ _ _
    refine wpAny_bind (RZ.nextOf_tuple_end (s := { s with heap := h₁ }) hh (iter.at fun o e => ho₁ _ o iz e) row hx fun h₂ e hs₂ he => ?_)
    exact hE h₂ e (fun c o c1 c2 q => hs₂ _ _ (fun e => c2 (e ▸ List.mem_cons_self)) (ho₁ c o c1 q)) he
  case fin =>
    rintro b s' ⟨hr, rfl⟩
    have := congrArg List.length hr
    simp at this
    omega
theorem pyNext_of_item {z : Addr} {Q : Option Value → Shared → Prop} (hT : s.TypeIs (.ref z) "zip")
    (h : wpAny (model prog w) A.in1 (Builtin.«zip.__next__» ⟨[.ref z], []⟩) (fun fin s' => ∃ v, fin = .done (.ret v) ∧ Q (some v) s') (fun e s' => False) s) : wpAny (model prog w) A (pyNext (.ref z)) Q E s := by
  unfold pyNext
  exact wpAny_bind (wpAny_attempt (wpAny_callSpecial?_slot (name := Str.ofString "__next__") hT F.slot_zip_next
    (wpAny_call_entry F.slot_zip_next hT F.entry_zip_next
      (wpAny_mono h (fun fin s' ⟨v, e, q⟩ => ⟨v, e, wpAny_pure q⟩) fun _ _ z => z.elim) (F.args_zip_next_1 _))))
theorem pyNext_of_end {z : Addr} {Q : Option Value → Shared → Prop} (hT : s.TypeIs (.ref z) "zip")
    (h : wpAny (model prog w) A.in1 (Builtin.«zip.__next__» ⟨[.ref z], []⟩) (fun _ _ => False) (fun e s' => ∃ a o, e = .ref a ∧ s'.heap.get? a = some o ∧ o.cls = .type "StopIteration" ∧ Q none s') s) : wpAny (model prog w) A (pyNext (.ref z)) Q E s := by
  unfold pyNext
  refine wpAny_bind (wpAny_attempt (wpAny_callSpecial?_slot (name := Str.ofString "__next__") hT F.slot_zip_next
    (wpAny_call_entry F.slot_zip_next hT F.entry_zip_next
      (wpAny_mono h (fun fin s' z => z.elim) fun e s' ⟨a, o, ea, ho, hc, q⟩ => ?_) (F.args_zip_next_1 _))))
  subst ea
  refine wpAny_bind (wpAny_isInstance (T := "StopIteration") (b := true) ⟨o, ho, hc⟩ isSubtype_stop ?_)
  exact wpAny_pure q
end
end ZS

set_option Elab.async false
set_option linter.all false
set_option maxRecDepth 100000
set_option maxHeartbeats 1000000
namespace ZS
open PySem PySem.Spec PyProof.Rows
section
variable {prog : Program} {w : World} {A : Around} {E : Value → Shared → Prop} {s : Shared}
/-- the collected tuples -/
structure ZL (h0 : Heap) (z TI TO S : Addr) (its rs : List Addr) (xss : List (Array Value)) (cols : List (List Value)) (j : Nat) (h : Heap) (ps : List Addr) : Prop where
  st : ∃ (f0 : Value) (fb : Bool) (kept : Array Value), Zst h z TI TO its rs xss j f0 (.bool fb) kept ∧ kept.size = its.length ∧ ((j = 0 ∧ f0 = .none) ∨ ∃ ad : Addr, f0 = rawInt ad ∧ ad ∈ ps)
  len : ps.length = j
  ps : ∀ (i : Nat) (p : Addr), ps[i]? = some p → ∃ col, cols[i]? = some col ∧ h.get? p = some (TObj col.toArray) ∧ p ≠ z ∧ p ≠ TO ∧ p ∉ its ∧ p ≠ S ∧ h0.objs.size ≤ p
  old : ∀ c o, h0.get? c = some o → h.get? c = some o
structure Geo (h0 : Heap) (z TI TO S : Addr) (its rs : List Addr) (xss : List (Array Value)) (cols : List (List Value)) (n : Nat) : Prop where
  D : Ap z TI TO its rs
  h5 : its.length ≤ 5
  ne : its ≠ []
  lx : xss.length = rs.length
  n0 : 0 < n
  n1 : n ≤ 1000
  cn : cols.length = n
  cl : ∀ (j : Nat) (col : List Value), cols[j]? = some col → col.length = its.length ∧ ∀ (k : Nat) (xs : Array Value), xss[k]? = some xs → xs[j]? = col[k]?
  xn : ∀ (k : Nat) (xs : Array Value), xss[k]? = some xs → xs[n]? = none
  Sz : S ≠ z
  ST : S ≠ TI
  SO : S ≠ TO
  Si : S ∉ its
  Sr : S ∉ rs
  Sf : h0.objs.size ≤ S
  fr : ∀ c o, h0.get? c = some o → c ≠ z ∧ c ≠ TO ∧ c ∉ its ∧ c ≠ S
abbrev LObj (xs : Array Value) (c : Nat) : Obj := { cls := .type "list", dict := none, data := .seq xs c, slots := #[] }
theorem loop_zip {h0 : Heap} {z TI TO S : Addr} {its rs : List Addr} {xss : List (Array Value)} {cols : List (List Value)} {n : Nat} {res : Value} {R : Result → Shared → Prop} (hh : A.handled = none) (g : Geo h0 z TI TO S its rs xss cols n) :
    ∀ (d j : Nat) (s : Shared) (ps : List Addr) (c : Nat), n - j = d → j ≤ n → h0.objs.size ≤ s.heap.objs.size → ZL h0 z TI TO S its rs xss cols j s.heap ps → s.heap.get? S = some (LObj (ps.map Value.ref).toArray c) →
    (∀ (h' : Heap) (ps' : List Addr) (c' : Nat), h0.objs.size ≤ h'.objs.size → ps'.length = n → (∀ (i : Nat) (p : Addr), ps'[i]? = some p → ∃ col, cols[i]? = some col ∧ h'.get? p = some (TObj col.toArray) ∧ h0.objs.size ≤ p) → (∀ c o, h0.get? c = some o → h'.get? c = some o) →
      h'.get? S = some (LObj (ps'.map Value.ref).toArray c') → R (.ok (.ret res)) { s with heap := h' }) →
    codeAny (model prog w) A (.builtin "list.extend.loop" ⟨[.ref S, .ref z, res], []⟩) R s := by
  have D := g.D
  intro d
  induction d with
  | zero =>
    intro j s ps c hd hj hsz L hS hR
    have hjn : j = n := by omega
    subst hjn
    obtain ⟨f0, fb, kept, hz, hk, q⟩ := L.st
    obtain ⟨ad, rfl, had⟩ : ∃ ad : Addr, f0 = rawInt ad ∧ ad ∈ ps := by
      rcases q with ⟨q, _⟩ | q
      · have := g.n0; omega
      · exact q
    obtain ⟨i, hi⟩ := List.getElem?_of_mem had
    obtain ⟨col, _, had', _⟩ := L.ps i ad hi
    refine codeAny_builtin F.entry_extend_loop ?_
    rw [Around.under_plainId F.plain_extend_loop _]
    show wpAny _ A.in1 (pyNext (.ref z) >>= _) _ _ s
    refine wpAny_bind (pyNext_of_end ⟨_, hz.z, rfl⟩ (end_B (s := s) (A := A.in1.in1) hh D hz had' g.ne g.lx g.xn fun h' e hk he => ?_))
    obtain ⟨o, ho, hc⟩ := he
    refine ⟨e, o, rfl, ho, hc, wpAny_pure ?_⟩
    refine hR h' ps c ?_ L.len (fun i p e => ?_) (fun c o e => ?_) (hk _ _ g.Sz g.Si hS)
    · exact Nat.le_trans g.Sf (Nat.le_of_lt (Heap.lt_size (hk _ _ g.Sz g.Si hS)))
    · obtain ⟨col, e1, e2, e3, e4, e5, e6, e7⟩ := L.ps i p e
      exact ⟨col, e1, hk _ _ e3 e5 e2, e7⟩
    · obtain ⟨f1, f2, f3, f4⟩ := g.fr c o e
      exact hk _ _ f1 f3 (L.old c o e)
  | succ d ih =>
    intro j s ps c hd hj hsz L hS hR
    have hlt : j < n := by omega
    have hcl : j < cols.length := by rw [g.cn]; exact hlt
    have hcol : cols[j]? = some cols[j] := List.getElem?_eq_getElem hcl
    obtain ⟨lc, hcv⟩ := g.cl j _ hcol
    obtain ⟨f0, fb, kept, hz, hk, q⟩ := L.st
    have Sne : S ≠ s.heap.objs.size := Nat.ne_of_lt (Heap.lt_size hS)
    have item : wpAny (model prog w) A.in1 (pyNext (.ref z)) (fun r s' => ∃ (h' : Heap) (f0' : Value) (fb' : Bool) (kept' : Array Value), r = some (.ref s.heap.objs.size) ∧ s' = { s with heap := h' } ∧ Zst h' z TI TO its rs xss (j + 1) f0' (.bool fb') kept' ∧ kept'.size = its.length ∧ (∃ ad : Addr, f0' = rawInt ad ∧ ad ∈ ps ++ [s.heap.objs.size]) ∧
        h'.get? s.heap.objs.size = some (TObj cols[j].toArray) ∧ h'.objs.size = s.heap.objs.size + 1 ∧ (∀ c o, c ≠ z → c ≠ TO → c ∉ its → s.heap.get? c = some o → h'.get? c = some o)) (fun e s' => False) s := by
      rcases q with ⟨e0, rfl⟩ | ⟨ad, rfl, had⟩
      · exact pyNext_of_item ⟨_, hz.z, rfl⟩ (next_A D hz hk g.h5 g.ne g.lx lc hcv fun h' z1 z2 z3 z4 => ⟨h', _, _, _, rfl, rfl, z1, by simpa using lc, ⟨_, rfl, by simp⟩, z2, z3, z4⟩)
      · obtain ⟨i, hi⟩ := List.getElem?_of_mem had
        obtain ⟨col, _, had', _⟩ := L.ps i ad hi
        exact pyNext_of_item ⟨_, hz.z, rfl⟩ (next_B D hz had' g.h5 g.ne g.lx lc hcv fun h' z1 z2 z3 z4 => ⟨h', _, _, _, rfl, rfl, z1, hk, ⟨_, rfl, List.mem_append_left _ had⟩, z2, z3, z4⟩)
    refine codeAny_builtin F.entry_extend_loop ?_
    rw [Around.under_plainId F.plain_extend_loop _]
    show wpAny _ A.in1 (pyNext (.ref z) >>= _) _ _ s
    refine wpAny_bind (wpAny_mono item (fun r s' ⟨h', f0', fb', kept', er, es, hz', hk', had, hp, hsz', hkp⟩ => ?_) fun _ _ z => z.elim)
    subst er; subst es
    have hS' : h'.get? S = some (LObj (ps.map Value.ref).toArray c) := hkp _ _ g.Sz g.SO g.Si hS
    have pl : ps.length = j := L.len
    show wpAny _ A.in1 (updateSeq S (·.push (.ref s.heap.objs.size)) >>= _) _ _ _
    refine wpAny_bind ?_
    have zlt : z < s.heap.objs.size := Heap.lt_size hz.z
    have Olt : TO < s.heap.objs.size := Heap.lt_size hz.TO
    have ilt : s.heap.objs.size ∉ its := fun h => by
      obtain ⟨i, hi⟩ := List.getElem?_of_mem h
      have hil := (List.getElem?_eq_some_iff.mp hi).1
      have hrl : i < rs.length := by rw [← D.l]; exact hil
      obtain ⟨o, ho, _⟩ := hz.it i _ _ hi (List.getElem?_eq_getElem hrl)
      exact Nat.lt_irrefl _ (Heap.lt_size ho)
    obtain ⟨c2, eS⟩ : ∃ c2, (h'.update S (Obj.mapSeq fun x => x.push (.ref s.heap.objs.size))).get? S = some (LObj ((ps.map Value.ref).toArray.push (.ref s.heap.objs.size)) c2) := ⟨_, Heap.get?_update_self _ hS' rfl⟩
    have epush : (ps.map Value.ref).toArray.push (Value.ref s.heap.objs.size) = ((ps ++ [s.heap.objs.size]).map Value.ref).toArray := by simp
    rw [epush] at eS
    refine wpAny_updateSeq (s := { s with heap := h' }) hS' rfl (wpAny_pure ⟨plainId_quiet F.plain_extend_loop _, ih (j + 1) _ (ps ++ [s.heap.objs.size]) c2 (by omega) hlt ?_ ?_ ?_ ?_⟩) ?_ ?_
    · show h0.objs.size ≤ (h'.update S _).objs.size
      rw [Heap.size_update, hsz']
      omega
    · have up : ∀ c o, c ≠ S → h'.get? c = some o → (h'.update S (Obj.mapSeq fun x => x.push (.ref s.heap.objs.size))).get? c = some o := fun c o c1 e => (Heap.get?_update_other _ _ (Ne.symm c1)).trans e
      refine ⟨⟨f0', fb', kept', ⟨up _ _ (Ne.symm g.Sz) hz'.z, up _ _ (Ne.symm g.ST) hz'.TI, up _ _ (Ne.symm g.SO) hz'.TO, fun k i r e1 e2 => (hz'.it k i r e1 e2).at fun o e => up _ o (fun e' => g.Si (e' ▸ List.mem_of_getElem? e1)) e, fun k r xs e1 e2 => ?_⟩, hk', .inr had⟩, by simp [pl], fun i p e => ?_, fun c o e => ?_⟩
      · obtain ⟨o, ho, q⟩ := hz'.row k r xs e1 e2
        exact ⟨o, up _ _ (fun e' => g.Sr (e' ▸ List.mem_of_getElem? e1)) ho, q⟩
      · rcases Nat.lt_or_ge i ps.length with hi | hi
        · rw [List.getElem?_append_left hi] at e
          obtain ⟨col, e1, e2, e3, e4, e5, e6, e7⟩ := L.ps i p e
          exact ⟨col, e1, up _ _ e6 (hkp _ _ e3 e4 e5 e2), e3, e4, e5, e6, e7⟩
        · rw [List.getElem?_append_right hi] at e
          have hi0 : i - ps.length = 0 := by
            rcases Nat.eq_zero_or_pos (i - ps.length) with q | q
            · exact q
            · rw [List.getElem?_eq_none (by rw [List.length_singleton]; exact q)] at e; cases e
          rw [hi0] at e
          have e : some s.heap.objs.size = some p := e
          cases e
          have : i = j := by omega
          subst this
          exact ⟨_, hcol, up _ _ (Ne.symm Sne) hp, Nat.ne_of_gt zlt, Nat.ne_of_gt Olt, ilt, Ne.symm Sne, hsz⟩
      · obtain ⟨f1, f2, f3, f4⟩ := g.fr c o e
        exact up _ _ f4 (hkp _ _ f1 f2 f3 (L.old c o e))
    · exact eS
    · intro h'' ps' c' a1 a2 a3 a4 a5
      exact hR h'' ps' c' a1 a2 a3 a4 a5
    · have := g.n1
      simp [pl]
      exact Nat.le_trans (by omega : j ≤ 1000) (by decide)
    · have := g.n1
      have hz1 : (1001 : Nat) ≤ sizeLine := by decide
      simp [pl]
      omega
end
end ZS

set_option Elab.async false
set_option linter.all false
set_option maxRecDepth 100000
set_option maxHeartbeats 1000000
namespace ZS
open PySem PySem.Spec PyProof.Rows
theorem nolen_zip : typeLookup (.type "zip") "__len__" = pure none := by rw [typeLookup_type, builtinLookup_eq_fast]; kernel_rfl
theorem nohint_zip : typeLookup (.type "zip") "__length_hint__" = pure none := by rw [typeLookup_type, builtinLookup_eq_fast]; kernel_rfl
section
variable {prog : Program} {w : World} {A : Around} {E : Value → Shared → Prop} {s : Shared}
theorem iter_zip {z : Addr} {Q : Value → Shared → Prop} (hT : s.TypeIs (.ref z) "zip") (h : Q (.ref z) s) : wpAny (model prog w) A (pyIter (.ref z)) Q E s := by
  refine wpAny_pyIter_slot hT F.slot_zip_iter (wpAny_call_entry F.slot_zip_iter hT F.entry_zip_iter ?_ (F.args_zip_iter_1 _))
  exact wpAny_pure ⟨_, rfl, "zip", _, hT, F.slot_zip_next.lookup, h⟩
theorem touch {S : Addr} {c : Nat} {Q : Unit → Shared → Prop} (hS : s.heap.get? S = some (LObj #[] c))
    (h : ∀ h' c', h'.get? S = some (LObj #[] c') → (∀ b o, b ≠ S → s.heap.get? b = some o → h'.get? b = some o) → h'.objs.size = s.heap.objs.size → Q () { s with heap := h' }) : wpAny (model prog w) A (Builtin.List.listTouch (.ref S)) Q E s := by
  refine wpAny_bind (m := updateSeq S (·.push .none)) (wpAny_updateSeq hS rfl ?_)
  have h2 := Heap.get?_update_self (Obj.mapSeq (·.push Value.none)) hS rfl
  refine wpAny_updateSeq h2 rfl ?_
  exact h _ _ (Heap.get?_update_self (Obj.mapSeq (·.pop)) h2 rfl) (fun b o hb e => (Heap.get?_update_other _ _ (Ne.symm hb)).trans ((Heap.get?_update_other _ _ (Ne.symm hb)).trans e)) (by rw [Heap.size_update, Heap.size_update])
theorem collect_zip {z TI TO : Addr} {its rs : List Addr} {xss : List (Array Value)} {cols : List (List Value)} {n : Nat} {h0 : Heap} {kept : Array Value} {Q : List Value → Shared → Prop} (hh : A.handled = none)
    (hz : Zst s.heap z TI TO its rs xss 0 .none (.bool false) kept) (hk : kept.size = its.length) (hold : ∀ c o, h0.get? c = some o → s.heap.get? c = some o) (hsz : h0.objs.size ≤ s.heap.objs.size)
    (g : Geo h0 z TI TO s.heap.objs.size its rs xss cols n)
    (hQ : ∀ (h' : Heap) (ps : List Addr), h0.objs.size ≤ h'.objs.size → ps.length = n → (∀ (i : Nat) (p : Addr), ps[i]? = some p → ∃ col, cols[i]? = some col ∧ h'.get? p = some (TObj col.toArray) ∧ h0.objs.size ≤ p) → (∀ c o, h0.get? c = some o → h'.get? c = some o) → Q (ps.map Value.ref) { s with heap := h' }) :
    wpAny (model prog w) A (collect (.ref z)) Q E s := by
  unfold collect
  refine wpAny_bind (wpAny_runValue (codeAny_builtin F.entry_proto_collect ?_))
  rw [Around.under_plainId F.plain_proto_collect _]
  show wpAny _ A.in1 (newList [] >>= fun l' => again (.builtin "list.__iadd__" ⟨[l', .ref z], []⟩)) _ _ s
  refine wpAny_bind (wpAny_newObj_type ?_)
  refine wpAny_pure ⟨plainId_quiet F.plain_list_iadd _, codeAny_builtin F.entry_list_iadd ?_⟩
  rw [Around.under_plainId F.plain_list_iadd _]
  have up : ∀ c o, s.heap.get? c = some o → (s.heap.push { cls := .type "list", data := .seq ([] : List Value).toArray }).get? c = some o := fun c o e => Heap.get?_push_of_some _ e
  have hS := Heap.get?_push_size s.heap (o := { cls := .type "list", data := .seq ([] : List Value).toArray }) rfl
  have hz1 : Zst (s.heap.push { cls := .type "list", data := .seq ([] : List Value).toArray }) z TI TO its rs xss 0 .none (.bool false) kept :=
    ⟨up _ _ hz.z, up _ _ hz.TI, up _ _ hz.TO, fun k i r e1 e2 => (hz.it k i r e1 e2).at fun o e => up _ o e, fun k r xs e1 e2 => let ⟨o, ho, q⟩ := hz.row k r xs e1 e2; ⟨o, up _ _ ho, q⟩⟩
  have hT : ({ s with heap := s.heap.push { cls := .type "list", data := .seq ([] : List Value).toArray } } : Shared).TypeIs (.ref z) "zip" := ⟨_, hz1.z, rfl⟩
  have hne : Builtin.List.listSameRef (.ref s.heap.objs.size) (.ref z) = false := by simp [Builtin.List.listSameRef, g.Sz]
  show wpAny _ A.in1 (Builtin.List.listExtendWith (.ref s.heap.objs.size) (.ref z) (.ref s.heap.objs.size)) _ _ _
  unfold Builtin.List.listExtendWith
  refine wpAny_bind (wpAny_typeOf hT ?_)
  rw [if_neg (by rw [hne]; decide)]
  refine wpAny_bind (iter_zip hT ?_)
  refine wpAny_bind (wpAny_holding ?_)
  unfold Builtin.List.listLengthHint
  refine wpAny_bind (wpAny_specialOf hT nolen_zip ?_)
  show wpAny _ A.in1 (specialOf (Value.ref z) (Str.ofString "__length_hint__") >>= _) _ _ _
  refine wpAny_bind (wpAny_specialOf hT nohint_zip ?_)
  refine wpAny_pure ?_
  rw [if_pos (by rw [Bool.true_or])]
  refine wpAny_bind (wpAny_rule (wpAny_bind (touch hS fun h2 c2 hS2 ho2 hz2 => ?_)))
  have Szz : ∀ c o, s.heap.get? c = some o → c ≠ s.heap.objs.size := fun c o e => Nat.ne_of_lt (Heap.lt_size e)
  have up2 : ∀ c o, s.heap.get? c = some o → h2.get? c = some o := fun c o e => ho2 _ _ (Szz c o e) (up c o e)
  refine wpAny_pure ⟨plainId_quiet F.plain_extend_loop _, loop_zip hh g n 0 _ [] c2 rfl (Nat.zero_le _) ?_ ⟨⟨_, _, _, ⟨up2 _ _ hz.z, up2 _ _ hz.TI, up2 _ _ hz.TO, fun k i r e1 e2 => (hz.it k i r e1 e2).at fun o e => up2 _ o e, fun k r xs e1 e2 => let ⟨o, ho, q⟩ := hz.row k r xs e1 e2; ⟨o, up2 _ _ ho, q⟩⟩, hk, .inl ⟨rfl, rfl⟩⟩, rfl, fun i p e => by simp at e, fun c o e => up2 _ _ (hold c o e)⟩ hS2 fun h' ps c' a1 a2 a3 a4 a5 => ?_⟩
  · show h0.objs.size ≤ h2.objs.size
    rw [hz2]
    show h0.objs.size ≤ (s.heap.push _).objs.size
    rw [Heap.size_push]
    omega
  · show wpAny _ A (load s.heap.objs.size >>= _) _ _ _
    refine wpAny_bind (wpAny_load (s := { s with heap := h' }) a5 ?_)
    refine wpAny_pure ?_
    have e : ((ps.map Value.ref).toArray).toList = ps.map Value.ref := by simp
    show Q ((ps.map Value.ref).toArray).toList _
    rw [e]
    exact hQ h' ps a1 a2 a3 a4
/-- tuple(z) -/
theorem code_tuple {z TI TO : Addr} {its rs : List Addr} {xss : List (Array Value)} {cols : List (List Value)} {n : Nat} {h0 : Heap} {kept : Array Value} {Q₁ : Value → Shared → Prop} (hh : A.handled = none)
    (hz : Zst s.heap z TI TO its rs xss 0 .none (.bool false) kept) (hk : kept.size = its.length) (hold : ∀ c o, h0.get? c = some o → s.heap.get? c = some o) (hsz : h0.objs.size ≤ s.heap.objs.size)
    (g : Geo h0 z TI TO s.heap.objs.size its rs xss cols n)
    (hQ : ∀ (h' : Heap) (ps : List Addr), h0.objs.size ≤ h'.objs.size → ps.length = n → (∀ (i : Nat) (p : Addr), ps[i]? = some p → ∃ col, cols[i]? = some col ∧ h'.get? p = some (TObj col.toArray) ∧ h0.objs.size ≤ p) → (∀ c o, h0.get? c = some o → h'.get? c = some o) →
      Q₁ (.ref h'.objs.size) { s with heap := h'.push (TObj (ps.map Value.ref).toArray) }) :
    codeAny (model prog w) A (.call (.builtin "tuple.__new__") ⟨[.type "tuple", .ref z], []⟩) (wants Q₁ E) s := by
  refine codeAny_of_tree ?_
  show wpAny _ A.in1 (do checkBuiltinCall "tuple.__new__" ⟨[.type "tuple", .ref z], []⟩; again (.builtin "tuple.__new__" ⟨[.type "tuple", .ref z], []⟩)) _ _ s
  refine wpAny_bind (wpAny_of_eq (F.newCall_tuple_1 _) (wpAny_pure ⟨plainId_quiet F.plain_tuple_new _, codeAny_builtin F.entry_tuple_new ?_⟩))
  rw [Around.under_plainId F.plain_tuple_new _]
  have hsub := sub_tuple_self
  have hinit := init_tuple_lookup
  have hmh := madeHere_tuple
  have hTI : s.TypeIs (.ref z) "zip" := ⟨_, hz.z, rfl⟩
  wp_walk using wpAny_typeOf hTI, collect_zip (A := A.in1) hh hz hk hold hsz g
  intro h' ps a1 a2 a3 a4
  have hn : ps.length ≤ sizeLine := by
    have h1 : (1000 : Nat) ≤ sizeLine := by decide
    have := g.n1
    omega
  refine wpAny_bind (m := Builtin.Tuple.tupleExact (ps.map Value.ref).toArray) ?_
  unfold Builtin.Tuple.tupleExact
  refine wpAny_newObj_type (wpAny_pure ?_) (by show (ps.map Value.ref).toArray.size ≤ sizeLine; simp; exact hn)
  exact hQ h' ps a1 a2 a3 a4
end
end ZS

set_option Elab.async false
set_option linter.all false
set_option maxRecDepth 100000
set_option maxHeartbeats 1000000
namespace ZS
open PySem PySem.Spec PyProof.Rows
section
variable {prog : Program} {w : World} {A : Around} {E : Value → Shared → Prop} {s : Shared}
def itsOf (b m : Nat) : List Addr := (List.range m).map fun i => b + i
structure Its (h0 : Heap) (rs : List Addr) (k : Nat) (h' : Heap) : Prop where
  size : h'.objs.size = h0.objs.size + k
  it : ∀ (i : Nat) (r : Addr), i < k → rs[i]? = some r → h'.IsTupleIter (h0.objs.size + i) r 0
  old : ∀ c o, h0.get? c = some o → h'.get? c = some o
theorem iterAll_tups {rs : List Addr} {Q : List Value → Shared → Prop} (hr : ∀ r ∈ rs, ∃ xs, s.heap.IsTuple r xs)
    (hQ : ∀ h', Its s.heap rs rs.length h' → Q ((itsOf s.heap.objs.size rs.length).map Value.ref) { s with heap := h' }) : wpAny (model prog w) A (Builtin.SmallTypes.iterAll (rs.map Value.ref)) Q E s := by
  unfold Builtin.SmallTypes.iterAll
  refine wpAny_bind (wpAny_forIn_list _ (fun rest b s' => ∃ k h', k ≤ rs.length ∧ rest = (rs.map Value.ref).drop k ∧ s' = { s with heap := h' } ∧ b.toList = (itsOf s.heap.objs.size k).map Value.ref ∧ Its s.heap rs k h') _ ?turn ?fin _ _ ?start)
  case start => exact ⟨0, s.heap, Nat.zero_le _, rfl, rfl, rfl, rfl, fun i r h => absurd h (Nat.not_lt_zero _), fun _ _ e => e⟩
  case turn =>
    rintro x rest b s' ⟨k, h', hk, hr', rfl, hb, I⟩
    have hlt : k < rs.length := by
      rcases Nat.lt_or_ge k rs.length with q | q
      · exact q
      · rw [List.drop_eq_nil_of_le (by simpa using q)] at hr'; cases hr'
    rw [List.drop_eq_getElem_cons (by simpa using hlt)] at hr'
    simp only [List.getElem_map, List.cons.injEq] at hr'
    obtain ⟨rfl, rfl⟩ := hr'
    obtain ⟨xs, o, ho, q⟩ := hr _ (List.getElem_mem hlt)
    refine wpAny_bind (wpAny_holding (wpAny_pyIter_tuple (s := { s with heap := h' }) ⟨o, I.old _ _ ho, q⟩ (wpAny_pure ?_)))
    refine ⟨k + 1, _, hlt, rfl, rfl, ?_, ?_, fun i r hi e => ?_, fun c o e => Heap.get?_push_of_some _ (I.old c o e)⟩
    · show (b.push (.ref h'.objs.size)).toList = _
      rw [Array.toList_push, hb, I.size]
      unfold itsOf
      rw [List.range_succ, List.map_append, List.map_append]
      rfl
    · show (h'.push _).objs.size = _
      rw [Heap.size_push, I.size]
      omega
    · rcases Nat.lt_or_ge i k with q | q
      · exact (I.it i r q e).at fun o e => Heap.get?_push_of_some _ e
      · have : i = k := by omega
        subst this
        rw [List.getElem?_eq_getElem hlt] at e
        cases e
        rw [← I.size]
        exact ⟨_, Heap.get?_push_size _ rfl, rfl, rfl⟩
  case fin =>
    rintro b s' ⟨k, h', hk, hr', rfl, hb, I⟩
    have hk' : k = rs.length := by
      have := congrArg List.length hr'
      simp at this
      omega
    subst hk'
    show wpAny _ _ (pure b.toList) _ _ _
    rw [hb]
    exact wpAny_pure (hQ h' I)
/-- what zip(..) leaves -/
def ZNew (h0 : Heap) (rs : List Addr) (xss : List (Array Value)) (h' : Heap) : Prop :=
  Zst h' (h0.objs.size + rs.length + 2) (h0.objs.size + rs.length) (h0.objs.size + rs.length + 1) (itsOf h0.objs.size rs.length) rs xss 0 .none (.bool false) (rs.map fun _ => Value.none).toArray ∧ h'.objs.size = h0.objs.size + rs.length + 3 ∧ ∀ c o, h0.get? c = some o → h'.get? c = some o
theorem meets_zip (rs : List Addr) (xss : List (Array Value)) (lx : xss.length = rs.length) (h5 : rs.length ≤ 5) : Meets (Builtin.«zip.__new__» ⟨.type "zip" :: rs.map Value.ref, []⟩) (fun _ R s => (∀ (k : Nat) (r : Addr) (xs : Array Value), rs[k]? = some r → xss[k]? = some xs → s.heap.IsTuple r xs) ∧
      ∀ h', ZNew s.heap rs xss h' → R (.ok (.ret (.ref (s.heap.objs.size + rs.length + 2)))) { s with heap := h' }) :=
  .of_wp fun prog w A R s ⟨hrow, h⟩ => by
    unfold Builtin.«zip.__new__»
    refine wpAny_bind (wpAny_of_eq (newClass_zip _) ?_)
    try dsimp only
    rw [if_neg (by simp)]
    refine wpAny_bind (iterAll_tups (fun r hr => ?_) fun h1 I => ?_)
    · obtain ⟨k, hk⟩ := List.getElem?_of_mem hr
      have hl : k < xss.length := by rw [lx]; exact (List.getElem?_eq_some_iff.mp hk).1
      exact ⟨_, hrow k r _ hk (List.getElem?_eq_getElem hl)⟩
    have h100 : (100 : Nat) ≤ sizeLine := by decide
    refine wpAny_bind (wpAny_newTuple ?_ (by unfold itsOf; simp; omega))
    refine wpAny_bind (wpAny_newTuple ?_ (by unfold itsOf; simp; omega))
    refine wpAny_bind ?_
    unfold Builtin.SmallTypes.newRecord
    refine wpAny_newObj_type (wpAny_pure ⟨_, rfl, ?_⟩) (by show (5 : Nat) ≤ sizeLine + 2; decide)
    have en : (((itsOf s.heap.objs.size rs.length).map Value.ref).map fun _ => Value.none).toArray = (rs.map fun _ => Value.none).toArray := by
      congr 1
      apply List.ext_getElem
      · unfold itsOf; simp
      · intro i h1 h2; simp
    show R (.ok (.ret (.ref ((h1.push (TObj ((itsOf s.heap.objs.size rs.length).map Value.ref).toArray)).push (TObj (((itsOf s.heap.objs.size rs.length).map Value.ref).map fun _ => Value.none).toArray)).objs.size)))
      { s with heap := ((h1.push (TObj ((itsOf s.heap.objs.size rs.length).map Value.ref).toArray)).push (TObj (((itsOf s.heap.objs.size rs.length).map Value.ref).map fun _ => Value.none).toArray)).push (ZObj .none (.bool false) h1.objs.size (h1.push (TObj ((itsOf s.heap.objs.size rs.length).map Value.ref).toArray)).objs.size) }
    rw [en]
    have e1 := I.size
    have e2 : (h1.push (TObj ((itsOf s.heap.objs.size rs.length).map Value.ref).toArray)).objs.size = s.heap.objs.size + rs.length + 1 := by rw [Heap.size_push, e1]
    have e3 : ((h1.push (TObj ((itsOf s.heap.objs.size rs.length).map Value.ref).toArray)).push (TObj (rs.map fun _ => Value.none).toArray)).objs.size = s.heap.objs.size + rs.length + 2 := by rw [Heap.size_push, e2]
    rw [e3, e2, e1]
    have up : ∀ c o, h1.get? c = some o → (((h1.push (TObj ((itsOf s.heap.objs.size rs.length).map Value.ref).toArray)).push (TObj (rs.map fun _ => Value.none).toArray)).push (ZObj .none (.bool false) (s.heap.objs.size + rs.length) (s.heap.objs.size + rs.length + 1))).get? c = some o := fun c o e => Heap.get?_push_of_some _ (Heap.get?_push_of_some _ (Heap.get?_push_of_some _ e))
    refine h _ ⟨⟨?_, ?_, ?_, fun k i r q1 q2 => ?_, fun k r xs q1 q2 => ?_⟩, by rw [Heap.size_push, e3], fun c o e => up c o (I.old c o e)⟩
    · rw [← e3]
      exact Heap.get?_push_size _ rfl
    · refine Heap.get?_push_of_some _ (Heap.get?_push_of_some _ ?_)
      rw [← e1]
      exact Heap.get?_push_size _ rfl
    · refine Heap.get?_push_of_some _ ?_
      rw [← e2]
      exact Heap.get?_push_size _ rfl
    · have hk : k < rs.length := (List.getElem?_eq_some_iff.mp q2).1
      have : i = s.heap.objs.size + k := by
        unfold itsOf at q1
        rw [List.getElem?_map, List.getElem?_range hk] at q1
        exact (Option.some.inj q1).symm
      subst this
      exact (I.it k r hk q2).at fun o e => up _ o e
    · obtain ⟨o, ho, q⟩ := hrow k r xs q1 q2
      exact ⟨o, up _ _ (I.old _ _ ho), q⟩
theorem call_zip {rs : List Addr} {xss : List (Array Value)} {Q : Value → Shared → Prop} (lx : xss.length = rs.length) (h5 : rs.length ≤ 5) (hrow : ∀ (k : Nat) (r : Addr) (xs : Array Value), rs[k]? = some r → xss[k]? = some xs → s.heap.IsTuple r xs)
    (h : ∀ h', ZNew s.heap rs xss h' → Q (.ref (s.heap.objs.size + rs.length + 2)) { s with heap := h' }) : wpAny (model prog w) A (call (.type "zip") (rs.map Value.ref)) Q E s := by
  refine callType_new F.called_zip (by decide) (typeCall_zip _) (newCall_zip _ (by simpa using h5)) (fun obj => args_init obj _ (by simpa using h5)) F.entry_zip_new (meets_zip rs xss lx h5) ⟨hrow, fun h' zn => ?_⟩
  exact ⟨⟨_, zn.1.z, rfl⟩, h h' zn⟩
/-- tuple(z), z as zip(..) left it in the heap behind h0 -/
theorem call_tuple {rs : List Addr} {xss : List (Array Value)} {cols : List (List Value)} {n : Nat} {h0 : Heap} {Q : Value → Shared → Prop} (hh : A.handled = none) (zn : ZNew h0 rs xss s.heap) (lx : xss.length = rs.length) (h5 : rs.length ≤ 5) (hne : rs ≠ []) (hrl : ∀ r ∈ rs, ∃ o, h0.get? r = some o)
    (n0 : 0 < n) (n1 : n ≤ 1000) (cn : cols.length = n) (cl : ∀ (j : Nat) (col : List Value), cols[j]? = some col → col.length = rs.length ∧ ∀ (k : Nat) (xs : Array Value), xss[k]? = some xs → xs[j]? = col[k]?) (xn : ∀ (k : Nat) (xs : Array Value), xss[k]? = some xs → xs[n]? = none)
    (hQ : ∀ (h' : Heap) (ps : List Addr), h0.objs.size ≤ h'.objs.size → ps.length = n → (∀ (i : Nat) (p : Addr), ps[i]? = some p → ∃ col, cols[i]? = some col ∧ h'.get? p = some (TObj col.toArray) ∧ h0.objs.size ≤ p) → (∀ c o, h0.get? c = some o → h'.get? c = some o) →
      Q (.ref h'.objs.size) { s with heap := h'.push (TObj (ps.map Value.ref).toArray) }) :
    wpAny (model prog w) A (call (.type "tuple") [.ref (h0.objs.size + rs.length + 2)]) Q E s := by
  obtain ⟨hz, hs, hold⟩ := zn
  have il : (itsOf h0.objs.size rs.length).length = rs.length := by unfold itsOf; simp
  have mi : ∀ x : Nat, x ∈ (itsOf h0.objs.size rs.length : List Nat) → h0.objs.size ≤ x ∧ x < h0.objs.size + rs.length := fun x hx => by
    unfold itsOf at hx
    obtain ⟨i, hi, rfl⟩ := List.mem_map.mp hx
    have := List.mem_range.mp hi
    exact ⟨Nat.le_add_right _ _, Nat.add_lt_add_left this _⟩
  have rl : ∀ r : Nat, r ∈ (rs : List Nat) → r < h0.objs.size := fun r hr => let ⟨o, ho⟩ := hrl r hr; Heap.lt_size ho
  have D : Ap (h0.objs.size + rs.length + 2) (h0.objs.size + rs.length) (h0.objs.size + rs.length + 1) (itsOf h0.objs.size rs.length) rs := by
    refine ⟨by show @Ne Nat _ _; omega, by show @Ne Nat _ _; omega, by show @Ne Nat _ _; omega, ?_, fun h => ?_, fun h => ?_, fun h => ?_, fun x hx => ⟨?_, ?_, fun h => ?_⟩, il⟩
    · unfold itsOf
      exact List.Pairwise.map _ (fun (a b : Nat) (e : a ≠ b) => by show @Ne Nat _ _; omega) List.nodup_range
    · have := mi _ h; omega
    · have := mi _ h; omega
    · have := mi _ h; omega
    · have := rl x hx; show @Ne Nat _ _; omega
    · have := rl x hx; show @Ne Nat _ _; omega
    · have := rl x hx; have := mi _ h; omega
  have g : Geo h0 (h0.objs.size + rs.length + 2) (h0.objs.size + rs.length) (h0.objs.size + rs.length + 1) s.heap.objs.size (itsOf h0.objs.size rs.length) rs xss cols n := by
    refine ⟨D, by rw [il]; exact h5, fun h => ?_, lx, n0, n1, cn, fun j col e => ⟨by rw [il]; exact (cl j col e).1, (cl j col e).2⟩, xn, by rw [hs]; show @Ne Nat _ _; omega, by rw [hs]; show @Ne Nat _ _; omega, by rw [hs]; show @Ne Nat _ _; omega, fun h => ?_, fun h => ?_, by rw [hs]; omega, fun c o e => ?_⟩
    · have := congrArg List.length h
      rw [il] at this
      exact hne (List.length_eq_zero_iff.mp this)
    · have := mi _ h; rw [hs] at this; omega
    · have := rl _ h; rw [hs] at this; omega
    · have this : @LT.lt Nat _ c h0.objs.size := Heap.lt_size e
      refine ⟨by show @Ne Nat _ _; omega, by show @Ne Nat _ _; omega, fun h => ?_, by rw [hs]; show @Ne Nat _ _; omega⟩
      have := mi _ h; omega
  have hk : ((rs.map fun _ => Value.none).toArray).size = (itsOf h0.objs.size rs.length).length := by rw [il]; simp
  refine callType_codes (Q₁ := fun obj s₁ => s₁.TypeIs obj "tuple" ∧ Q obj s₁) F.called_tuple (F.typeCall_tuple_1 _) F.entry_object_init
    (code_tuple (A := A.in1) hh hz hk hold (by rw [hs]; omega) g fun h' ps a1 a2 a3 a4 => ⟨⟨_, Heap.get?_push_size _ rfl, rfl⟩, hQ h' ps a1 a2 a3 a4⟩) fun obj s₁ h₁ => ?_
  exact ⟨h₁.1, F.args_object_init_2 obj _, object_init_meets F.called_tuple.init.lookup F.called_tuple.made (by decide) prog w A.in1 _ s₁ ⟨h₁.1, rfl, h₁.2⟩⟩
end
end ZS

set_option Elab.async false
set_option linter.all false
set_option maxRecDepth 100000
set_option maxHeartbeats 1000000
namespace Sv
open PySem PySem.Spec PyProof.Rows L2
theorem callWith_typeS {M : Model} {A : Around} {E : Value → Shared → Prop} {s : Shared} {pos : Pos} {T : String} {e : Expr} {p : Pos} {env : Env} {Q : Value → Shared → Prop}
    (h : wpAny M A (eval e env) (fun v s₁ => PySem.W.StarOf M A E v (fun vs s₂ => wpAny M A (call (.type T) vs) Q E s₂) s₁) E s) (he : starEach [.Starred e p] env = [(true, eval e env)] := by rfl) :
    wpAny M A (callWith pos (.type T) [] (backTo pos (starEach [.Starred e p] env)) []) Q E s := by
  rw [he]
  exact PySem.W.ks_call (P := fun _ => True) rfl (fun h _ => ⟨.machine, .inr (.inl rfl), PySem.W.Looks.of_pure rfl⟩) (PySem.W.ks_lone (wpAny_mono h (fun v s1 q => wpAny_mono q (fun b s2 ⟨hb, q⟩ => ⟨hb, wpAny_mono q (fun vs s3 q => ⟨trivial, q⟩) fun _ _ z => z⟩) fun _ _ z => z) fun _ _ z => z))
def colV (rows : List (List V)) (i : Nat) : List V := rows.map fun r => r.getD i .non
def tZip (K : PySem.W.Frag) (te : TE) : TE := fun σ H Q => te σ H fun x H1 => ∃ (a : Addr) (rs : List Addr) (rows : List (List V)) (n : Nat), x = .ref a ∧ SqT K H1 a (rs.map V.ref) ∧ rows.length = rs.length ∧ (∀ (k : Nat) (r : Addr) (row : List V), rs[k]? = some r → rows[k]? = some row → SqT K H1 r row ∧ row.length = n) ∧ rs ≠ [] ∧ rs.length ≤ 5 ∧ 0 < n ∧ n ≤ 1000 ∧
  ∀ (H' : Hp) (t : Addr) (ot : Obj) (ps : List Addr), Same H1 H' → H1 t = none → H' t = some (.frz ot (.tup (ps.map V.ref))) → ot.dict = none → ps.length = n → (∀ (i : Nat) (p : Addr), ps[i]? = some p → ∃ o : Obj, o.dict = none ∧ H1 p = none ∧ H' p = some (.frz o (.tup (colV rows i)))) → Q (.ref t) H'
theorem rows_vals {X : Cx} {pins : List (Addr × Obj)} {σ : L2.St} {H : Hp} {s : Shared} (I : Inv X pins σ H s) : ∀ (rs : List Addr) (rows : List (List V)), rows.length = rs.length → (∀ (k : Nat) (r : Addr) (row : List V), rs[k]? = some r → rows[k]? = some row → SqT X.K H r row) →
    ∃ uss : List (List Value), uss.length = rs.length ∧ (∀ (k : Nat) (row : List V) (us : List Value), rows[k]? = some row → uss[k]? = some us → Vals row us) ∧ ∀ (k : Nat) (r : Addr) (us : List Value), rs[k]? = some r → uss[k]? = some us → s.heap.IsTuple r us.toArray
  | [], rows, hl, _ => ⟨[], rfl, fun k row us _ e => by simp at e, fun k r us e _ => by simp at e⟩
  | r :: rs, [], hl, _ => by simp at hl
  | r :: rs, row :: rows, hl, h => by
    obtain ⟨uss, l, a, b⟩ := rows_vals I rs rows (by simpa using hl) fun k r row e1 e2 => h (k + 1) r row (by simpa using e1) (by simpa using e2)
    obtain ⟨its, r1, t1, _⟩ := I.tuple (h 0 r row rfl rfl)
    refine ⟨its :: uss, by simp [l], fun k row' us e1 e2 => ?_, fun k r' us e1 e2 => ?_⟩
    · cases k with
      | zero => simp at e1 e2; subst e1; subst e2; exact r1
      | succ k => exact a k _ _ (by simpa using e1) (by simpa using e2)
    · cases k with
      | zero => simp at e1 e2; subst e1; subst e2; exact t1
      | succ k => exact b k _ _ (by simpa using e1) (by simpa using e2)
theorem refs_vals : ∀ {rs : List Addr} {us : List Value}, Vals (rs.map V.ref) us → us = rs.map Value.ref
  | [], _, .nil => rfl
  | r :: rs, _, .cons h t => by
    have h : _ = Value.ref r := h
    rw [List.map_cons, h, refs_vals t]
theorem vals_refs : ∀ rs : List Addr, Vals (rs.map V.ref) (rs.map Value.ref)
  | [] => .nil
  | r :: rs => .cons rfl (vals_refs rs)
theorem vals_get {vs : List V} {us : List Value} (r : Vals vs us) {i : Nat} (h : i < vs.length) : RelV (vs.getD i .non) (us.getD i .none) := by
  obtain ⟨v, hv⟩ : ∃ v, vs[i]? = some v := ⟨_, List.getElem?_eq_getElem h⟩
  obtain ⟨u, hu, h2⟩ := r.get hv
  rw [List.getD_eq_getElem?_getD, List.getD_eq_getElem?_getD, hv, hu]
  exact h2
theorem col_vals {rows : List (List V)} {uss : List (List Value)} {i : Nat} (hl : uss.length = rows.length) (hv : ∀ (k : Nat) (row : List V) (us : List Value), rows[k]? = some row → uss[k]? = some us → Vals row us) (hi : ∀ row ∈ rows, i < row.length) : Vals (colV rows i) (uss.map fun us => us.getD i .none) := by
  induction rows generalizing uss with
  | nil => cases uss with
    | nil => exact .nil
    | cons _ _ => simp at hl
  | cons row rows ih =>
    cases uss with
    | nil => simp at hl
    | cons us uss =>
      exact .cons (vals_get (hv 0 row us rfl rfl) (hi row List.mem_cons_self)) (ih (by simpa using hl) (fun k r u e1 e2 => hv (k + 1) r u (by simpa using e1) (by simpa using e2)) fun r hr => hi r (List.mem_cons_of_mem _ hr))
section
variable {X : Cx} {e : Expr} {te : TE} {p1 p2 pos1 pos2 : Pos} {j : Pos}
theorem pe_zipS (hc : X.calm = true) (h1 : Gl X "tuple") (h2 : X.mg "tuple" = none) (h3 : Gl X "zip") (h4 : X.mg "zip" = none) (he : PE X e te) (hs : starEach [.Starred e j] X.env = [(true, eval e X.env)] := by rfl)
    (hs1 : starEach [.Call (.Name "zip" p2) [.Starred e j] [] pos2] X.env = (false, eval (.Call (.Name "zip" p2) [.Starred e j] [] pos2) X.env) :: starEach [] X.env := by rfl) (hpl : (backTo pos1 (starEach [] X.env)).any (·.1) = false := by rfl) :
    PE X (.Call (.Name "tuple" p1) [.Call (.Name "zip" p2) [.Starred e j] [] pos2] [] pos1) (tZip X.K te) := by
  refine ⟨fun pins s σ H Q I h => ?_⟩
  refine wpAny_Call_Name_kw (ld_blt I h1 h2 (u := .type "tuple") (by decide +kernel) ?_)
  refine PyProof.Rows.callWith_type1 ?_ hs1 hpl
  rw [hs1]
  show wpAny _ _ (spliced ((false, eval (.Call (.Name "zip" p2) [.Starred e j] [] pos2) X.env) :: backTo pos1 (starEach [] X.env))) _ _ s
  refine Calls.spliced_cons ?_
  refine wpAny_Call_Name_kw (ld_blt I h3 h4 (u := .type "zip") (by decide +kernel) ?_)
  refine callWith_typeS (thn (he.run pins s σ H _ I h) fun v s1 ⟨x, H1, I1, r1, a, rs, rows, n, ex, hsq, hl, hrow, hne, h5, n0, n1, q⟩ => ?_) hs
  subst ex
  cases r1
  refine star_tup I1 hsq fun us s2 I2 rv => ?_
  rw [refs_vals rv]
  obtain ⟨uss, ul, uv, ut⟩ := rows_vals I2 rs rows hl fun k r row e1 e2 => (hrow k r row e1 e2).1
  refine ZS.call_zip (xss := uss.map List.toArray) (by rw [List.length_map, ul]) h5 (fun k r xs e1 e2 => ?_) fun hz zn => ?_
  · rw [List.getElem?_map] at e2
    cases hu : uss[k]? with
    | none => rw [hu] at e2; cases e2
    | some us => rw [hu] at e2; cases e2; exact ut k r us e1 hu
  refine Calls.spliced_nil ?_
  have ulen : ∀ (k : Nat) (us : List Value), uss[k]? = some us → us.length = n := fun k us e => by
    have hk : k < rows.length := by rw [hl, ← ul]; exact (List.getElem?_eq_some_iff.mp e).1
    have hk2 : k < rs.length := by rw [← hl]; exact hk
    have z1 := (hrow k _ _ (List.getElem?_eq_getElem hk2) (List.getElem?_eq_getElem hk)).2
    rw [← (uv k _ us (List.getElem?_eq_getElem hk) e).length]
    exact z1
  refine ZS.call_tuple (h0 := s2.heap) (xss := uss.map List.toArray) (cols := (List.range n).map fun i => uss.map fun us => us.getD i .none) (I2.ok.hd hc) zn (by rw [List.length_map, ul]) h5 hne (fun r hr => ?_) n0 n1 (by simp) (fun i col e => ⟨?_, fun k xs e2 => ?_⟩) (fun k xs e2 => ?_) fun hF ps a1 a2 a3 a4 => ?_
  · obtain ⟨k, hk⟩ := List.getElem?_of_mem hr
    have hk2 : k < uss.length := by rw [ul]; exact (List.getElem?_eq_some_iff.mp hk).1
    obtain ⟨o, ho, _⟩ := ut k r _ hk (List.getElem?_eq_getElem hk2)
    exact ⟨o, ho⟩
  · rw [List.getElem?_map] at e
    cases q1 : (List.range n)[i]? with
    | none => rw [q1] at e; cases e
    | some i' => rw [q1] at e; cases e; rw [List.length_map, ul]
  · have hi : i < n := by
      have := (List.getElem?_eq_some_iff.mp e).1
      simpa using this
    rw [List.getElem?_map, List.getElem?_range hi] at e
    cases e
    rw [List.getElem?_map] at e2 ⊢
    cases hu : uss[k]? with
    | none => rw [hu] at e2; cases e2
    | some us =>
      rw [hu] at e2
      cases e2
      have := ulen k us hu
      show us.toArray[i]? = some (us.getD i .none)
      rw [List.getElem?_toArray, List.getD_eq_getElem?_getD, List.getElem?_eq_getElem (by omega)]
      rfl
  · rw [List.getElem?_map] at e2
    cases hu : uss[k]? with
    | none => rw [hu] at e2; cases e2
    | some us =>
      rw [hu] at e2
      cases e2
      have := ulen k us hu
      rw [List.getElem?_toArray]
      exact List.getElem?_eq_none (by omega)
  -- the columns
  have cv : ∀ i, i < n → Vals (colV rows i) (uss.map fun us => us.getD i .none) := fun i hi => col_vals (by rw [ul, hl]) uv fun row hr => by
    obtain ⟨k, hk⟩ := List.getElem?_of_mem hr
    have hk2 : k < rs.length := by rw [← hl]; exact (List.getElem?_eq_some_iff.mp hk).1
    rw [(hrow k _ row (List.getElem?_eq_getElem hk2) hk).2]
    exact hi
  have pi : ∀ (i : Nat) (p : Addr), ps[i]? = some p → i < n ∧ hF.get? p = some (ZS.TObj (uss.map fun us => us.getD i .none).toArray) ∧ s2.heap.objs.size ≤ p ∧ p < hF.objs.size := fun i p e => by
    have hi : i < n := by rw [← a2]; exact (List.getElem?_eq_some_iff.mp e).1
    obtain ⟨col, e1, e2, e3⟩ := a3 i p e
    rw [List.getElem?_map, List.getElem?_range hi] at e1
    cases e1
    exact ⟨hi, e2, e3, Heap.lt_size e2⟩
  let H' : Hp := fun b => if b < s2.heap.objs.size then H1 b else if b = hF.objs.size then some (.frz (ZS.TObj (ps.map Value.ref).toArray) (.tup (ps.map V.ref))) else
    match (List.range n).find? (fun i => decide (ps[i]? = some b)) with
    | some i => some (.frz (ZS.TObj (uss.map fun us => us.getD i .none).toArray) (.tup (colV rows i)))
    | none => none
  have same : Same H1 H' := fun b u e => by
    show (if b < s2.heap.objs.size then H1 b else _) = _
    rw [if_pos (I2.hok b u e).lt]
    exact e
  have low : ∀ b, b < s2.heap.objs.size → H' b = H1 b := fun b hb => if_pos hb
  have at_t : H' hF.objs.size = some (.frz (ZS.TObj (ps.map Value.ref).toArray) (.tup (ps.map V.ref))) := by
    show (if hF.objs.size < s2.heap.objs.size then _ else _) = _
    rw [if_neg (Nat.not_lt.mpr a1), if_pos rfl]
  have at_p : ∀ (i : Nat) (p : Addr), ps[i]? = some p → H' p = some (.frz (ZS.TObj (uss.map fun us => us.getD i .none).toArray) (.tup (colV rows i))) := fun i p e => by
    obtain ⟨hi, e2, e3, e4⟩ := pi i p e
    show (if p < s2.heap.objs.size then _ else if p = hF.objs.size then _ else _) = _
    rw [if_neg (Nat.not_lt.mpr e3), if_neg (Nat.ne_of_lt e4)]
    cases hf : (List.range n).find? (fun i => decide (ps[i]? = some p)) with
    | none =>
      have := List.find?_eq_none.mp hf i (List.mem_range.mpr hi)
      exact absurd (decide_eq_true e) this
    | some i' =>
      have hp : ps[i']? = some p := of_decide_eq_true (List.find?_some (p := fun i => decide (ps[i]? = some p)) hf)
      obtain ⟨hi', e2', _, _⟩ := pi i' p hp
      rw [e2] at e2'
      have ec : (uss.map fun us => us.getD i .none) = (uss.map fun us => us.getD i' .none) := by
        have z := Option.some.inj e2'
        injection z with _ _ z3 _
        injection z3 with z4
        simpa using z4
      have ev : colV rows i = colV rows i' := (cv i hi).inj (ec ▸ cv i' hi')
      show some _ = some _
      rw [ec, ev]
  have big : (1000 : Nat) ≤ sizeLine := by decide
  have kp : ∀ b o, s2.heap.get? b = some o → (hF.push (ZS.TObj (ps.map Value.ref).toArray)).get? b = some o := fun b o e => Heap.get?_push_of_some _ (a4 b o e)
  have hok : HOk X.prog X.w H' (hF.push (ZS.TObj (ps.map Value.ref).toArray)) := fun b u e => by
    by_cases hb : b < s2.heap.objs.size
    · rw [low b hb] at e
      exact (I2.hok b u e).stay (fun c v _ q => kp c v q) (fun c q => same _ _ q) fun c xs q => same _ _ q
    · by_cases ht : b = hF.objs.size
      · subst ht
        rw [at_t] at e
        cases e
        have g0 : (hF.push (ZS.TObj (ps.map Value.ref).toArray)).get? hF.objs.size = some (ZS.TObj (ps.map Value.ref).toArray) := Heap.get?_push_size _ rfl
        exact ⟨g0, by rw [List.length_map, a2]; omega, _, vals_refs ps, ⟨_, g0, rfl, _, rfl⟩⟩
      · have e0 : (match (List.range n).find? (fun i => decide (ps[i]? = some b)) with
          | some i => some (HO.frz (ZS.TObj (uss.map fun us => us.getD i .none).toArray) (.tup (colV rows i)))
          | none => none) = some u := by
          have e : (if b < s2.heap.objs.size then _ else if b = hF.objs.size then _ else _) = some u := e
          rw [if_neg hb, if_neg ht] at e
          exact e
        cases hf : (List.range n).find? (fun i => decide (ps[i]? = some b)) with
        | none => rw [hf] at e0; cases e0
        | some i =>
          rw [hf] at e0
          cases e0
          obtain ⟨hi, e2, _, _⟩ := pi i b (of_decide_eq_true (List.find?_some (p := fun i => decide (ps[i]? = some b)) hf))
          have g0 : (hF.push (ZS.TObj (ps.map Value.ref).toArray)).get? b = _ := Heap.get?_push_of_some _ e2
          refine ⟨g0, ?_, _, cv i hi, ⟨_, g0, rfl, _, rfl⟩⟩
          unfold colV
          rw [List.length_map, hl]
          omega
  have un : Un X.fs [] H1 H' s2.heap (hF.push (ZS.TObj (ps.map Value.ref).toArray)) :=
    ⟨fun b o e _ _ _ => kp b o e, fun b o e _ _ _ => ⟨o.slots, kp b o e⟩, fun b o e n _ => by rw [low b (Heap.lt_size e)]; exact n, fun b o e _ => ⟨o, kp b o e⟩, fun b xs e => same _ _ e, fun b o u e => same _ _ e, fun b qs e => ⟨#[], by rw [same _ _ e]; simp⟩⟩
  exact ⟨.ref hF.objs.size, H', I2.un (t' := s2.toks) un hok, rfl, q H' _ _ ps same (I2.hok.fresh a1) at_t rfl a2 fun i p e => ⟨_, rfl, I2.hok.fresh (pi i p e).2.2.1, at_p i p e⟩⟩
end
end Sv

set_option Elab.async false
set_option linter.all false
set_option maxRecDepth 100000
namespace Sv
open PySem L2 PyProof.Rows
/-! ## tuple(zip(*rows)), rows of one length -/
def tupsD : List Dat → Option (List (List Dat))
  | [] => some []
  | .tup r :: ds => (tupsD ds).map (r :: ·)
  | _ => none
def zipCols (n : Nat) (ls : List (List Dat)) : List Dat := (List.range n).map fun j => .tup (ls.map fun r => r.getD j .non)
def zipSD (d : Dat) : Option Dat := match d with
  | .tup ds => (match tupsD ds with
    | some (l :: ls) => if (ls.all fun r => decide (r.length = l.length)) = true ∧ ls.length < 5 ∧ 0 < l.length ∧ l.length ≤ 1000 then some (.tup (zipCols l.length (l :: ls))) else none
    | _ => none)
  | _ => none
theorem tups_rep {K : PySem.W.Frag} {H : Hp} : ∀ {ds : List Dat} {vs : List V} {ls : List (List Dat)}, RepA K H vs ds → tupsD ds = some ls → ∃ (rs : List Addr) (rows : List (List V)), vs = rs.map V.ref ∧ rows.length = rs.length ∧ ls.length = rs.length ∧
    ∀ (k : Nat) (r : Addr) (row : List V) (l : List Dat), rs[k]? = some r → rows[k]? = some row → ls[k]? = some l → TupAt K H r row ∧ RepA K H row l
  | [], _, _, .nil, e => by cases e; exact ⟨[], [], rfl, rfl, rfl, fun k r row l e _ _ => by simp at e⟩
  | d :: ds, _, ls, .cons h1 h2, e => by
    cases d with
    | tup l0 =>
      unfold tupsD at e
      cases q : tupsD ds with
      | none => rw [q] at e; cases e
      | some ls' =>
        rw [q] at e
        cases e
        obtain ⟨rs, rows, rfl, a, b, c⟩ := tups_rep h2 q
        cases h1 with
        | @tup r0 row0 _ t1 t2 =>
          refine ⟨r0 :: rs, row0 :: rows, rfl, by simp [a], by simp [b], fun k r row l e1 e2 e3 => ?_⟩
          cases k with
          | zero => simp at e1 e2 e3; subst e1; subst e2; subst e3; exact ⟨t1, t2⟩
          | succ k => exact c k r row l (by simpa using e1) (by simpa using e2) (by simpa using e3)
    | _ => cases e
theorem col_rep {K : PySem.W.Frag} {H : Hp} {i : Nat} : ∀ {rows : List (List V)} {ls : List (List Dat)}, rows.length = ls.length → (∀ (k : Nat) (row : List V) (l : List Dat), rows[k]? = some row → ls[k]? = some l → RepA K H row l ∧ i < l.length) → RepA K H (colV rows i) (ls.map fun r => r.getD i .non)
  | [], [], _, _ => .nil
  | [], _ :: _, h, _ => by simp at h
  | _ :: _, [], h, _ => by simp at h
  | row :: rows, l :: ls, h, c => by
    obtain ⟨r, hi⟩ := c 0 row l rfl rfl
    refine .cons ?_ (col_rep (by simpa using h) fun k row l e1 e2 => c (k + 1) row l (by simpa using e1) (by simpa using e2))
    obtain ⟨d, hd⟩ : ∃ d, l[i]? = some d := ⟨_, List.getElem?_eq_getElem hi⟩
    obtain ⟨v, hv, hr⟩ := r.get hd
    show Rep K H (row.getD i .non) (l.getD i .non)
    rw [List.getD_eq_getElem?_getD, List.getD_eq_getElem?_getD, hv, hd]
    exact hr
section
variable {X : Cx} {W : WX} {e : Expr} {f : M Dat}
theorem de_zipS {p1 p2 pos1 pos2 : Pos} {j} (hc : X.calm = true) (h1 : Gl X "tuple") (h2 : X.mg "tuple" = none) (h3 : Gl X "zip") (h4 : X.mg "zip" = none) (h : DE X W e f) (hs : starEach [.Starred e j] X.env = [(true, eval e X.env)] := by rfl)
    (hs1 : starEach [.Call (.Name "zip" p2) [.Starred e j] [] pos2] X.env = (false, eval (.Call (.Name "zip" p2) [.Starred e j] [] pos2) X.env) :: starEach [] X.env := by rfl) (hpl : (backTo pos1 (starEach [] X.env)).any (·.1) = false := by rfl) :
    DE X W (.Call (.Name "tuple" p1) [.Call (.Name "zip" p2) [.Starred e j] [] pos2] [] pos1) (f.un1 zipSD) :=
  PE.imp (pe_zipS hc h1 h2 h3 h4 h hs hs1 hpl) fun σ H Q ⟨z, H0, ρ, rl, q⟩ => part rl q fun d v H1 G1 ρ1 r1 s1 hv q1 => by
    obtain ⟨dz, e, q2⟩ := Run.lift q1
    unfold zipSD at e
    cases d with
    | tup ds =>
      dsimp only at e
      cases ht : tupsD ds with
      | none => rw [ht] at e; cases e
      | some ls' =>
        rw [ht] at e
        cases ls' with
        | nil => cases e
        | cons l ls =>
          dsimp only at e
          split at e
          · rename_i hcond
            cases e
            obtain ⟨ca, c5, c0, c1⟩ := hcond
            have call : ∀ x ∈ l :: ls, x.length = l.length := fun x hx => by
              rcases List.mem_cons.mp hx with rfl | hx
              · rfl
              · exact of_decide_eq_true (List.all_eq_true.mp ca x hx)
            cases hv with
            | @tup a vs _ t1 t2 =>
              obtain ⟨rs, rows, rfl, l1, l2, hrow⟩ := tups_rep t2 ht
              have l2' : ls.length + 1 = rs.length := l2
              refine ⟨a, rs, rows, l.length, rfl, sameT r1.sub t1.sq, l1, fun k r row e1 e2 => ?_, fun h => by rw [h] at l2'; simp at l2', by omega, c0, c1, fun H' t ot ps same ht0 htt od pl hps => ?_⟩
              · have hk : k < (l :: ls).length := by rw [l2]; exact (List.getElem?_eq_some_iff.mp e1).1
                obtain ⟨x1, x2⟩ := hrow k r row _ e1 e2 (List.getElem?_eq_getElem hk)
                exact ⟨sameT r1.sub x1.sq, by rw [x2.length]; exact call _ (List.getElem_mem hk)⟩
              · let G' : Hp := fun b => match H1 b with
                  | none => H' b
                  | some _ => G1 b
                have gn : ∀ b, H1 b = none → G' b = H' b := fun b hb => by show (match H1 b with | none => H' b | some _ => G1 b) = _; rw [hb]
                have gs : ∀ b u, H1 b = some u → G' b = G1 b := fun b u hb => by show (match H1 b with | none => H' b | some _ => G1 b) = _; rw [hb]
                have g : Grow H1 H' G1 G' := ⟨same, fun b u e => by rw [gs b u (r1.sub _ _ e)]; exact e, fun b u e => by
                  cases hb : H1 b with
                  | none => rw [gn b hb] at e; exact e
                  | some o => rw [gs b o hb] at e; exact same _ _ (r1.sub _ _ e), fun b o hb hg => by rw [gs b o hb]; exact hg⟩
                refine q2 H' G' (g.rel r1) g.s _ (.tup (.inl ⟨ot, by rw [gn t ht0]; exact htt, od⟩) (RepA.of_get (by unfold zipCols; simp [pl]) fun i v d e1 e2 => ?_))
                rw [List.getElem?_map] at e1
                cases hp : ps[i]? with
                | none => rw [hp] at e1; cases e1
                | some p =>
                  rw [hp] at e1
                  cases e1
                  obtain ⟨o, od', hp0, hpp⟩ := hps i p hp
                  have hi : i < l.length := by rw [← pl]; exact (List.getElem?_eq_some_iff.mp hp).1
                  unfold zipCols at e2
                  rw [List.getElem?_map, List.getElem?_range hi] at e2
                  cases e2
                  refine .tup (.inl ⟨o, by rw [gn p hp0]; exact hpp, od'⟩) (RepA.mono g.s (col_rep (by rw [l1, ← l2]) fun k row x e1 e2 => ?_))
                  have hk : k < rs.length := by rw [← l1]; exact (List.getElem?_eq_some_iff.mp e1).1
                  exact ⟨(hrow k _ row x (List.getElem?_eq_getElem hk) e1 e2).2, by rw [call x (List.mem_of_getElem? e2)]; exact hi⟩
          · cases e
    | _ => cases e
end
end Sv

set_option Elab.async false
set_option linter.all false
set_option maxRecDepth 100000
set_option maxHeartbeats 1000000
namespace Sv
open PySem L2 PyProof.Rows
/-! ## constants of the written part -/
def KV (K : PySem.W.Frag) (u : Value) (v : V) (d : Dat) : Prop := RelV v u ∧ KRep K v d
structure KVs (K : PySem.W.Frag) (us : List Value) (vs : List V) (ds : List Dat) : Prop where
  v : Vals vs us
  r : ∀ H, RepA K H vs ds
section
variable {K : PySem.W.Frag} {u : Value} {v : V} {d : Dat} {us : List Value} {vs : List V} {ds : List Dat}
theorem kv_int {i : Int} {t} : KV K (.int i t) (.int i) (.int i) := ⟨⟨t, rfl⟩, fun _ => .int i⟩
theorem kv_str {x : Str} {t} : KV K (.str x t) (.str x) (.str x) := ⟨⟨t, rfl⟩, fun _ => .str x⟩
theorem kv_bl {b : Bool} : KV K (.bool b) (.bl b) (.bl b) := ⟨rfl, fun _ => .bl b⟩
theorem kv_non : KV K .none .non .non := ⟨rfl, fun _ => .non⟩
theorem kvs_nil : KVs K [] [] [] := ⟨.nil, fun _ => .nil⟩
theorem kvs_cons (h : KV K u v d) (h2 : KVs K us vs ds) : KVs K (u :: us) (v :: vs) (d :: ds) := ⟨.cons h.1 h2.v, fun H => .cons (h.2 H) (h2.r H)⟩
theorem kv_tup {ad : Addr} {n : Nat} {sl : Array (Option Value)} (h : K.lookup ad = some ⟨.type "tuple", none, .seq us.toArray n, sl⟩) (hl : us.length ≤ 1000000) (h2 : KVs K us vs ds) : KV K (.ref ad) (.ref ad) (.tup ds) :=
  ⟨rfl, KRep.tup h rfl rfl rfl hl h2.v h2.r⟩
theorem kv_glob {mg : Str → Option Value} {x : Str} (h : mg x = some u) (h2 : KV K u v d) : mg x = some u ∧ RelV v u ∧ KRep K v d := ⟨h, h2.1, h2.2⟩
theorem kvs_rep (h : KVs K us vs ds) : ∀ H, RepA K H vs ds := h.r
theorem kwn {D : Addr} : ∀ q ∈ ([] : List (Str × V)), ∃ u, PySem.W.nsIn K D q.1 = some (some u) ∧ RelV q.2 u := nofun
theorem kwc {D : Addr} {x : Str} {l : List (Str × V)} (h : PySem.W.nsIn K D x = some (some u)) (h2 : KV K u v d) (r : ∀ q ∈ l, ∃ u, PySem.W.nsIn K D q.1 = some (some u) ∧ RelV q.2 u) : ∀ q ∈ (x, v) :: l, ∃ u, PySem.W.nsIn K D q.1 = some (some u) ∧ RelV q.2 u := fun q hq => by
  rcases List.mem_cons.mp hq with e | e
  · cases e; exact ⟨u, h, h2.1⟩
  · exact r q e
theorem fun_same {x qual x2 qual2 : Str} {st st2 : Stmt} {f : Addr} {fd fd2 : FuncData} (F : Fun K x qual st f fd) (F2 : Fun K x2 qual2 st2 f fd2) : fd = fd2 := by
  obtain ⟨_, _, _, _, _, _, _, _, _, _, e, _⟩ := F.ex
  obtain ⟨_, _, _, _, _, _, _, _, _, _, e2, _⟩ := F2.ex
  rw [e] at e2
  cases e2; rfl
theorem bdD_mk {mg : Str → Option Value} {x qual : Str} {st : Stmt} {ps : List Str} {dvs : List V} {kws : List (Str × V)} {f : Addr} {fd fd2 : FuncData} (FD : FunD K x qual (defArgs st) (defBody st) (defScope st) [] kws f fd2) (F : Fun K x qual st f fd) (hm : mg x = some (.ref f))
    (hb : ∃ ds, Vals dvs ds ∧ Binds K fd2 ps ds) : BdD K mg x qual st ps dvs := fun fa fd' F' hm' => by
  rw [hm] at hm'
  cases hm'
  obtain ⟨_, _, _, _, _, _, _, _, _, _, e, e', _⟩ := FD.ex
  obtain ⟨_, _, _, _, _, _, _, _, _, e1, e2, _⟩ := F'.ex
  rw [e2] at e'
  cases e'
  exact hb
end
/-! ## the law -/
def spLaw (K : PySem.W.Frag) : L2.Sp := fun vs H Q _ => ∃ (a : Addr) (ns : List Int), vs = [.ref a] ∧ SqL K H a (ns.map V.int) ∧ ns.length ≤ 63 ∧ ∀ H', Q (.bl true) H'
theorem rep_ints {K : PySem.W.Frag} {H : Hp} : ∀ ns : List Int, RepA K H (ns.map V.int) (ns.map Dat.int)
  | [] => .nil
  | n :: ns => .cons (.int n) (rep_ints ns)
theorem law_ok {P : Program} {w : World} {K : PySem.W.Frag} {mg : Str → Option Value} {base : Heap} {x qual : Str} {st : Stmt} {k : Nat} {ps : List Str} {G : List Dat → O} {fa : Addr} {fd : FuncData} (F : Fun K x qual st fa fd) (hm : mg x = some (.ref fa)) (D : Fd P w K mg base x qual st k ps (spP K mg 1 G))
    (h : ∀ ns : List Int, ns.length ≤ 63 → G [.scr (ns.map Dat.int)] = .ret (.bl true) []) : FnG P w K mg base (L2.CX P w) k fa fd ps (spLaw K) := by
  obtain ⟨fa', fd', F', ok, hm'⟩ := D.ex
  rw [hm] at hm'
  cases hm'
  obtain ⟨_, _, _, _, _, _, _, _, _, e1, e2, _⟩ := F.ex
  obtain ⟨_, _, _, _, _, _, _, _, _, e3, e4, _⟩ := F'.ex
  rw [e2] at e4
  cases e4
  refine ok.imp fun vs H Q E ⟨a, ns, hv, hs, hl, q⟩ => ?_
  subst hv
  refine ⟨H, [.scr (ns.map Dat.int)], Same.refl _, .cons (.scr hs (rep_ints ns)) .nil, rfl, ?_⟩
  rw [h ns hl]
  intro v H' H0' g hv
  cases hv
  exact q H'
/-- the law's run, at the heap behind the top -/
theorem law_run {P : Program} {w : World} {K : PySem.W.Frag} {mg mb : Str → Option Value} {k : Nat} {fa a : Addr} {fd : FuncData} {s : Shared} {us : List Value} {ns : List Int} (X : K.In s.heap) (hM : s.heap.Ns mainGlobals mg) (hB : s.heap.Ns builtinsNs mb) (hbb : ∀ y : Str, y ≠ "__name__" → mb y = bootBuiltins y) (nl : s.heap.NoLimit) (g0 : s.gens = #[])
    (oa : s.heap.get? a = some { cls := .type "list", data := .seq us.toArray }) (ii : IntsAre us ns) (hl : ns.length ≤ 63) (hr : RoomG k callerA)
    (F : ∀ base : Heap, K.In base → base.Ns mainGlobals mg → FnG P w K mg base (L2.CX P w) k fa fd ["script"] (spLaw K)) (hb : ∀ (t : Shared) (u : Value), BindsTo t fd ⟨[u], []⟩ [("script", u)]) :
    codeAny (model P w) callerA (.call (.ref fa) ⟨[.ref a], []⟩) (fun r s' => r = .ok (.ret (.bool true)) ∧ OldK s.heap s'.heap ∧ s'.os = s.os ∧ AllBare s'.gens) s := by
  have hz : (63 : Nat) ≤ sizeLine := by decide
  have run : ∀ H : Hp, (∀ b, H b = none ∨ ∃ o xs, b = a ∧ H b = some (.frz o (.lst xs))) → SqL K H a (ns.map V.int) → HOk P w H s.heap → (H a ≠ none → K.lookup a = none) →
      codeAny (model P w) callerA (.call (.ref fa) ⟨[.ref a], []⟩) (fun r s' => r = .ok (.ret (.bool true)) ∧ OldK s.heap s'.heap ∧ s'.os = s.os ∧ AllBare s'.gens) s := fun H hO hS hok hK => by
    have keep : ∀ {b : Addr} {o : Obj}, s.heap.get? b = some o → b ≠ a → (hidT s.heap H).get? b = some o := fun {b o} e n => hidT_get e (by
      rcases hO b with z | ⟨_, _, z, _⟩
      · exact z
      · exact absurd z n)
    have nsd : ∀ {b : Addr} {m : Str → Option Value}, s.heap.Ns b m → (hidT s.heap H).Ns b m := fun {b m} ⟨o, es, ep, e, d, r⟩ => ⟨o, es, ep, keep e (fun z => by
      rw [z, oa] at e
      cases e
      cases d), d, r⟩
    have kin : K.In (hidT s.heap H) := fun b o e => by
      by_cases hba : b = a
      · subst hba
        exact hidT_get (X b o e) (Classical.byContradiction fun z => by rw [hK z] at e; cases e)
      · exact keep (X b o e) hba
    have hMod : Mod K mg (hidT s.heap H) := ⟨kin, nsd hM, ⟨mb, nsd hB, hbb⟩, let ⟨mc, h1, h2⟩ := nl; ⟨mc, nsd h1, h2⟩⟩
    have env : Env0 P w K mg (hidT s.heap H) callerA [] s H := ⟨rfl, hMod, fun b o e => of_hidT e, Nat.le_of_eq (hidT_size _ _), trivial, (fun b hb => nomatch hb), hok, .of_eq g0⟩
    refine codeAny_mono ((F _ kin (nsd hM)).run callerA [] s H ⟨[.ref a], []⟩ [.ref a] [.ref a] (fun v _ => v = .bl true) (fun _ _ _ => False) hr env (hb s _) (.cons rfl .nil) ⟨a, ns, rfl, hS, hl, fun _ => rfl⟩) fun r s' q => ?_
    match r, q with
    | .error e, q => obtain ⟨_, _, _, _, _, _, _, _, _, _, _, _, z⟩ := q; exact z.elim
    | .ok .next, q => exact False.elim q
    | .ok .brk, q => exact False.elim q
    | .ok .cont, q => exact False.elim q
    | .ok (.ret u), ⟨v, H', q1, q2, ub, hok', rv, qv⟩ =>
      have qv : v = .bl true := qv
      subst qv
      obtain rfl : u = Value.bool true := rv
      refine ⟨rfl, OldK.of_keep fun b o e => ?_, q1, q2⟩
      rcases hO b with z | ⟨ob, xs, _, z⟩
      · exact ub.keep b o e z (fun y => nomatch y) (fun y => nomatch y)
      · have z' := ub.frzs b ob _ z
        have h1 := (hok b _ z).1
        have h2 := (hok' b _ z').1
        rw [e] at h1
        cases h1
        exact h2
  have lu : us.length = ns.length := ii.length.symm ▸ rfl
  cases hk : K.lookup a with
  | some o =>
    have e := X a o hk
    rw [oa] at e
    cases e
    exact run (fun _ => none) (fun _ => .inl rfl) (.inr ⟨_, us.toArray, _, hk, rfl, rfl, rfl, by rw [List.size_toArray, lu]; exact Nat.le_trans hl hz, by simpa using vals_ints ii⟩) (fun _ _ z => nomatch z) (fun z => absurd rfl z)
  | none =>
    let H : Hp := fun b => if b = a then some (.frz { cls := .type "list", data := .seq us.toArray } (.lst (ns.map V.int))) else none
    have Ha : H a = some (.frz { cls := .type "list", data := .seq us.toArray } (.lst (ns.map V.int))) := if_pos rfl
    have Hn : ∀ b, b ≠ a → H b = none := fun b n => if_neg n
    refine run H (fun b => ?_) (.inl (.inr ⟨_, Ha⟩)) (fun b u z => ?_) fun _ => hk
    · by_cases n : b = a
      · exact .inr ⟨_, _, n, n ▸ Ha⟩
      · exact .inl (Hn b n)
    · by_cases n : b = a
      · subst n
        rw [Ha] at z
        cases z
        exact ⟨oa, by rw [List.length_map]; exact Nat.le_trans hl hz, us, _, vals_ints ii, oa⟩
      · rw [Hn b n] at z; cases z
theorem walk {l : PySem.W.OpenLaw} {k : Nat} {q : Program} {loose : List Str} {XP : (Str → Option Value) → Heap → Prop} {YP : World → Heap → Prop} {d : DefRec} {K : Params → PySem.W.Frag} (hn : l.most = some 63) (hdf : d.params.defaults = []) (hr : Room k callerA)
    (hY : ∀ (w : World) (h : Heap), YP w h → (K w.params).In h)
    (F : ∀ (w : World) (mg : Str → Option Value) (fa : Addr) (h : Heap), (K w.params).In h → h.Ns mainGlobals mg → mg d.name = some (.ref fa) →
      ∃ fd : FuncData, (∀ (s : Shared) (u : Value), BindsTo s fd ⟨[u], []⟩ [("script", u)]) ∧ ∀ base : Heap, (K w.params).In base → base.Ns mainGlobals mg → FnG l.prog w (K w.params) mg base (L2.CX l.prog w) k fa fd ["script"] (spLaw (K w.params))) :
    PySem.W.WalkO q loose XP YP l.row.toRowW d [] (fun f vs => PySem.call f vs) := by
  refine Att.attach_call hn hdf fun w s₀ s mg mb fa o pm cd doc a us ns G Y ho hd hcd hmg oa ii hlen hg => ?_
  obtain ⟨fd, hb, hF⟩ := F w mg fa _ (hY w _ Y) G.T.g hmg
  exact law_run (hY w _ Y) G.T.g G.T.b G.T.builtins G.T.nolimit hg oa ii hlen ⟨hr, rfl⟩ hF hb
end Sv

set_option Elab.async false
set_option linter.all false
set_option maxRecDepth 100000
namespace Sv
open PySem L2 PySem.Spec PyProof.Rows
/-! ## try with several clauses, some of them with a name -/
/-- a clause: the class, the slot of its name, what its suite does -/
structure Cl where
  c : Value
  sl : Option Nat
  ts : Addr → Value → Option Addr → TS
def offE (D : Ends) (i : Nat) : Ends := ⟨fun τ G => D.nx (τ.set i none) G, D.rt, fun τ G => D.bk (τ.set i none) G, fun τ G => D.ct (τ.set i none) G⟩
def wCl (K : PySem.W.Frag) (Wo : WX) (D : Ends) : List Cl → WX
  | [] => Wo
  | q :: r => fun cls d τ G => ∃ b, PySem.W.exmOne K cls q.c = some b ∧ (b = false → wCl K Wo D r cls d τ G) ∧ (b = true → ∀ a, G a = none → match q.sl with
    | none => q.ts a cls d D τ G
    | some i => q.ts a cls d (offE D i) (τ.set i (some (.ref a))) G)
inductive Hds (X : Cx) : List ExceptHandler → List Cl → Prop
  | nil : Hds X [] []
  | bare {x : Str} {c : Value} {ts : Addr → Value → Option Addr → TS} {st0 : Stmt} {sts : List Stmt} {pn pq : Pos} {hs : List ExceptHandler} {l : List Cl} (hc : Names X x c)
      (go : ∀ (a : Addr) (oe : Obj) (cls : Value) (d : Option Addr) (pins : List (Addr × Obj)), Zc cls d oe → (∃ vs, oe.data = .fields vs) → PSs (X.suite a ((a, oe) :: pins)) (st0 :: sts) (ts a cls d)) (r : Hds X hs l) :
      Hds X (.ExceptHandler (some (.Name x pn)) none (st0 :: sts) pq :: hs) (⟨c, none, ts⟩ :: l)
  | as {x n : Str} {i : Nat} {c : Value} {ts : Addr → Value → Option Addr → TS} {st0 : Stmt} {sts : List Stmt} {pn pq : Pos} {hs : List ExceptHandler} {l : List Cl} (hc : Names X x c) (hi : X.N[i]? = some n) (hln : X.env.kindOf n = some .local)
      (go : ∀ (a : Addr) (oe : Obj) (cls : Value) (d : Option Addr) (pins : List (Addr × Obj)), Zc cls d oe → (∃ vs, oe.data = .fields vs) → PSs (X.suite a ((a, oe) :: pins)) (st0 :: sts) (ts a cls d)) (r : Hds X hs l) :
      Hds X (.ExceptHandler (some (.Name x pn)) (some n) (st0 :: sts) pq :: hs) (⟨c, some i, ts⟩ :: l)
section
variable {X : Cx} {body : List Stmt} {h1 : ExceptHandler} {hs1 : List ExceptHandler} {l : List Cl} {pos : Pos} {tb : WX → TS} {Wo : WX}
theorem ps_tryG (hst : X.stack = X.env :: X.outer) (hf : X.env.frame = some X.env.locals) (hN : X.N.Nodup) (tk : Takes X Wo)
    (hb : ∀ (W : WX) (pn : List (Addr × Obj)) (xe : Value → Shared → Prop), Takes (X.tr pn xe) W → PSs (X.tr pn xe) body (tb W)) (hh : Hds X (h1 :: hs1) l) : PS X (.Try body (h1 :: hs1) [] [] pos) (fun D τ G => tb (wCl X.K Wo D l) D τ G) := by
  refine ⟨fun pins s τ G D I w0 => ?_⟩
  have ok := I.ok
  have fr : X.A.frames = some (X.env :: X.outer) := by rw [ok.frames, hst]
  let catch_ : Value → Shared → Prop := fun e s₁ => wpAny (model X.prog X.w) X.A (noteFrame e X.env) (fun _ s₂ => wpAny (model X.prog X.w) X.A (setFlight e none) (fun _ s₃ => wpAny (model X.prog X.w) X.A (handleBy e X.env (h1 :: hs1)) (SP X pins D) X.xe s₃) X.xe s₂) X.xe s₁
  have tkB : Takes (X.tr (X.pn ++ pins) catch_) (wCl X.K Wo D l) := by
    intro u s' xx
    obtain ⟨a, B, sI, pins', τ', G', cls, d, rfl, Jt, nb, up, sky, na, os, ag, w⟩ := xx
    have J : Inv X pins τ' G' sI := Jt.ofTry ok
    have sky' : Sky B (X.env :: X.outer) a (Zc cls d) X.env.locals s'.heap := by rw [← hst]; exact sky
    show wpAny (model X.prog X.w) X.A (noteFrame (.ref a) X.env) _ _ _
    refine Sky.land Zc.steady fr hf sky' fun hp fl upp => ?_
    have Jl : Inv X pins τ' G' { s' with heap := hp } := J.landed nb fl.1 (up.trans upp) os ag
    obtain ⟨oe, fv, e0, z0, d0⟩ := fl.there
    have off : a ∉ frs (X.env :: X.outer) := fun hm => by
      obtain ⟨_, o', e', hnf⟩ := fl.2.2.1.mem hm
      rw [e0] at e'
      cases e'
      exact hnf _ d0
    have nL : a ≠ X.env.locals := fun z => off (List.mem_filterMap.mpr ⟨X.env, List.mem_cons_self, by rw [hf, z]⟩)
    have nF : a ∉ X.fs := fun hm => by
      obtain ⟨e, he, q⟩ := List.mem_filterMap.mp hm
      exact off (List.mem_filterMap.mpr ⟨e, List.mem_cons_of_mem _ he, q⟩)
    have Sl := Jl.suite e0 d0 na nL nF
    have LT : PySem.W.Looks (model X.prog X.w) hp (typeOf (.ref a)) cls := fun A Q E s k q => wpAny_typeOf_ref (k _ _ e0) (by rw [z0.1]; exact q)
    have look : ∀ {x : Str} {c : Value} {np : Pos} {Q E : Value → Shared → Prop}, Names X x c → Q c { s' with heap := hp } → wpAny (model X.prog X.w) (X.A.mark (some (.ref a))) (eval (.Name x np) X.env) Q E { s' with heap := hp } := fun {x c np Q E} hc q => by
      obtain ⟨hg, hdbg, hm | ⟨hm, hv, hnn⟩⟩ := hc
      · exact ld_glob (X := X.suite a ((a, oe) :: (X.pn ++ pins))) Sl hg hm q hdbg
      · exact ld_blt (X := X.suite a ((a, oe) :: (X.pn ++ pins))) Sl hg hm hv q hnn hdbg
    -- the suite's start, and its end
    have enter : ∀ {st0 : Stmt} {sts : List Stmt} {ts : Addr → Value → Option Addr → TS} {τ2 : L2.St} {D' : Ends} {hq : Heap} {oq : Obj} {sq : Shared}, (∀ (a : Addr) (oe : Obj) (cls : Value) (d : Option Addr) (pins : List (Addr × Obj)), Zc cls d oe → (∃ vs, oe.data = .fields vs) → PSs (X.suite a ((a, oe) :: pins)) (st0 :: sts) (ts a cls d)) →
        Zc cls d oq → (∃ vs, oq.data = .fields vs) → Inv (X.suite a ((a, oq) :: (X.pn ++ pins))) [] τ2 G' sq → ts a cls d D' τ2 G' → wpAny (model X.prog X.w) (X.A.mark (some (.ref a))) (execs (st0 :: sts) X.env) (SP (X.suite a ((a, oq) :: (X.pn ++ pins))) [] D') (fun _ _ => False) sq :=
      fun {st0 sts ts τ2 D' hq oq sq} go z f S w => (go a oq cls d (X.pn ++ pins) z f).run [] sq τ2 G' D' S w
    have all : ∀ {hs' : List ExceptHandler} {l' : List Cl}, Hds X hs' l' → wCl X.K Wo D l' cls d τ' G' → wpAny (model X.prog X.w) X.A (handleBy (.ref a) X.env hs') (SP X pins D) X.xe { s' with heap := hp } := by
      intro hs' l' hk
      induction hk with
      | nil =>
        intro w
        obtain ⟨k1, k2, k3, oe', vs, T, oT, ts', he, hz, hd, hv1, hr⟩ := id fl
        refine wpAny_handleBy_nil (by
          unfold PySem.passOn
          refine wpAny_bind (wpAny_field he hd hv1 ?_)
          rw [if_neg (by simp : ¬ ((Value.ref T == Value.none) = true))]
          have out : wpAny (model X.prog X.w) X.A (setFlight (.ref a) X.env.frame) (fun _ s4 => wpAny (model X.prog X.w) X.A (throw (.ref a) : Sem Flow) (SP X pins D) X.xe s4) X.xe { s' with heap := hp } := by
            rw [hf]
            exact HandSPX.setFlight_upZ fl fun h4 hh4 up4 => wpAny_throw (tk _ _ ⟨a, B, sI, pins, τ', G', cls, d, rfl, J, nb, (up.trans upp).trans up4, .inr (.inr (by rw [hst]; exact hh4)), na, os, ag, w⟩)
          first
            | exact wpAny_bind (wpAny_pure (wpAny_bind out))
            | exact wpAny_bind out)
      | @bare x c ts st0 sts np pq hs2 l2 hc go r ih =>
        intro ⟨b, hb1, hno, hyes⟩
        refine wpAny_handleBy_cons (codeAny_handlers_test (look hc ((PySem.W.exm_one (M := model X.prog X.w) Jl.kIn LT hb1).here ?_))) (fun q => nomatch q)
        match b, hno, hyes with
        | false, hno, _ => exact ih (hno rfl)
        | true, _, hyes =>
          refine codeAny_handlers_suite (HandSPX.lands_againZ fl fun h4 fl4 up4 => ?_)
          have J4 : Inv X pins τ' G' { s' with heap := h4 } := J.landed nb fl4.1 ((up.trans upp).trans up4) os ag
          obtain ⟨oq, fq, eq, zq, dq⟩ := fl4.there
          refine wpAny_mono (enter (hq := h4) go zq ⟨_, dq⟩ (J4.suite eq dq na nL nF) (hyes rfl a na)) (fun f s6 hsp => ?_) fun _ _ z => z.elim
          match f, hsp with
          | .next, ⟨τ6, G6, S6, q6⟩ => exact ⟨_, _, S6.unsuite ok, q6⟩
          | .brk, ⟨τ6, G6, S6, q6⟩ => exact ⟨_, _, S6.unsuite ok, q6⟩
          | .cont, ⟨τ6, G6, S6, q6⟩ => exact ⟨_, _, S6.unsuite ok, q6⟩
          | .ret u, ⟨v6, τ6, G6, S6, r6, q6⟩ => exact ⟨_, _, _, S6.unsuite ok, r6, q6⟩
      | @as x n i c ts st0 sts np pq hs2 l2 hc hi hln go r ih =>
        intro ⟨b, hb1, hno, hyes⟩
        refine wpAny_handleBy_cons (codeAny_handlers_test (look hc ((PySem.W.exm_one (M := model X.prog X.w) Jl.kIn LT hb1).here ?_))) (fun q => nomatch q)
        match b, hno, hyes with
        | false, hno, _ => exact ih (hno rfl)
        | true, _, hyes =>
          refine codeAny_handlers_suite_as (HandSPX.lands_againZ fl fun h4 fl4 up4 => ?_)
          have J4 : Inv X pins τ' G' { s' with heap := h4 } := J.landed nb fl4.1 ((up.trans upp).trans up4) os ag
          obtain ⟨oq, fq, eq, zq, dq⟩ := fl4.there
          refine store_ok (X := X.suite a ((a, oq) :: (X.pn ++ pins))) (v := .ref a) (J4.suite eq dq na nL nF) hN hi (.inl hln) rfl (fun s5 S5 => ?_) (.inr hln)
          refine wpAny_mono (enter (hq := h4) go zq ⟨_, dq⟩ S5 (hyes rfl a na)) (fun f s6 hsp => ?_) fun _ _ z => z.elim
          have leave : ∀ {τ6 : L2.St} {G6 : Hp} {Q : Shared → Prop}, Inv (X.suite a ((a, oq) :: (X.pn ++ pins))) [] τ6 G6 s6 → (∀ s7, Inv X pins (τ6.set i none) G6 s7 → Q s7) → wpAny (model X.prog X.w) X.A (do bindName X.env n .none; unbindBehindTheSuite X.env n pq) (fun _ s7 => Q s7) X.xe s6 :=
            fun {τ6 G6 Q} S6 hq => gone_ok (S6.unsuite ok) hN hi hln hq
          match f, hsp with
          | .next, ⟨τ6, G6, S6, q6⟩ => exact leave S6 fun s7 J7 => ⟨_, _, J7, q6⟩
          | .brk, ⟨τ6, G6, S6, q6⟩ => exact leave S6 fun s7 J7 => ⟨_, _, J7, q6⟩
          | .cont, ⟨τ6, G6, S6, q6⟩ => exact leave S6 fun s7 J7 => ⟨_, _, J7, q6⟩
          | .ret u, ⟨v6, τ6, G6, S6, r6, q6⟩ => exact leave S6 fun s7 J7 => ⟨_, _, _, J7, r6, q6⟩
    exact all hh w
  refine wpAny_Try_except (wpAny_mono ((hb (wCl X.K Wo D l) (X.pn ++ pins) catch_ tkB).run [] s τ G D (I.toTry _) w0) (fun f s1 hsp => ?_) fun _ _ z => z)
  match f, hsp with
  | .next, ⟨τ', G', Jt, q⟩ => exact wpAny_execs_nil ⟨τ', G', Jt.ofTry ok, q⟩
  | .brk, ⟨τ', G', Jt, q⟩ => exact ⟨τ', G', Jt.ofTry ok, q⟩
  | .cont, ⟨τ', G', Jt, q⟩ => exact ⟨τ', G', Jt.ofTry ok, q⟩
  | .ret u, ⟨v, τ', G', Jt, r, q⟩ => exact ⟨v, τ', G', Jt.ofTry ok, r, q⟩
end
end Sv

set_option Elab.async false
set_option linter.all false
set_option maxRecDepth 100000
set_option maxHeartbeats 2000000
namespace PySem
namespace LowXT
open PySem.W PySem.Calls PyProof.Rows PySem.HandSPX
/-! ### the text of __init__ -/
def iA (p1 p2 : Pos) : Arguments := { posonlyargs := [], args := [{ arg := "self", annotation := none, pos := p1 }, { arg := "thing", annotation := none, pos := p2 }], vararg := none, kwonlyargs := [], kw_defaults := [], kwarg := none, defaults := [] }
def iB (q1 q2 q3 q4 : Pos) : List Stmt := [.Assign [.Attribute (.Name "self" q1) "thing" q2] (.Name "thing" q3) q4]
def iS : Scope := { kind := .function, names := [(PySem.Str.ofString "self", .local), (PySem.Str.ofString "thing", .local)], isGenerator := false, isCoroutine := false, more := [] }
/-- what the written part says of Low, at C, and of its __init__, at fI -/
structure LowTxtT (K : Frag) (mg : Str → Option Value) (cx qx : Str) (C fI : Addr) : Prop where
  gC : mg cx = some (.ref C)
  cls : ∃ nm q N bs bm sn sub ab col dd k0 k1 k2 k3 k5, K.lookup C = some (excClassObj nm q C N bs bm true sn sub ab col dd k0 k1 k2 k3 k5 "ValueError.__new__") ∧ refsVE bm = true
  sa : findIn K (.ref C) "__setattr__" = some (some (.builtin "object.__setattr__"))
  ga : findIn K (.ref C) "__getattribute__" = some (some (.builtin "BaseException.__getattribute__"))
  gg : findIn K (.ref C) "__getattr__" = some none
  noN : findIn K (.ref C) "thing" = some none
  iC : findIn K (.ref C) "__init__" = some (some (.ref fI))
  tC : typeIn K (.ref fI) = some (.type "function")
  kC : keepIn K (.ref C) = true
  exC : subIn K (.ref C) (.type "BaseException") = some true
  tyC : typeIn K (.ref C) = some (.type "type")
  hdC : hasDictIn K C = true
  te : exmOne K (.ref C) (.ref C) = some true
  fn : ∃ (oc : Value) (od : Option Addr) (doc pm : Value) (an : Option Addr) (cdv ct : Value) (osl : Array (Option Value)) (p1 p2 q1 q2 q3 q4 : Pos),
    K.lookup fI = some ⟨oc, od, .func (fnOf "__init__" qx (iA p1 p2) (iB q1 q2 q3 q4) iS .none .none doc pm an cdv ct), osl⟩ ∧ codeIn K cdv qx = true
theorem one_sizeT (v : Value) : [v].length ≤ sizeLine := by
  rw [sizeLine_eq]
  exact (by decide : 1 ≤ 16777216)
theorem kept_butT {K : Frag} {h h' : Heap} {x : Addr} (X : K.In h) (hx : K.lookup x = none) (k : ∀ b o, b ≠ x → h.get? b = some o → h'.get? b = some o) : K.In h' := fun a o e =>
  k a o (fun z => by rw [z, hx] at e; cases e) (X a o e)
theorem ldCT {M : Model} {s : Shared} {name : Str} {scope : Scope} {L a : Addr} {cd : Value} {m : Str → Option Value} {x : Str} {pos : Pos} {v : Value} {Q : Value → Shared → Prop} {A : Around} {E : Value → Shared → Prop} (hn : s.heap.Ns L m) (hv : m x = some v) (h : Q v s)
    (hk : scope.kind = .function := by rfl) (hl : (envOfC name scope L a cd).kindOf x = some .local := by rfl) (hd : (x == ("__debug__" : Str)) = false := by decide) :
    wpAny M A (eval (.Name x pos) (envOfC name scope L a cd)) Q E s := wpAny_Name (wpAny_loadName_local hk hl hn hv h) hd
/-- what __init__ leaves of a fresh exception at x -/
structure InitEndT (h h' : Heap) (x C dx t1 : Addr) (v : Value) : Prop where
  keep : ∀ b o, b ≠ x → h.get? b = some o → h'.get? b = some o
  obj : h'.get? x = some { cls := .ref C, dict := some dx, data := .fields #[.ref t1, .none, .none, .none, .bool false, .none] }
  dbig : h.objs.size ≤ dx
  dne : dx ≠ x
  ns : h'.Ns1 dx (fun y => if y = "thing" then some v else none)
/-- a made Low -/
structure OwnMadeT (h h' : Heap) (e C d : Addr) (v : Value) : Prop where
  keep : ∀ b o, h.get? b = some o → h'.get? b = some o
  new : h.objs.size ≤ e
  obj : ∃ oe vs, h'.get? e = some oe ∧ oe.cls = .ref C ∧ oe.dict = some d ∧ oe.data = .fields vs ∧ vs[1]? = some .none
  dbig : h.objs.size ≤ d
  dne : d ≠ e
  ns : h'.Ns1 d (fun y => if y = "thing" then some v else none)
section
variable {prog : Program} {w : World} {A : Around} {E : Value → Shared → Prop} {R : Result → Shared → Prop} {s : Shared} {K : Frag} {mg : Str → Option Value} {cx qx : Str} {C fI : Addr}
theorem low_initT (T : LowTxtT K mg cx qx C fI) {x t0 : Addr} {v : Value} (X : K.In s.heap) (hlim : s.heap.NoLimit) (hx : s.heap.get? x = some (excO C t0)) (hnx : K.lookup x = none) (hroom : A.depth < recursionLimit)
    (hq : ∀ h' tk dx, InitEndT s.heap h' x C dx t0 v → R (.ok (.ret .none)) { s with heap := h', toks := tk }) :
    codeAny (model prog w) A (.call (.ref fI) ⟨[.ref x, v], []⟩) R s := by
  obtain ⟨oc, od, doc, pm, an, cdv, ct, osl, p1, p2, q1, q2, q3, q4, ho, hcd⟩ := T.fn
  obtain ⟨nm, q, N, bs, bm, sn, sub, ab, col, dd, k0, k1, k2, k3, k5, hC, hbm⟩ := T.cls
  have hcl : clsIn K C = some { name := nm, bases := bs, mro := .ref C :: bm, ns := N, qualname := q, hasDict := true, slotNames := sn, subclasses := sub, abstract := ab, collection := col, hasDel := false } := by unfold clsIn; rw [hC] <;> rfl
  refine Att.call_fn (binds := [("self", .ref x), ("thing", v)]) X hlim ho hcd hroom (BindsTo.of_eq (by first | rfl | with_unfolding_all rfl)) (by first | rfl | decide | with_unfolding_all rfl) (fun s₁ IC => ?_) rfl rfl rfl
  obtain ⟨h₁, tk₁, rfl⟩ := IC.toInCall.same
  have k : ∀ b o, s.heap.get? b = some o → h₁.get? b = some o := IC.toInCall.keep
  have hn := IC.toInCall.ns
  have hxL : s.heap.objs.size ≠ x := Nat.ne_of_gt (Heap.lt_size hx)
  have X₁ : K.In h₁ := X.keeps k
  have hx₁ := k _ _ hx
  -- self.by = by
  show wpAny _ _ (execs _ _) _ _ _
  refine wpAny_execs_cons (plainObj_wpAny_Assign_Attribute ?_)
  refine ldCT (v := v) hn (by first | rfl | with_unfolding_all rfl | kernel_rfl) (ldCT (v := .ref x) hn (by first | rfl | with_unfolding_all rfl | kernel_rfl) ?_)
  refine set_plain X₁ (ox := excO C t0) (od := none) ⟨hx₁, rfl, rfl, trivial⟩ T.sa ?_
  refine exc_osa X₁ hx₁ hcl (show refsVE (.ref C :: bm) = true from hbm) rfl T.noN (fun h₃ tk₃ dx k₃ dn dne hx₃ hn₃ => ?_)
  show wpAny _ _ (execs _ _) _ _ _
  have z : s.heap.objs.size < h₁.objs.size := hn.lt
  exact wpAny_execs_nil (hq h₃ tk₃ dx ⟨fun b o hb e => k₃ b o hb (k b o e), hx₃, Nat.le_of_lt (Nat.lt_of_lt_of_le z dn), dne, hn₃⟩)
theorem low_madeT (T : LowTxtT K mg cx qx C fI) {v : Value} (X : K.In s.heap) (hlim : s.heap.NoLimit) (hroom : A.depth + 1 < recursionLimit)
    (hq : ∀ h' tk e d, OwnMadeT s.heap h' e C d v → R (.ok (.ret (.ref e))) { s with heap := h', toks := tk }) :
    codeAny (model prog w) A (.call (.ref C) ⟨[v], []⟩) R s := by
  obtain ⟨nm, q, N, bs, bm, sn, sub, ab, col, dd, k0, k1, k2, k3, k5, hC, hbm⟩ := T.cls
  obtain ⟨hp, g, dr, tk, os⟩ := s
  have k : ∀ b o, hp.get? b = some o → ((hp.push (kdv_tup [v])).push (excO C hp.objs.size)).get? b = some o := fun b o e => Heap.get?_push_of_some _ (Heap.get?_push_of_some _ e)
  have hget : ((hp.push (kdv_tup [v])).push (excO C hp.objs.size)).get? (hp.objs.size + 1) = some (excO C hp.objs.size) := by heap_get
  have hnx : K.lookup (hp.objs.size + 1) = none := by
    cases e : K.lookup (hp.objs.size + 1) with
    | none => rfl
    | some o =>
      have z : hp.get? (hp.objs.size + 1) = some o := X _ _ e
      exact absurd (Nat.lt_of_succ_lt (Heap.lt_size z)) (Nat.lt_irrefl _)
  refine call_own F.excBase_ValueError (fun X => refsVE_contains X bm hbm) (X _ _ hC) (looks_findIn X T.iC) (fun self => bind_fn X self T.tC) (one_sizeT v) ?_
  refine low_initT (s := ⟨(hp.push (kdv_tup [v])).push (excO C hp.objs.size), g, dr, tk, os⟩) T (X.keeps k) (hlim.keeps k) hget hnx ?_ fun h' tk' dx ⟨k', hx, dn, dne, hns⟩ => ?_
  · show A.depth + 1 < recursionLimit
    exact hroom
  · have old : ∀ b o, hp.get? b = some o → h'.get? b = some o := fun b o e => k' b o (Nat.ne_of_lt (Nat.lt_succ_of_lt (Heap.lt_size e))) (k b o e)
    have z : hp.objs.size + 1 + 1 ≤ dx := by
      first
        | (simpa only [Heap.size_push] using dn)
        | exact dn
        | (have q := dn; rw [Heap.size_push, Heap.size_push] at q; exact q)
    exact ⟨rfl, hq h' tk' (hp.objs.size + 1) dx ⟨old, Nat.le_succ _, ⟨_, _, hx, rfl, rfl, rfl, rfl⟩, Nat.le_trans (Nat.le_trans (Nat.le_succ _) (Nat.le_succ _)) z, dne, hns⟩⟩
end
end LowXT
end PySem
namespace L2
open PySem PySem.Spec PyProof.Rows
theorem relO_lowT {v : V} {v' : Value} (r : RelV v v') (f : Str) : RelO (List.lookup f [(("thing" : Str), v)]) (if f = "thing" then some v' else none) := by
  by_cases hw : f = "thing"
  · subst hw
    rw [if_pos rfl]
    have q : List.lookup ("thing" : Str) [(("thing" : Str), v)] = some v := by simp [List.lookup]
    rw [q]
    exact r
  · rw [if_neg hw]
    have qw : (f == ("thing" : Str)) = false := by simpa using hw
    have q2 : List.lookup f [(("thing" : Str), v)] = none := by simp [List.lookup, qw]
    rw [q2]
    trivial
section
variable {X : Cx} {cx qx : Str} {C fI : Addr}
/-- Low(e) -/
def tMkLowT (C : Addr) (ta : TA) : St → Hp → XK → Prop := fun σ H Q => ta σ H fun vs H1 => ∃ v, vs = [v] ∧ ∀ d, H1 d = none → Q (.ref C) (some d) (upd H1 d (.xd [(("thing" : Str), v)]))
theorem pmk_lowT {a : Expr} {ta : TA} {p pos : Pos} {k : Nat} (T : PySem.LowXT.LowTxtT X.K X.mg cx qx C fI) (hr : Room k X.A) (ha : PA X [a] ta) (hg : Gl X cx) (hdb : (cx == ("__debug__" : Str)) = false := by decide)
    (he : starEach (a :: []) X.env = (false, eval a X.env) :: starEach [] X.env := by rfl) (hpl : (backTo pos (starEach [] X.env)).any (·.1) = false := by rfl) :
    PMk X (.Call (.Name cx p) [a] [] pos) (tMkLowT C ta) := by
  intro pins s σ H Q I h
  refine wpAny_Call_Name_kw (ld_glob I hg T.gC ?_ hdb)
  refine PySem.W.callWith_K (h₀ := X.base) I.ok.mod.kin T.kC (thn (ha.run pos pins s σ H _ I h) fun us s1 hh => ?_) he hpl
  obtain ⟨vs, H1, I1, r1, v, ev, q1⟩ := hh
  subst ev
  refine ⟨I1.kIn, ?_⟩
  cases r1 with
  | cons rv rn =>
    rename_i v' us'
    cases rn
    show wpAny _ _ (call (.ref C) [v']) _ _ _
    have hlim := I1.nolimit
    obtain ⟨hp, g, dr, tk, os⟩ := s1
    refine wpAny_call (PySem.LowXT.low_madeT T I1.kIn hlim (by have := hr.dp; omega) fun h' tk' e d M => ?_)
    show MkP X pins σ Q (.ref e) ⟨h', g, dr, tk', os⟩
    obtain ⟨oe, fv, hoe, hc, hd, hdat, h1⟩ := M.obj
    have hns := M.ns
    obtain ⟨G', g1, g2⟩ := restrict h' fun b => decide (b ≠ e)
    have gk : ∀ b, b ≠ e → G'.get? b = h'.get? b := fun b hb => g1 b (decide_eq_true hb)
    have ge : G'.get? e = none := g2 e (by simp)
    have old : ∀ b o, hp.get? b = some o → G'.get? b = some o := fun b o q => (gk b (Nat.ne_of_lt (Nat.lt_of_lt_of_le (Heap.lt_size q) M.new))).trans (M.keep b o q)
    have ob : ObjOk X.prog X.w (upd H1 d (.xd [(("thing" : Str), v)])) G' d (.xd [(("thing" : Str), v)]) :=
      ⟨_, hns.at (fun o q => (gk d M.dne).trans q), fun f => relO_lowT rv f⟩
    have J : Inv X pins σ (upd H1 d (.xd [(("thing" : Str), v)])) ⟨G', g, dr, tk', os⟩ := I1.laid (t' := tk') old M.dbig ob
    refine ⟨e, oe, fv, ⟨G', g, dr, tk', os⟩, _, .ref C, some d, rfl, J, fun b o q => ?_, ge, hoe, ⟨hc, hd⟩, hdat, h1, ?_, rfl, I1.bare, raises_own T.exC T.tyC, q1 d (I1.hok.fresh M.dbig)⟩
    · by_cases hb : b = e
      · have q' : G'.get? b = some o := q
        rw [hb, ge] at q'; cases q'
      · exact (gk b hb).symm.trans q
    · rw [upd_ne (Ne.symm M.dne)]
      exact I1.hok.fresh M.new
/-- raise Low(e) -/
def tRaiseLowT (C : Addr) (W : WX) (ta : TA) : TS := fun _ σ H => tMkLowT C ta σ H fun cls d H' => W cls d σ H'
theorem ps_raiseLowT {a : Expr} {ta : TA} {W : WX} {p pos pos2 : Pos} {k : Nat} (hc : X.calm = true) (T : PySem.LowXT.LowTxtT X.K X.mg cx qx C fI) (hr : Room k X.A) (tk : Takes X W) (ha : PA X [a] ta) (hg : Gl X cx) (hdb : (cx == ("__debug__" : Str)) = false := by decide)
    (he : starEach (a :: []) X.env = (false, eval a X.env) :: starEach [] X.env := by rfl) (hpl : (backTo pos (starEach [] X.env)).any (·.1) = false := by rfl) :
    PS X (.Raise (some (.Call (.Name cx p) [a] [] pos)) none pos2) (tRaiseLowT C W ta) := ps_raise hc tk (pmk_lowT T hr ha hg hdb he hpl)
/-- low.by, low the exception that the suite holds (at a; its class cls, its dict d) -/
def tByLowT (C : Addr) (a : Addr) (cls : Value) (d : Option Addr) (te : TE) : TE := fun σ H Q => te σ H fun x H1 => x = .ref a ∧ cls = .ref C ∧ ∃ (dd : Addr) (v : V), d = some dd ∧ H1 dd = some (.xd [(("thing" : Str), v)]) ∧ Q v H1
theorem pe_byLowT {a : Addr} {oe : Obj} {cls : Value} {d : Option Addr} {pn : List (Addr × Obj)} {e : Expr} {te : TE} {pos : Pos} (T : PySem.LowXT.LowTxtT X.K X.mg cx qx C fI) (hz : Zc cls d oe) (hf : ∃ vs, oe.data = .fields vs) (he : PE (X.suite a ((a, oe) :: pn)) e te)
    (hb : attributeBase e "thing" X.env (eval e X.env) = eval e X.env := by rfl) :
    PE (X.suite a ((a, oe) :: pn)) (.Attribute e "thing" pos) (tByLowT C a cls d te) := by
  refine ⟨fun pins s σ H Q I h => ?_⟩
  refine attr_of hb (thn (he.run pins s σ H _ I h) fun u s1 hh => ?_)
  obtain ⟨x, H1, I1, rx, ex, ec, dd, v, ed, ea, q⟩ := hh
  subst ex
  obtain rfl : u = Value.ref a := rx
  subst ec
  subst ed
  obtain ⟨ha, _⟩ := I1.pin (a, oe) (List.mem_append_left _ List.mem_cons_self)
  obtain ⟨vs, hd⟩ := hf
  have hx : ObjOk X.prog X.w H1 s1.heap dd (.xd [(("thing" : Str), v)]) := I1.hok dd _ ea
  obtain ⟨mA, hns, hr⟩ := hx
  obtain ⟨od, ho, hl⟩ := lookIn_ns hns
  have l : List.lookup ("thing" : Str) [(("thing" : Str), v)] = some v := by simp [List.lookup]
  obtain ⟨u, hu, ru⟩ := RelO.some_of (v := v) (o := mA "thing") (by rw [← l]; exact hr "thing")
  have J : PySem.W.InstAt s1.heap a oe C (some od) := ⟨ha, hz.1, by unfold PySem.W.notCls; rw [hd] <;> rfl, by rw [hz.2]; exact ho⟩
  exact HandSPX.exc_get I1.kIn J T.ga T.gg T.exC (PySem.W.findObj_own T.hdC T.noN rfl (by rw [hl, hu])) (handed_of ru) ⟨v, H1, I1.tok _, ru, q⟩
end
end L2

set_option Elab.async false
set_option linter.all false
set_option maxRecDepth 100000
namespace Sv
open PySem L2 PyProof.Rows
/-! ## raise, try -/
/-- an own class of errors with the one field thing -/
structure ExT (K : PySem.W.Frag) (mg : Str → Option Value) (cx : Str) : Prop where
  ex : ∃ (qx : Str) (C fI : Addr), PySem.LowXT.LowTxtT K mg cx qx C fI
def raiseO (cx fl : Str) (ga : M (List Dat)) : En → O := fun ρ => (ga ρ).toO fun ds ρ' => match ds with
  | [d] => .err cx [(fl, d)] ρ'
  | _ => .stuck
section
variable {X : Cx} {W : WX} {a : Expr} {ga : M (List Dat)} {p pos pos2 : Pos} {cx : Str} {k : Nat}
theorem ds_raiseT (T : ExT X.K X.mg cx) (hc : X.calm = true) (hr : RoomG k X.A) (tk : Takes X W) (ha : DA X W [a] ga) (hg : Gl X cx) (hdb : (cx == ("__debug__" : Str)) = false := by decide)
    (he : starEach (a :: []) X.env = (false, eval a X.env) :: starEach [] X.env := by rfl) (hpl : (backTo pos (starEach [] X.env)).any (·.1) = false := by rfl) :
    DS X W (.Raise (some (.Call (.Name cx p) [a] [] pos)) none pos2) (raiseO cx "thing" ga) := by
  obtain ⟨qx, C, fI, T⟩ := T.ex
  refine PS.imp (ps_raiseLowT hc T hr.1 tk ha hg hdb he hpl) fun D σ H ⟨z, H0, ρ, r, q⟩ => ⟨z, H0, ρ, r, (RunS.part q).mono fun ds H1 G1 ρ1 r1 s1 q1 vs hv => ?_⟩
  match ds, vs, hv, q1 with
  | [d], [v], .cons h1 .nil, q1 =>
    refine ⟨v, rfl, fun dx hdx => ?_⟩
    exact q1 (.ref C) (some dx) σ _ G1 (r1.new' _ hdx) (Same.refl _) ⟨C, T.gC, rfl, [("thing", v)], upd_same, rfl, .cons h1 .nil⟩
end
/-- which class is beneath which -/
def TabOk (K : PySem.W.Frag) (mg : Str → Option Value) (tab : List (Str × Str × Bool)) : Prop := ∀ q ∈ tab, ∀ C D : Addr, mg q.1 = some (.ref C) → mg q.2.1 = some (.ref D) → PySem.W.exmOne K (.ref C) (.ref D) = some q.2.2
theorem tab_nil {K : PySem.W.Frag} {mg : Str → Option Value} : TabOk K mg [] := fun _ h => nomatch h
theorem tab_cons {K : PySem.W.Frag} {mg : Str → Option Value} {tab : List (Str × Str × Bool)} {x y : Str} {b : Bool} {C D : Addr} (h1 : mg x = some (.ref C)) (h2 : mg y = some (.ref D)) (h : PySem.W.exmOne K (.ref C) (.ref D) = some b) (r : TabOk K mg tab) : TabOk K mg ((x, y, b) :: tab) := fun q hq C' D' e1 e2 => by
  rcases List.mem_cons.mp hq with e | e
  · subst e
    rw [h1] at e1; rw [h2] at e2
    cases e1; cases e2
    exact h
  · exact r q e C' D' e1 e2
def tabAt : List (Str × Str × Bool) → Str → Str → Option Bool
  | [], _, _ => none
  | q :: r, x, y => if q.1 = x ∧ q.2.1 = y then some q.2.2 else tabAt r x y
theorem tabAt_ok {K : PySem.W.Frag} {mg : Str → Option Value} {x y : Str} {b : Bool} {C D : Addr} (h1 : mg x = some (.ref C)) (h2 : mg y = some (.ref D)) : ∀ {tab : List (Str × Str × Bool)}, TabOk K mg tab → tabAt tab x y = some b → PySem.W.exmOne K (.ref C) (.ref D) = some b
  | [], _, e => by cases e
  | q :: r, t, e => by
    unfold tabAt at e
    split at e
    · rename_i h
      cases e
      exact t q List.mem_cons_self C D (by rw [h.1]; exact h1) (by rw [h.2]; exact h2)
    · exact tabAt_ok h1 h2 (fun q hq => t q (List.mem_cons_of_mem _ hq)) e
structure Clo where
  cn : Str
  sl : Option Nat
  g : Str → List (Str × Dat) → En → O
def offO (i : Nat) (o : O) : O := match o with
  | .nxt ρ => .nxt (ρ.set i .un)
  | .brk ρ => .brk (ρ.set i .un)
  | .ctn ρ => .ctn (ρ.set i .un)
  | .ret d ρ => .ret d ρ
  | .new ds ρ => .new ds ρ
  | _ => .stuck
def noErr (o : O) : O := match o with
  | .err _ _ _ => .stuck
  | o => o
def catchO (tab : List (Str × Str × Bool)) : List Clo → Str → List (Str × Dat) → En → O
  | [], cn, fs, ρ => .err cn fs ρ
  | q :: r, cn, fs, ρ => match tabAt tab cn q.cn with
    | some true => (match q.sl with
      | none => noErr (q.g cn fs ρ)
      | some i => if isUn ρ i = true then offO i (q.g cn fs ρ) else .stuck)
    | some false => catchO tab r cn fs ρ
    | none => .stuck
def tryO (tab : List (Str × Str × Bool)) (body : En → O) (cls : List Clo) : En → O := fun ρ => match body ρ with
  | .err cn fs ρ' => catchO tab cls cn fs ρ'
  | o => o
/-- a suite's reading: the exception it handles is at a, of the class cls, its fields in the dict d -/
def tSx (c : Cc) (sl : Option Nat) (g : Str → List (Str × Dat) → En → O) (a : Addr) (cls : Value) (d : Option Addr) : TS := fun D σ H => ∃ (x : Fx) (H0 : Hp) (ρ : En) (cn : Str) (fs : List (Str × Dat)), Rel c.K x σ H H0 ρ ∧ XAt c H H0 cn fs cls d ∧
  (∀ i, sl = some i → σ[i]? = some (some (.ref a)) ∧ ρ[i]? = some .un) ∧ RunS c x H0 (g cn fs ρ) D
def DSu (X : Cx) (sl : Option Nat) (sts : List Stmt) (g : Str → List (Str × Dat) → En → O) : Prop := ∀ (a : Addr) (oe : Obj) (cls : Value) (d : Option Addr) (pins : List (Addr × Obj)), Zc cls d oe → (∃ vs, oe.data = .fields vs) → PSs (X.suite a ((a, oe) :: pins)) sts (tSx (cc X W0) sl g a cls d)
theorem su_plain {X : Cx} {sts : List Stmt} {f : En → O} {sl : Option Nat} (h : ∀ (a : Addr) (pins : List (Addr × Obj)), DB (X.suite a pins) W0 sts f) : DSu X sl sts (fun _ _ => f) := fun a oe cls d pins _ _ => PSs.imp (h a _) fun D σ H ⟨x, H0, ρ, cn, fs, r, _, _, q⟩ => ⟨x, H0, ρ, r, q⟩
/-- the clauses as they stand in the text -/
inductive DHs (X : Cx) : List ExceptHandler → List Clo → Prop
  | nil : DHs X [] []
  | bare {x : Str} {C : Addr} {g : Str → List (Str × Dat) → En → O} {st0 : Stmt} {sts : List Stmt} {pn pq : Pos} {hs : List ExceptHandler} {l : List Clo} (hg : Gl X x) (hd : (x == ("__debug__" : Str)) = false) (hm : X.mg x = some (.ref C)) (go : DSu X none (st0 :: sts) g) (r : DHs X hs l) :
      DHs X (.ExceptHandler (some (.Name x pn)) none (st0 :: sts) pq :: hs) (⟨x, none, g⟩ :: l)
  | as (i : Nat) {x n : Str} {C : Addr} {g : Str → List (Str × Dat) → En → O} {st0 : Stmt} {sts : List Stmt} {pn pq : Pos} {hs : List ExceptHandler} {l : List Clo} (hg : Gl X x) (hd : (x == ("__debug__" : Str)) = false) (hm : X.mg x = some (.ref C)) (hi : X.N[i]? = some n) (hln : X.env.kindOf n = some .local)
      (go : DSu X (some i) (st0 :: sts) g) (r : DHs X hs l) : DHs X (.ExceptHandler (some (.Name x pn)) (some n) (st0 :: sts) pq :: hs) (⟨x, some i, g⟩ :: l)
section
variable {X : Cx} {W : WX} {body : List Stmt} {h1 : ExceptHandler} {hs1 : List ExceptHandler} {l : List Clo} {pos : Pos} {fb : En → O} {tab : List (Str × Str × Bool)}
theorem dhs_cl : ∀ {hs : List ExceptHandler} {l : List Clo}, DHs X hs l → ∃ l' : List Cl, Hds X hs l' ∧ ∀ (D : Ends) (x : Fx) (H0 : Hp) (tb : TabOk X.K X.mg tab) (cn : Str) (fs : List (Str × Dat)) (ρ : En), RunS (cc X W) x H0 (catchO tab l cn fs ρ) D →
      ∀ cls d σ H H1, Rel X.K x σ H H1 ρ → Same H0 H1 → XAt (cc X W) H H1 cn fs cls d → wCl X.K W D l' cls d σ H
  | _, _, .nil => ⟨[], .nil, fun D x H0 tb cn fs ρ q cls d σ H H1 r s xa => q cls d σ H H1 r s xa⟩
  | _, _, .bare (x := y) (C := C) (g := g) hg hd hm go rest => by
    obtain ⟨l', hl, k⟩ := dhs_cl rest
    refine ⟨_, .bare (c := .ref C) ⟨hg, hd, .inl hm⟩ go hl, fun D x H0 tb cn fs ρ q cls d σ H H1 r s xa => ?_⟩
    unfold catchO at q
    dsimp only at q
    obtain ⟨C', e1, e2, e3⟩ := id xa
    subst e2
    cases ht : tabAt tab cn y with
    | none => rw [ht] at q; exact q.elim
    | some b =>
      rw [ht] at q
      refine ⟨b, tabAt_ok e1 hm tb ht, fun hb => ?_, fun hb a ha => ?_⟩
      · subst hb
        exact k D x H0 tb cn fs ρ q _ d σ H H1 r s xa
      · subst hb
        refine ⟨x, H1, ρ, cn, fs, r, xa.cast rfl rfl, (fun i z => by cases z), ?_⟩
        have q := RunS.up q s
        cases eg : g cn fs ρ <;> rw [eg] at q <;> first | exact q | exact q.elim
  | _, _, .as i (x := y) (C := C) (g := g) hg hd hm hi hln go rest => by
    obtain ⟨l', hl, k⟩ := dhs_cl rest
    refine ⟨_, .as (c := .ref C) ⟨hg, hd, .inl hm⟩ hi hln go hl, fun D x H0 tb cn fs ρ q cls d σ H H1 r s xa => ?_⟩
    unfold catchO at q
    dsimp only at q
    obtain ⟨C', e1, e2, e3⟩ := id xa
    subst e2
    cases ht : tabAt tab cn y with
    | none => rw [ht] at q; exact q.elim
    | some b =>
      rw [ht] at q
      refine ⟨b, tabAt_ok e1 hm tb ht, fun hb => ?_, fun hb a ha => ?_⟩
      · subst hb
        exact k D x H0 tb cn fs ρ q _ d σ H H1 r s xa
      · subst hb
        dsimp only at q
        by_cases hu : isUn ρ i = true
        · rw [if_pos hu] at q
          have eu := isUn_eq hu
          have hio : x.io i = none := r.noio fun ds z => by rw [eu] at z; cases z
          have r2 : Rel X.K x (σ.set i (some (.ref a))) H H1 (ρ.set i .un) := r.setu fun ds z => by rw [eu] at z; cases z
          have el : ρ.set i .un = ρ := by
            obtain ⟨hlt, e⟩ := List.getElem?_eq_some_iff.mp eu
            rw [← e]; exact List.set_getElem_self hlt
          rw [el] at r2
          have hlt : i < σ.length := by rw [← r.len]; exact (List.getElem?_eq_some_iff.mp eu).1
          refine ⟨x, H1, ρ, cn, fs, r2, xa.cast rfl rfl, (fun j z => by cases z; exact ⟨List.getElem?_set_self hlt, eu⟩), ?_⟩
          have q := RunS.up q s
          have nio : ∀ {σ' : L2.St} {H' H2 : Hp} {ρ' : En}, Rel X.K x σ' H' H2 ρ' → ∀ ds, ρ'[i]? ≠ some (.ino ds) := fun r' ds z => by
            obtain ⟨b, e, _⟩ := r'.ino i ds z
            rw [hio] at e; cases e
          cases eg : g cn fs ρ with
          | nxt ρ' => rw [eg] at q; exact fun σ' H' H2 r' s' => q _ H' H2 (r'.setu (nio r')) s'
          | brk ρ' => rw [eg] at q; exact fun σ' H' H2 r' s' => q _ H' H2 (r'.setu (nio r')) s'
          | ctn ρ' => rw [eg] at q; exact fun σ' H' H2 r' s' => q _ H' H2 (r'.setu (nio r')) s'
          | ret _ _ => rw [eg] at q; exact q
          | new _ _ => rw [eg] at q; exact q
          | err _ _ _ => rw [eg] at q; exact q.elim
          | stuck => rw [eg] at q; exact q.elim
        · rw [if_neg hu] at q; exact q.elim
theorem ds_try (hst : X.stack = X.env :: X.outer) (hf : X.env.frame = some X.env.locals) (hN : X.N.Nodup) (tk : Takes X W) (tb : TabOk X.K X.mg tab)
    (hb : ∀ (W' : WX) (pn : List (Addr × Obj)) (xe : Value → Shared → Prop), Takes (X.tr pn xe) W' → DB (X.tr pn xe) W' body fb) (hh : DHs X (h1 :: hs1) l) : DS X W (.Try body (h1 :: hs1) [] [] pos) (tryO tab fb l) := by
  obtain ⟨l', hl, k⟩ := dhs_cl (W := W) (tab := tab) hh
  refine PS.imp (ps_tryG (tb := fun W' => tS (cc X W') fb) hst hf hN tk hb hl) fun D σ H ⟨x, H0, ρ, r, q⟩ => ⟨x, H0, ρ, r, ?_⟩
  unfold tryO at q
  cases e : fb ρ with
  | err cn fs ρ' => rw [e] at q; exact fun cls d σ' H' H1 r' s' xa => k D x H0 tb cn fs ρ' q cls d σ' H' H1 r' s' (xa.cast rfl rfl)
  | nxt _ => rw [e] at q; exact q
  | brk _ => rw [e] at q; exact q
  | ctn _ => rw [e] at q; exact q
  | ret _ _ => rw [e] at q; exact q
  | new _ _ => rw [e] at q; exact q
  | stuck => rw [e] at q; exact q
end
end Sv

set_option Elab.async false
set_option linter.all false
set_option maxRecDepth 100000
namespace Sv
open PySem L2 PyProof.Rows
/-! ## str of data -/
mutual
/-- what can be shown here: no instance, no dict but {} -/
def Dat.shw : Dat → Bool
  | .non => true
  | .bl _ => true
  | .int i => decide (i.natAbs.log2 < 1920)
  | .str x => x.cps.toList.all fun c => decide (c < 4294967296)
  | .tup ds => Dat.shws ds
  | .lst ds => Dat.shws ds
  | .scr _ => false
  | .dct ks ds => ks.isEmpty && ds.isEmpty
  | .ins _ _ _ => false
  | .dno => false
  | .fn _ => false
def Dat.shws : List Dat → Bool
  | [] => true
  | d :: ds => Dat.shw d && Dat.shws ds
end
mutual
/-- at most so many signs -/
def Dat.wid : Dat → Nat
  | .non => 4
  | .bl _ => 5
  | .int _ => 1921
  | .str x => 10 * x.cps.size + 2
  | .tup ds => Dat.wids ds + 3
  | .lst ds => Dat.wids ds + 2
  | .scr _ => 0
  | .dct _ _ => 2
  | .ins _ _ _ => 0
  | .dno => 0
  | .fn _ => 0
def Dat.wids : List Dat → Nat
  | [] => 0
  | d :: ds => Dat.wid d + 2 + Dat.wids ds
end
mutual
def Dat.dep : Dat → Nat
  | .tup ds => Dat.deps ds + 1
  | .lst ds => Dat.deps ds + 1
  | .dct _ _ => 1
  | .non => 0
  | .bl _ => 0
  | .int _ => 0
  | .str _ => 0
  | .scr _ => 0
  | .ins _ _ _ => 0
  | .dno => 0
  | .fn _ => 0
def Dat.deps : List Dat → Nat
  | [] => 0
  | d :: ds => max (Dat.dep d) (Dat.deps ds)
end
theorem textFrom_le : ∀ (ts : List Str) (k : Nat) (acc : Str), (textFrom k acc ts).length ≤ acc.length + piled ts
  | [], k, acc => Nat.le_refl _
  | t :: r, k, acc => by
    show (textFrom (k + 1) (acc ++ (if k > 0 then ", " else "" : String) ++ t) r).length ≤ _
    refine Nat.le_trans (textFrom_le r (k + 1) _) ?_
    rw [strLen_append, strLen_append]
    have : (Str.ofString (if k > 0 then ", " else "" : String)).length ≤ 2 := by
      by_cases h : k > 0
      · rw [if_pos h]; decide
      · rw [if_neg h]; decide
    unfold piled
    simp only [List.map_cons, List.sum_cons] at *
    omega

theorem list_le (ts : List Str) : (listText ts).length ≤ piled ts + 2 := by
  show (textFrom 0 "[" ts ++ "]").length ≤ _
  rw [strLen_append]
  have h := textFrom_le ts 0 "["
  have e1 : (("[" : Str)).length = 1 := rfl
  have e2 : (("]" : Str)).length = 1 := rfl
  omega
theorem join_le (ts : List Str) : (Str.join ", " ts).length ≤ piled ts := by
  cases ts with
  | nil => decide
  | cons t r => have h := join_length_add (t :: r) (by simp); omega
theorem tup_le (ts : List Str) : (tupleText ts).length ≤ piled ts + 3 := by
  unfold tupleText
  rw [strLen_append, strLen_append]
  have h := join_le ts
  have e1 : (("(" : Str)).length = 1 := rfl
  have e2 : (Str.ofString (if ts.length == 1 then ",)" else ")" : String)).length ≤ 2 := by
    by_cases h : (ts.length == 1) = true
    · rw [if_pos h]; decide
    · rw [if_neg h]; decide
  omega
mutual
theorem shown_le : ∀ {d : Dat}, d.shw = true → d.py.shown.length ≤ d.wid
  | .non, _ => by show ("None" : Str).length ≤ 4; decide
  | .bl b, _ => by cases b <;> decide
  | .int i, h => by
    exact int_text_len_1921 (of_decide_eq_true h)
  | .str x, h => by
    show (reprText x).length ≤ 10 * x.length + 2
    refine StrLaws.reprText_len x fun c hc => ?_
    have h : (x.cps.toList.all fun c => decide (c < 4294967296)) = true := h
    exact of_decide_eq_true (List.all_eq_true.mp h c hc)
  | .tup ds, h => by
    show (tupleText (PyData.shownAll (Dat.pys ds))).length ≤ Dat.wids ds + 3
    have := tup_le (PyData.shownAll (Dat.pys ds))
    have := shownA_le h
    omega
  | .lst ds, h => by
    show (listText (PyData.shownAll (Dat.pys ds))).length ≤ Dat.wids ds + 2
    have := list_le (PyData.shownAll (Dat.pys ds))
    have := shownA_le h
    omega
  | .dct ks ds, h => by
    have h : (ks.isEmpty && ds.isEmpty) = true := h
    rw [Bool.and_eq_true, List.isEmpty_iff, List.isEmpty_iff] at h
    obtain ⟨rfl, rfl⟩ := h
    decide
  | .scr _, h => nomatch h
  | .ins _ _ _, h => nomatch h
  | .dno, h => nomatch h
  | .fn _, h => nomatch h
theorem shownA_le : ∀ {ds : List Dat}, Dat.shws ds = true → piled (PyData.shownAll (Dat.pys ds)) ≤ Dat.wids ds
  | [], _ => Nat.le_refl _
  | d :: ds, h => by
    have h : (d.shw && Dat.shws ds) = true := h
    rw [Bool.and_eq_true] at h
    show piled (PyData.shown d.py :: PyData.shownAll (Dat.pys ds)) ≤ d.wid + 2 + Dat.wids ds
    rw [piled_cons]
    have := shown_le h.1
    have := shownA_le h.2
    omega
end
mutual
theorem dep_py : ∀ {d : Dat}, d.shw = true → d.py.depth = d.dep
  | .non, _ => rfl
  | .bl b, _ => rfl
  | .int i, h => rfl
  | .str x, h => rfl
  | .tup ds, h => by
    show PyData.depthAll (Dat.pys ds) + 1 = Dat.deps ds + 1
    rw [depA_py h]
  | .lst ds, h => by
    show PyData.depthAll (Dat.pys ds) + 1 = Dat.deps ds + 1
    rw [depA_py h]
  | .dct ks ds, h => by
    have h : (ks.isEmpty && ds.isEmpty) = true := h
    rw [Bool.and_eq_true, List.isEmpty_iff, List.isEmpty_iff] at h
    obtain ⟨rfl, rfl⟩ := h
    rfl
  | .scr _, h => nomatch h
  | .ins _ _ _, h => nomatch h
  | .dno, h => nomatch h
  | .fn _, h => nomatch h
theorem depA_py : ∀ {ds : List Dat}, Dat.shws ds = true → PyData.depthAll (Dat.pys ds) = Dat.deps ds
  | [], _ => rfl
  | d :: ds, h => by
    have h : (d.shw && Dat.shws ds) = true := h
    rw [Bool.and_eq_true] at h
    show max d.py.depth (PyData.depthAll (Dat.pys ds)) = max d.dep (Dat.deps ds)
    rw [dep_py h.1, depA_py h.2]
end
section
variable {X : Cx} {pins : List (Addr × Obj)} {σ : L2.St} {H : Hp} {s : Shared}
/-- what stands in the state where the data stand, and how its parts are shown -/
def Shows (h : Heap) (u : Value) (d : PyData) : Prop := (∃ as, Reads h u d as) ∧ ∃ bs, ReadAtMost h d.depth bs ∧ ∀ (P : Program) (w : World), ReprK P w bs h d.depth u d.shown
def ShowsA (h : Heap) (us : List Value) (ds : List PyData) : Prop := (∃ as, ReadsAll h us ds as) ∧ ∃ bs, ReadAtMost h (PyData.depthAll ds) bs ∧ ∀ (P : Program) (w : World), ReprAllK P w bs h (PyData.depthAll ds) us (PyData.shownAll ds)
/-- a list's, a tuple's own parts, that what calls __repr__ of it asks -/
theorem list_part {h : Heap} {a : Addr} {o : Obj} {us : List Value} {n : Nat} {ds : List PyData} (ha : h.get? a = some o) (hc : o.cls = .type "list") (hd : o.data = .seq us.toArray n) (k : ShowsA h us ds) :
    ∃ bs, a ∉ bs ∧ ReadAtMost h (PyData.depthAll ds + 1) (a :: bs) ∧ (∀ (P : Program) (w : World), ReprAllK P w bs h (PyData.depthAll ds) us (PyData.shownAll ds)) ∧ ∃ as, Reads h (.ref a) (.list ds) as := by
  obtain ⟨⟨as, ra⟩, bs, hb, hk⟩ := k
  have r : Reads h (.ref a) (.list ds) (a :: as) := .list ha hc hd (by simpa using ra)
  exact ⟨bs, not_mem_of_deeper r (Nat.lt_succ_self _) hb, ReadAtMost.cons r (Nat.le_succ _) hb, hk, _, r⟩
theorem tup_part {h : Heap} {a : Addr} {o : Obj} {us : List Value} {n : Nat} {ds : List PyData} (ha : h.get? a = some o) (hc : o.cls = .type "tuple") (hd : o.data = .seq us.toArray n) (k : ShowsA h us ds) :
    ∃ bs, a ∉ bs ∧ ReadAtMost h (PyData.depthAll ds + 1) (a :: bs) ∧ (∀ (P : Program) (w : World), ReprAllK P w bs h (PyData.depthAll ds) us (PyData.shownAll ds)) ∧ ∃ as, Reads h (.ref a) (.tuple ds) as := by
  obtain ⟨⟨as, ra⟩, bs, hb, hk⟩ := k
  have r : Reads h (.ref a) (.tuple ds) as := .tuple ha hc hd (by simpa using ra)
  exact ⟨bs, not_mem_of_deeper r (Nat.lt_succ_self _) hb, ReadAtMost.cons r (Nat.le_succ _) hb, hk, _, r⟩
theorem edict_at (I : Inv X pins σ H s) {a : Addr} {kvs : List (Key × V)} (h : Rd H a (.dK kvs)) (e : kvs = []) : (a == sysModules) = false ∧ ∃ (o : Obj) (ep : Nat), s.heap.get? a = some o ∧ o.cls = .type "dict" ∧ o.data = .dict #[] ep := by
  subst e
  obtain ⟨_, hs, vs, kv, o, es, ep, h1, h2, h3, _, h4, _⟩ := dk_rd I.hok h
  cases kv
  generalize q : es.toList = l at h4
  cases h4
  have e : es = #[] := by
    obtain ⟨l⟩ := es
    have q : l = [] := q
    rw [q]
  subst e
  exact ⟨hs, o, ep, h1, h2.1, h3⟩
mutual
theorem rep_shows (I : Inv X pins σ H s) : ∀ {d : Dat} {v : V} {u : Value}, Rep X.K H v d → RelV v u → d.shw = true → d.wid ≤ 1000000 → Shows s.heap u d.py
  | .non, _, _, h, r, _, _ => by
    cases h
    cases (show _ = Value.none from r)
    exact ⟨⟨_, .none⟩, [], (fun _ z => nomatch z), fun P w => .of_is ReprIs.none _ _ _⟩
  | .bl b, _, _, h, r, _, _ => by
    cases h
    cases (show _ = Value.bool b from r)
    exact ⟨⟨_, .bool b⟩, [], (fun _ z => nomatch z), fun P w => .of_is (ReprIs.bool b) _ _ _⟩
  | .int i, _, _, h, r, sh, _ => by
    cases h
    obtain ⟨t, e⟩ := (show ∃ t, _ = Value.int i t from r)
    subst e
    exact ⟨⟨_, .int i t⟩, [], (fun _ z => nomatch z), fun P w => .of_is (ReprIs.int t (of_decide_eq_true sh)) _ _ _⟩
  | .str x, _, _, h, r, sh, hw => by
    cases h
    obtain ⟨t, e⟩ := (show ∃ t, _ = Value.str x t from r)
    subst e
    have l := shown_le (d := .str x) sh
    exact ⟨⟨_, .str x t⟩, [], (fun _ z => nomatch z), fun P w => .of_is (ReprIs.str x t (Nat.le_trans l (sz hw))) _ _ _⟩
  | .lst ds, _, _, h, r, sh, hw => by
    cases h with
    | @lst a vs _ h1 h2 =>
      cases (show _ = Value.ref a from r)
      obtain ⟨z, its, n, rv, e⟩ := h1.ok I.hok
      have hw' : Dat.wids ds + 2 ≤ 1000000 := hw
      have k := repA_shows I h2 rv sh (by omega)
      obtain ⟨bs, na, hb, hk, rd⟩ := list_part e rfl rfl k
      refine ⟨rd, a :: bs, hb, ?_⟩
      intro P w
      show ReprK P w (a :: bs) s.heap (PyData.depthAll (Dat.pys ds) + 1) (.ref a) (listText (PyData.shownAll (Dat.pys ds)))
      cases its with
      | nil =>
        cases rv
        cases h2
        rw [show PyData.shownAll (Dat.pys []) = [] from rfl, listText_nil]
        exact ReprK.listEmpty e rfl rfl
      | cons y l => exact ReprK.list e rfl rfl na (by simpa using (hk P w).length_eq) fun i y q => (hk P w).item i y (by simpa using q)
  | .tup ds, _, _, h, r, sh, hw => by
    cases h with
    | @tup a vs _ h1 h2 =>
      cases (show _ = Value.ref a from r)
      obtain ⟨its, rv, ⟨o, e1, e2, n, e3⟩, z⟩ := I.tuple h1.sq
      have hw' : Dat.wids ds + 3 ≤ 1000000 := hw
      have k := repA_shows I h2 rv sh (by omega)
      obtain ⟨bs, na, hb, hk, rd⟩ := tup_part e1 e2 e3 k
      exact ⟨rd, a :: bs, hb, fun P w => ReprK.tuple e1 e2 e3 na (by simpa using hk P w)⟩
  | .dct ks ds, _, _, h, r, sh, _ => by
    have sh : (ks.isEmpty && ds.isEmpty) = true := sh
    rw [Bool.and_eq_true, List.isEmpty_iff, List.isEmpty_iff] at sh
    obtain ⟨rfl, rfl⟩ := sh
    cases h with
    | @dct a ob kvs _ _ h1 h2 h3 =>
      cases (show _ = Value.ref a from r)
      obtain ⟨hs, o, ep, g1, g2, g3⟩ := edict_at I (.inr ⟨_, h1⟩) (List.map_eq_nil_iff.mp h2)
      have rd : Reads s.heap (.ref a) (.dict []) (a :: [] ++ []) := .dict (kvs := []) g1 g2 g3 .nil .nil
      refine ⟨⟨_, rd⟩, [a], fun b hb => ?_, fun P w => ReprK.dict g1 g2 g3 hs (fun z => nomatch z) .nil⟩
      obtain rfl : b = a := by simpa using hb
      exact ⟨_, _, rd, Nat.le_refl _⟩
  | .scr _, _, _, _, _, sh, _ => nomatch sh
  | .ins _ _ _, _, _, _, _, sh, _ => nomatch sh
  | .dno, _, _, _, _, sh, _ => nomatch sh
  | .fn _, _, _, _, _, sh, _ => nomatch sh
theorem repA_shows (I : Inv X pins σ H s) : ∀ {ds : List Dat} {vs : List V} {us : List Value}, RepA X.K H vs ds → Vals vs us → Dat.shws ds = true → Dat.wids ds ≤ 1000000 → ShowsA s.heap us (Dat.pys ds)
  | [], _, _, h, r, _, _ => by
    cases h
    cases r
    exact ⟨⟨_, .nil⟩, [], (fun _ z => nomatch z), fun P w => .nil⟩
  | d :: ds, _, _, h, r, sh, hw => by
    have sh : (d.shw && Dat.shws ds) = true := sh
    rw [Bool.and_eq_true] at sh
    have hw : d.wid + 2 + Dat.wids ds ≤ 1000000 := hw
    cases h with
    | cons h1 h2 =>
      cases r with
      | cons r1 r2 =>
        obtain ⟨⟨as, q1⟩, b1, k1, k2⟩ := rep_shows I h1 r1 sh.1 (by omega)
        obtain ⟨⟨cs, q2⟩, b2, k3, k4⟩ := repA_shows I h2 r2 sh.2 (by omega)
        exact ⟨⟨_, .cons q1 q2⟩, b1 ++ b2, (k1.mono (Nat.le_max_left _ _)).append (k3.mono (Nat.le_max_right _ _)),
          fun P w => .cons (((k2 P w).more fun b hb => List.mem_append_left _ hb).level_le (Nat.le_max_left _ _)) ((k4 P w).more_le (fun b hb => List.mem_append_right _ hb) (Nat.le_max_right _ _))⟩
end
end

/-- what str asks of a list -/
theorem showsBy_list {h : Heap} {a : Addr} {o : Obj} {us : List Value} {n : Nat} {ds : List PyData} (ha : h.get? a = some o) (hc : o.cls = .type "list") (hd : o.data = .seq us.toArray n) (k : ShowsA h us ds) (hz : (listText (PyData.shownAll ds)).length ≤ sizeLine) (P : Program) (w : World) :
    ShowsBy P w h a (.list ds) "list" "list.__repr__" := by
  obtain ⟨bs, na, hb, hk, rd⟩ := list_part ha hc hd k
  refine ⟨F.slot_list_repr.toG, F.slot_list_str, F.slot_list_format, fun s q => ⟨o, q _ _ ha, hc⟩, fun A E s Q hg hu q hQ => ?_⟩
  cases us with
  | nil =>
    obtain ⟨⟨_, ra⟩, _⟩ := k
    cases ra
    have hQ : ∀ h' u tk, (∀ b o, s.heap.get? b = some o → h'.get? b = some o) → Q (.str (listText []) u) { s with heap := h', toks := tk } := hQ
    rw [listText_nil] at hQ
    exact call_list_repr_empty ⟨o, q _ _ ha, hc⟩ (q _ _ ha) hd (hQ s.heap _ _ fun _ _ e => e)
  | cons x l => exact call_list_reprK ha hc hd na (by simpa using (hk P w).length_eq) (fun i y e => (hk P w).item i y (by simpa using e)) hg (fun b _ => Clear.nil b) hu q hQ hz
theorem str_by {h : Heap} {a : Addr} {d : PyData} {T idr : String} (S : ∀ (P : Program) (w : World), ShowsBy P w h a d T idr) {P : Program} {w : World} {A : Around} {E : Value → Shared → Prop} {s : Shared} {Q : Value → Shared → Prop} (hg : A.guards = some []) (hu : A.units + (d.depth + 3) < cLine) (q : ∀ b o, h.get? b = some o → s.heap.get? b = some o)
    (hQ : ∀ h' u tk, (∀ b o, s.heap.get? b = some o → h'.get? b = some o) → Q (.str d.shown u) { s with heap := h', toks := tk }) (hz : d.shown.length ≤ sizeLine) : wpAny (model P w) A (call (.type "str") [.ref a]) Q E s := by
  refine callType_new F.called_str (by decide) (F.typeCall_str_1 _) (F.newCall_str_1 _) (fun ob => F.args_object_init_2 ob _) F.entry_str_new
    (meets_str_new (S := fun A' R s' => A'.guards = some [] ∧ A'.units + (d.depth + 2) < cLine ∧ (∀ b o, h.get? b = some o → s'.heap.get? b = some o) ∧ ∀ h' u tk, (∀ b o, s'.heap.get? b = some o → h'.get? b = some o) → R (.ok (.ret (.str d.shown u))) { s' with heap := h', toks := tk })
      fun P' w' A' R s' k => ?_) ⟨hg, (by show A.units + 1 + (d.depth + 2) < cLine; omega), q, fun h' u tk k => ⟨typeIs_str _ _ _, hQ h' u tk k⟩⟩
  obtain ⟨k1, k2, k3, k4⟩ := k
  have S' := S P' w'
  exact wpAny_strOf_slot rfl (by show A'.units + 1 + _ < cLine; omega) (S'.typeIs s' k3) S'.slotStr S'.slotRepr (S'.call A'.in1.in1 _ s' _ k1 (by show A'.units + 1 + 1 + d.depth < cLine; omega) k3 fun h' u tk k => ⟨_, _, rfl, k4 h' u tk k⟩)
end Sv

set_option Elab.async false
set_option linter.all false
set_option maxRecDepth 100000
set_option maxHeartbeats 1000000
namespace Sv
open PySem L2 PyProof.Rows
section
variable {X : Cx} {W : WX} {e a b : Expr} {f g : M Dat} {ga : M (List Dat)} {pos pos' p : Pos} {k : Nat}
/-! ## str(xs) -/
def strD (as : List Dat) : Option Dat := match as with
  | [.lst ds] => if (Dat.lst ds).shw = true ∧ (Dat.lst ds).wid ≤ 1000000 ∧ (Dat.lst ds).dep ≤ 60 then some (.str (Dat.lst ds).py.shown) else none
  | [.str x] => some (.str x)
  | _ => none
theorem call_strL (hg : X.A.guards = some []) (hu : X.A.units + 64 < cLine) : CallR X (.type "str") (fun xs H Q => (∃ v ds, xs = [v] ∧ Rep X.K H v (.lst ds) ∧ (Dat.lst ds).shw = true ∧ (Dat.lst ds).wid ≤ 1000000 ∧ (Dat.lst ds).dep ≤ 60 ∧ Q (.str (Dat.lst ds).py.shown) H) ∨ ∃ x, xs = [.str x] ∧ Q (.str x) H) := by
  intro pins s σ H xs us Q I r h
  rcases h with ⟨v, ds, rfl, hr, hs, hw, hd, q⟩ | h
  · obtain ⟨u, rfl, ru⟩ := vals1 r
    cases hr with
    | @lst ad vs _ h1 h2 =>
      cases (show u = Value.ref ad from ru)
      obtain ⟨z, its, n, rv, e⟩ := h1.ok I.hok
      have hw' : Dat.wids ds + 2 ≤ 1000000 := hw
      have sh := repA_shows I h2 rv hs (by omega)
      have hl : (Dat.lst ds).py.shown.length ≤ sizeLine := Nat.le_trans (shown_le hs) (sz hw)
      have hdp : (PyData.list (Dat.pys ds)).depth = (Dat.lst ds).dep := dep_py (d := .lst ds) hs
      refine str_by (fun P w => showsBy_list e rfl rfl sh hl P w) hg (by rw [hdp]; omega) (fun _ _ q => q) (fun h' u tk hk => ?_) hl
      exact ⟨.str _, H, I.kept (t' := tk) hk, ⟨_, rfl⟩, q⟩
  · exact SkE.call_str_str pins s σ H xs us Q I r h
theorem de_strC (hr : RoomG k X.A) (hg : Gl X "str") (hm : X.mg "str" = none) (ha : DA X W [e] ga) (he : starEach [e] X.env = (false, eval e X.env) :: starEach [] X.env := by rfl) : DE X W (.Call (.Name "str" p) [e] [] pos) (ga.bi strD) :=
  de_callTy (call_strL hr.g hr.units) (fun H H0 xs ds dz Q s hx e q => by
    unfold strD at e
    split at e
    · split at e
      · rename_i h
        cases e
        cases hx with
        | cons h1 h2 =>
          cases h2
          exact .inl ⟨_, _, rfl, h1.mono s, h.1, h.2.1, h.2.2, q _ H H0 (Grow.refl s) (.str _)⟩
      · cases e
    · cases e
      cases hx with
      | cons h1 h2 =>
        cases h2
        cases h1
        exact .inr ⟨_, rfl, q _ H H0 (Grow.refl s) (.str _)⟩
    · cases e) hg hm (by decide +kernel) ha (by decide) (by decide) he
/-! ## == of two texts -/
def eqSD (d e : Dat) : Option Dat := match d, e with
  | .str a, .str b => some (.bl (decide (a = b)))
  | _, _ => none
theorem snd_eqS {K : PySem.W.Frag} : Snd2 K rEq eqSD := by
  intro H H0 x y dx dy dz Q s hx hy e q
  cases dx <;> cases dy <;> try (cases e; done)
  rename_i a b
  cases e
  cases hx; cases hy
  refine ⟨rfl, ?_⟩
  have e : (decide (V.str a = V.str b)) = decide (a = b) := by simp
  rw [e]
  exact q _ H H0 (Grow.refl s) (.bl _)
theorem de_eqS (ha : DE X W a f) (hb : DE X W b g) : DE X W (.Compare a [.Eq] [b] pos) (f.bin g eqSD) := de_cmp op_eq snd_eqS ha hb (nomark _)
/-! ## {} -/
/-- a new dict, its object known -/
theorem pe_lockD {X : Cx} {e : Expr} {t : TE} (h : PE X e t) : PE X e (fun σ H Q => t σ H fun x H' => ∃ (p : Addr) (kvs : List (Key × V)) (G : Hp), x = .ref p ∧ H' = upd G p (.dK kvs) ∧ ∀ o, Q x (upd G p (.frz o (.dK kvs)))) :=
  ⟨fun pins s σ H Q I q => thn (h.run pins s σ H _ I q) fun v s1 ⟨x, H1, I1, r1, p, kvs, G, ex, eH, q1⟩ => by
    subst eH
    obtain ⟨o, J⟩ := I1.lock (d := p) upd_same True.intro
    have e : upd (upd G p (.dK kvs)) p (.frz o (.dK kvs)) = upd G p (.frz o (.dK kvs)) := by
      funext b
      by_cases hb : b = p
      · subst hb; rw [upd_same, upd_same]
      · rw [upd_ne hb, upd_ne hb, upd_ne hb]
    rw [e] at J
    exact ⟨x, _, J, r1, q1 o⟩⟩
theorem Rep.newD {K : PySem.W.Frag} {H0 : Hp} {p : Addr} {o : Obj} {kvs : List (Key × V)} {ks : List Key} {ds : List Dat} (hn : H0 p = none) (hk : kvs.map (·.1) = ks) (h : RepA K H0 (kvs.map (·.2)) ds) : Rep K (upd H0 p (.frz o (.dK kvs))) (.ref p) (.dct ks ds) :=
  .dct upd_same hk (h.mono fun b u e => by rw [upd_ne (ne_of_none e hn)]; exact e)
theorem de_edct : DE X W (.Dict [] [] pos) (M.ret (.dct [] [])) := PE.imp (pe_lockD pe_dnewK) fun σ H Q ⟨z, H0, ρ, r, q⟩ => fun d hd => ⟨d, [], H, rfl, rfl, fun o => by
  have g := Grow.new (o := .frz o (.dK [])) r.sub hd
  exact q _ _ (g.rel r) g.s _ (Rep.newD (r.sub.free hd) rfl .nil)⟩
/-! ## xs[lo:hi] of a list -/
def cutD (d : Dat) (lo hi : Option Int) : Option Dat := match d with
  | .lst ds => some (.lst ((ds.drop (HT.sIx ds.length 0 lo)).take (HT.sIx ds.length ds.length hi - HT.sIx ds.length 0 lo)))
  | _ => none
def asI : Dat → Option Int
  | .int i => some i
  | _ => none
def M.part : Option (M Dat) → M (Option Int)
  | none => M.ret none
  | some f => f.bnd fun d => M.bnd (M.lift (asI d)) fun i => M.ret (some i)
def M.cut (f : M Dat) (lo hi : Option (M Dat)) : M Dat := f.bnd fun d => (M.part lo).bnd fun i => (M.part hi).bnd fun j => M.lift (cutD d i j)
theorem RepA.drop {K : PySem.W.Frag} {H : Hp} : ∀ {n : Nat} {ds : List Dat} {vs : List V}, RepA K H vs ds → RepA K H (vs.drop n) (ds.drop n)
  | 0, _, _, h => h
  | n + 1, [], _, .nil => .nil
  | n + 1, _ :: _, _, .cons _ h => RepA.drop (n := n) h
theorem RepA.take {K : PySem.W.Frag} {H : Hp} : ∀ {n : Nat} {ds : List Dat} {vs : List V}, RepA K H vs ds → RepA K H (vs.take n) (ds.take n)
  | 0, _, _, _ => .nil
  | n + 1, [], _, .nil => .nil
  | n + 1, _ :: _, _, .cons h1 h => .cons h1 (RepA.take (n := n) h)
/-- an end of a slice -/
def DO (X : Cx) (W : WX) (o : Option Expr) (g : M (Option Int)) : Prop := PO X o (fun σ H Q => ∃ (z : Fx) (H0 : Hp) (ρ : En), Rel X.K z σ H H0 ρ ∧ Run (cc X W) z σ H0 (g ρ) fun i H' _ _ => Q i H')
theorem PO.imp' {o : Option Expr} {t t' : TO} (h : PO X o t) (m : ∀ σ H Q, t' σ H Q → t σ H Q) : PO X o t' := ⟨fun pins s σ H Q I q => h.run pins s σ H Q I (m σ H Q q)⟩
theorem do_none : DO X W none (M.part none) := PO.imp' po_none fun σ H Q ⟨z, H0, ρ, r, q⟩ => q H H0 r (Same.refl _)
theorem do_some (h : DE X W e f) : DO X W (some e) (M.part (some f)) := PO.imp' (po_some h) fun σ H Q ⟨z, H0, ρ, r, q⟩ => part r q fun d v H1 G1 ρ1 r1 s1 hv q1 => by
  obtain ⟨i, ei, q2⟩ := Run.lift (Run.bnd q1)
  cases d <;> cases ei
  cases hv
  exact ⟨_, rfl, q2 H1 G1 r1 (Same.refl _) H1 G1 r1 (Same.refl _)⟩
theorem de_cut {lo hi : Option Expr} {gl gh : Option (M Dat)} {p2 : Pos} (he : DE X W e f) (hl : DO X W lo (M.part gl)) (hh : DO X W hi (M.part gh)) : DE X W (.Subscript e (.Slice lo hi none p2) pos) (f.cut gl gh) :=
  PE.imp (pe_slice sl_list he hl hh) fun σ H Q ⟨z, H0, ρ, r, q⟩ => part r q fun d v H1 G1 ρ1 r1 s1 hv q1 => ⟨z, G1, ρ1, r1, (Run.bnd q1).mono fun i H2 G2 ρ2 r2 s2 q2 => ⟨z, G2, ρ2, r2, (Run.bnd q2).mono fun j H3 G3 ρ3 r3 s3 q3 => by
    obtain ⟨dz, e, q4⟩ := Run.lift q3
    cases d with
    | lst ds =>
      cases e
      cases hv with
      | @lst ad vs _ h1 h2 =>
        refine ⟨ad, vs, rfl, .inl (sameRd ((s2.trans s3).trans r3.sub) h1), fun p hp => ?_⟩
        have g := Grow.new (o := .lst (cutV vs i j)) r3.sub hp
        refine q4 _ _ (g.rel r3) g.s _ (Rep.newL (r3.sub.free hp) ?_)
        unfold cutV
        rw [h2.length]
        exact ((h2.mono (s2.trans s3)).drop).take
    | _ => cases e⟩⟩
/-! ## a suite: y = [k, n.thing] -/
def fldO (cx : Str) (s : Str) (j : Nat) : Str → List (Str × Dat) → En → O := fun cn fs ρ => if cn = cx then (match fs with
  | [(fl, d)] => if fl = "thing" then setNO (M.ret [.str s, d]) j ρ else .stuck
  | _ => .stuck) else .stuck
theorem su_fld {cx s y n : Str} {i j jj : Nat} {py pn pa pl p1 : Pos} (T : ExT X.K X.mg cx) (hN : X.N.Nodup) (hj : X.N[j]? = some y) (hi : X.N[i]? = some n) (hy : X.env.scope.names.lookup y = some .local) (hn : X.env.scope.names.lookup n = some .local) (hd : (n == ("__debug__" : Str)) = false := by decide) (hcd : (n == ("__classdict__" : Str)) = false := by decide)
    (hs : ∀ Y : Cx, Y.env = X.env → swapsWith (.List [.Constant (.str s) jj p1, .Attribute (.Name n pn) "thing" pa] pl) (some (.Name y py)) pos.line Y.env = pure false := by intro Y h; rw [h]; rfl) :
    DSu X (some i) [.Assign [.Name y py] (.List [.Constant (.str s) jj p1, .Attribute (.Name n pn) "thing" pa] pl) pos] (fldO cx s j) := by
  obtain ⟨qx, C, fI, T⟩ := T.ex
  intro ad oe cls dx pins hz hf
  refine PSs.imp (pss_one (ps_set (i := j) hN hj (.inl hy) (pe_lst (pa_cons pe_str (pa_cons (pe_byLowT T hz hf (pe_var hi (.inl hn) hd hcd)) pa_nil))) (hs _ rfl) (.inr hy))) fun D σ H ⟨z, H0, ρ, cn, fs, r, xa, hio, q⟩ => ?_
  unfold fldO at q
  split at q
  · rename_i ec
    subst ec
    obtain ⟨C', c1, c2, c3⟩ := xa
    have c1 : X.mg cn = some (.ref C') := c1
    rw [T.gC] at c1
    cases c1
    split at q
    · rename_i fl d
      split at q
      · rename_i ef
        subst ef
        match dx, c3 with
        | some dd, ⟨vs, v1, v2, v3⟩ =>
          match vs, v1, v2, v3 with
          | [(f1, v)], v1, v2, .cons v3 .nil =>
            have e1 : f1 = "thing" := by simpa using v2
            subst e1
            refine ⟨_, (hio i rfl).1, rfl, c2, dd, v, rfl, v1, by show 2 ≤ sizeLine; decide, fun p hp => ?_⟩
            exact setN_run (r.new' _ hp) ⟨(r.fresh hp).1, (r.fresh hp).2, r.notat hp, r.nors hp, _, upd_same, .cons (.str s) (.cons v3 .nil)⟩ q
        | none, h => cases h
      · exact q.elim
    · exact q.elim
  · exact q.elim
end
end Sv
namespace Sv
open PySem
/-- an error of the class at C is, or is not, what «except D» names -/
theorem exm_pair {K : PySem.W.Frag} {C D : Addr} {b : Bool} (h1 : PySem.W.subIn K (.ref D) (.type "BaseException") = some true) (h2 : PySem.W.isClsIn K D = true) (h3 : PySem.W.typeIn K (.ref D) = some (.type "type")) (h4 : PySem.W.subIn K (.ref C) (.ref D) = some b) : PySem.W.exmOne K (.ref C) (.ref D) = some b := by
  have h2 : (PySem.W.clsIn K D).isSome = true := h2
  have e1 : (PySem.W.subIn K (.ref D) (.type "BaseException") == some true) = true := by rw [h1]; rfl
  have e2 : ((PySem.W.clsIn K D).isSome && PySem.W.typeIn K (.ref D) == some (.type "type")) = true := by rw [h2, h3]; rfl
  show (if (PySem.W.subIn K (.ref D) (.type "BaseException") == some true) = true then (if ((PySem.W.clsIn K D).isSome && PySem.W.typeIn K (.ref D) == some (.type "type")) = true then PySem.W.subIn K (.ref C) (.ref D) else none) else none) = some b
  rw [if_pos e1, if_pos e2, h4]
end Sv

set_option Elab.async false
set_option linter.all false
set_option maxRecDepth 100000
namespace Sv
open PySem L2 PySem.Spec PyProof.Rows
/-! ## instances: calls of a class, methods, properties -/
theorem guards_make (A : Around) (ar : Args) : (A.under (.builtin "type.__call__" ar)).guards = A.guards := by
  first
    | rfl
    | simp [Around.under, Code.guards, Code.isGuard, guardIds, pushGuards]
theorem RoomG.make {k : Nat} {A : Around} (r : RoomG (k + 1) A) (C : Addr) (us : List Value) (kw : List (Str × Value)) : RoomG k (A.under (.builtin "type.__call__" ⟨.ref C :: us, kw⟩)) := ⟨r.1.make C us kw, (guards_make A _).trans r.2⟩
theorem RoomG.in1 {k : Nat} {A : Around} (r : RoomG (k + 1) A) : RoomG k A.in1 := ⟨r.1.in1, r.2⟩
section
variable {X : Cx} {c : CXT} {k n : Nat} {f g C : Addr} {fd : FuncData} {ps ks : List Str} {sp : L2.Sp} {dvs : List V} {ds : List Value} {E : L2.St → XK} {x m : Str} {p pos apos : Pos} {e o : Expr} {es : List Expr} {kws : List Keyword} {t tk : TA} {ta : TE} {ix : List Nat}
theorem run_makeG {pins : List (Addr × Obj)} {σ : L2.St} {H : Hp} {s : Shared} {Q : VK} {us ws : List Value} (M : Mk X.K C f) (F : FnG X.prog X.w X.K X.mg X.base c k f fd ps sp) (hr : RoomG (k + 1) X.A) (hx : PassesAt c X σ (E σ)) (I : Inv X pins σ H s)
    (h : ∀ a dx : Addr, H a = none → H dx = none → dx ≠ a → ∃ (vs : List V) (zs : List Value), Vals vs zs ∧ (∀ t : Shared, X.K.In t.heap → BindsTo t fd ⟨.ref a :: us, ks.zip ws⟩ (ps.zip zs)) ∧ sp vs (upd (upd H dx (.own a)) a (.ins C dx [])) (fun v G => v = .non ∧ Q (.ref a) G) (E σ)) :
    wpAny (model X.prog X.w) X.A (call (.ref C) us (ks.zip ws)) (EP X pins σ Q) X.xe s := by
  obtain ⟨vs, zs, rv, bd, q⟩ := h (s.heap.objs.size + 1) s.heap.objs.size (I.hok.fresh (Nat.le_succ _)) (I.hok.fresh (Nat.le_refl _)) (Nat.ne_of_lt (Nat.lt_succ_self _))
  have J := Inv.made (C := C) I
  refine wpAny_call (make_map (f := f) I.kIn M.makes M.init (beq_iff_eq.mp M.fn) (codeAny_mono (F.run _ X.stack _ _ _ zs vs _ (E σ) (hr.make C us (ks.zip ws)) (J.env0.make C us (ks.zip ws)) (bd _ J.kIn) rv q) fun r s' hq => ?_))
  match r, hq with
  | .error er, hq => exact hx pins _ _ er s' J hq
  | .ok .next, hq => exact False.elim hq
  | .ok .brk, hq => exact False.elim hq
  | .ok .cont, hq => exact False.elim hq
  | .ok (.ret u), hq =>
    obtain ⟨v, G, J3, ru, ev, q3⟩ := J.after hq
    subst ev
    exact ⟨ru, ⟨.ref (s.heap.objs.size + 1), G, J3, rfl, q3⟩⟩
/-- C(e, ..) with keywords: the promise of __init__ at the new instance -/
def tMkX (C : Addr) (n m : Nat) (sp : L2.Sp) (ix : List Nat) (dvs : List V) (E : L2.St → XK) (t tk : TA) : TE := fun σ H Q => t σ H fun vs H1 => tk σ H1 fun zs H2 => vs.length = n ∧ zs.length = m ∧ ∀ a dx, H2 a = none → H2 dx = none → dx ≠ a →
  sp (pick ix (.ref a :: vs ++ zs ++ dvs)) (upd (upd H2 dx (.own a)) a (.ins C dx [])) (fun v H3 => v = .non ∧ Q (.ref a) H3) (E σ)
theorem pe_makeG (M : Mk X.K C f) (F : FnG X.prog X.w X.K X.mg X.base c k f fd ps sp) (hr : RoomG (k + 1) X.A) (hg : Gl X x) (hm : X.mg x = some (.ref C)) (hb : KBd X.K fd ps (n + 1) ks ix dvs) (hx : ∀ σ, PassesAt c X σ (E σ))
    (ha : PA X (e :: es) t) (hkw : PK X kws tk) (hall : (backToKw pos (keywordEach kws X.env)).all (·.1.isSome) = true := by rfl) (hks : (backToKw pos (keywordEach kws X.env)).filterMap (·.1) = ks := by rfl) (hdb : (x == ("__debug__" : Str)) = false := by decide)
    (he : starEach (e :: es) X.env = (false, eval e X.env) :: starEach es X.env := by rfl) (hpl : ((backTo pos (starEach (e :: es) X.env)).any (·.1) || (backToKw pos (keywordEach kws X.env)).any (·.1.isNone)) = false := by rfl) :
    PE X (.Call (.Name x p) (e :: es) kws pos) (tMkX C n ks.length sp ix dvs E t tk) := by
  obtain ⟨dsv, rd, to⟩ := hb.ex
  refine ⟨fun pins s σ H Q I h => wpAny_Call_Name_kw (ld_glob I hg hm (PySem.W.callWith_KW (h₀ := X.base) I.ok.mod.kin M.kp hall (thn (ha.run pos pins s σ H _ I h) fun us s1 ⟨vs, H1, I1, r1, q1⟩ => thn (hkw.run pos pins s1 σ H1 _ I1 q1) fun ws s2 ⟨zs, H2, I2, r2, l1, l2, q2⟩ => ⟨I2.kIn, ?_⟩) hpl he) hdb)⟩
  rw [hks]
  refine run_makeG M F hr (hx σ) I2 fun a dx na nd ne => ?_
  have r0 : Vals (V.ref a :: vs) (Value.ref a :: us) := .cons rfl r1
  exact ⟨pick ix (.ref a :: vs ++ zs ++ dvs), pick ix (.ref a :: us ++ ws ++ dsv), pick_vals ((r0.append r2).append rd) ix, fun t kin => to t (.ref a :: us) ws kin (congrArg Nat.succ (r1.length.symm.trans l1)) (r2.length.symm.trans l2), q2 a dx na nd ne⟩
/-- C(e, ..), the defaults fill up -/
def tMkD (C : Addr) (sp : L2.Sp) (dvs : List V) (E : L2.St → XK) (t : TA) : TE := fun σ H Q => t σ H fun vs H1 => ∀ a dx, H1 a = none → H1 dx = none → dx ≠ a → sp (.ref a :: (vs ++ dvs)) (upd (upd H1 dx (.own a)) a (.ins C dx [])) (fun v H3 => v = .non ∧ Q (.ref a) H3) (E σ)
theorem pe_makeGD (M : Mk X.K C f) (F : FnG X.prog X.w X.K X.mg X.base c k f fd ps sp) (hr : RoomG (k + 1) X.A) (hg : Gl X x) (hm : X.mg x = some (.ref C)) (hb : Binds X.K fd ps ds) (hd : Vals dvs ds) (hx : ∀ σ, PassesAt c X σ (E σ))
    (ha : PA X (e :: es) t) (hdb : (x == ("__debug__" : Str)) = false := by decide) (he : starEach (e :: es) X.env = (false, eval e X.env) :: starEach es X.env := by rfl) (hpl : (backTo pos (starEach es X.env)).any (·.1) = false := by rfl) : PE X (.Call (.Name x p) (e :: es) [] pos) (tMkD C sp dvs E t) := by
  refine ⟨fun pins s σ H Q I h => wpAny_Call_Name_kw (ld_glob I hg hm (PySem.W.callWith_K (h₀ := X.base) I.ok.mod.kin M.kp (thn (ha.run pos pins s σ H _ I h) fun us s1 ⟨vs, H1, I1, r1, q1⟩ => ⟨I1.kIn, ?_⟩) he hpl) hdb)⟩
  refine run_makeG (ks := []) (ws := []) M F hr (hx σ) I1 fun a dx na nd ne => ?_
  have r0 : Vals (V.ref a :: (vs ++ dvs)) (Value.ref a :: (us ++ ds)) := .cons rfl (r1.append hd)
  refine ⟨_, .ref a :: (us ++ ds), r0, fun t kin => hb t (.ref a :: us) kin ?_, q1 a dx na nd ne⟩
  have l := F.len _ _ _ _ (q1 a dx na nd ne)
  rw [← l, List.length_append, List.length_cons, List.length_cons, List.length_append, r1.length, hd.length]
  omega
/-! methods: by the class of the instance -/
/-- what o.m(..) finds at the classes of a table: the def, how it binds, its promise -/
structure ME where
  C : Addr
  sp : L2.Sp
def MEok (X : Cx) (c : CXT) (k : Nat) (m : Str) (n : Nat) (q : ME) : Prop := ∃ (f : Addr) (fd : FuncData) (ps : List Str), Cls X.K q.C ∧ Meth X.K q.C m f ∧ FnG X.prog X.w X.K X.mg X.base c k f fd ps q.sp ∧ Binds X.K fd ps [] 
def tMethG (m : Str) (n : Nat) (tbl : List ME) (E : L2.St → XK) (ta : TE) (t : TA) : TE := fun σ H Q => ta σ H fun x H1 => ∃ a C dx fs, x = .ref a ∧ H1 a = some (.ins C dx fs) ∧ fs.lookup m = none ∧ (∃ q ∈ tbl, q.C = C) ∧ t σ H1 fun vs H2 => ∃ q ∈ tbl, q.C = C ∧ vs.length = n ∧ q.sp (x :: vs) H2 Q (E σ)
theorem pe_methG {tbl : List ME} {pl : Sem Bool} (he : PE X o ta) (hok : ∀ q ∈ tbl, MEok X c k m n q) (hr : RoomG k X.A) (hx : ∀ σ, PassesAt c X σ (E σ)) (ha : PA X (e :: es) t)
    (hst : starEach (e :: es) X.env = (false, eval e X.env) :: starEach es X.env := by rfl) (hpl : (backTo pos (starEach es X.env)).any (·.1) = false := by rfl)
    (ht : eval (.Call (.Attribute o m apos) (e :: es) [] pos) X.env = (do
      let ob ← eval o X.env
      standAt apos.atName
      let (fn, first) ← holding [ob] (getMethod ob m pl)
      callWith pos fn first (backTo pos (starEach (e :: es) X.env)) (backToKw pos (keywordEach [] X.env))) := by rfl) : PE X (.Call (.Attribute o m apos) (e :: es) [] pos) (tMethG m n tbl E ta t) := by
  refine ⟨fun pins s σ H Q I h => PySem.W.methodCall_KW (pl := pl) (thn (he.run pins s σ H _ I h) fun u s1 ⟨x, H1, I1, rx, w1⟩ => ?_) ht⟩
  obtain ⟨a, C, dx, fs, ex, ea, l, ⟨q0, m0, c0⟩, w2⟩ := w1
  subst ex
  obtain rfl : u = Value.ref a := rx
  obtain ⟨f0, fd0, ps0, cl0, me0, _, _⟩ := hok q0 m0
  rw [c0] at cl0 me0
  refine getmeth_ok I1 ea cl0 me0 l (PySem.W.callWith_K (first := [.ref a]) (h₀ := X.base) I.ok.mod.kin me0.kp (thn (ha.run pos pins s1 σ H1 _ I1 w2) fun us s2 ⟨vs, H2, I2, r2, w3⟩ => ⟨I2.kIn, ?_⟩) hst hpl)
  obtain ⟨q1, m1, c1, lv, w4⟩ := w3
  obtain ⟨f1, fd1, ps1, cl1, me1, F, hb⟩ := hok q1 m1
  rw [c1] at me1
  have ef : f1 = f0 := by
    have z := me1.at_.symm.trans me0.at_
    cases z; rfl
  subst ef
  have r3 : Vals (V.ref a :: vs) (Value.ref a :: us) := .cons rfl r2
  have l3 := F.len _ _ _ _ w4
  have b := hb s2 (.ref a :: us) I2.kIn (by rw [List.append_nil, ← l3, r3.length])
  rw [List.append_nil] at b
  exact wpAny_call (runG F hr b (hx σ) I2 r3 w4)
/-- e.p, a property of the class at C: the getter's promise -/
def tPropG (C : Addr) (sp : L2.Sp) (ta : TE) : TE := fun σ H Q => ta σ H fun x H1 => ∃ a dx fs, x = .ref a ∧ H1 a = some (.ins C dx fs) ∧ sp [.ref a] H1 Q (fun _ _ _ => False)
theorem pe_propG {pa : Addr} (he : PE X e ta) (cl : Cls X.K C) (hp : PropOf X.K C m pa g) (F : FnG X.prog X.w X.K X.mg X.base (L2.CX X.prog X.w) k g fd ps sp) (hr : RoomG (k + 1) X.A) (hb : Binds X.K fd ps []) (hab : attributeBase e m X.env (eval e X.env) = eval e X.env) : PE X (.Attribute e m pos) (tPropG C sp ta) := by
  refine ⟨fun pins s σ H Q I h => attr_of hab (thn (he.run pins s σ H _ I h) fun u s1 ⟨x, H1, I1, rx, w1⟩ => ?_)⟩
  obtain ⟨a, dx, fs, ex, ea, w2⟩ := w1
  subst ex
  obtain rfl : u = Value.ref a := rx
  obtain ⟨mA, O, _, _, _, _⟩ := ins_get I1.hok ea
  obtain ⟨od, J, _⟩ := O.look
  obtain ⟨rest, hrec⟩ := hp.rec_
  have I2 := I1.tok (s1.toks + 1)
  have l3 := F.len _ _ _ _ w2
  have hc : (PySem.W.clsIn X.K C).isSome = true := by
    obtain ⟨cd, hc, _⟩ := PySem.W.any_some cl.hd
    rw [hc]; rfl
  have b := hb { s1 with toks := s1.toks + 1 } [.ref a] I2.kIn (by rw [List.append_nil]; exact l3)
  rw [List.append_nil] at b
  refine PySem.W.get_bind I1.kIn J (PySem.W.plainGet_of (cl.get m)).1 (PySem.W.findObj_data hc hp.at_ hp.get hp.tak) (PySem.W.plainGet_of (cl.get m)).2 (wpAny_call (PySem.W.prop_get (s := { s1 with toks := s1.toks + 1 }) I1.kIn hrec ?_))
  refine codeAny_mono (F.run X.A.in1 X.stack { s1 with toks := s1.toks + 1 } H1 ⟨[.ref a], []⟩ [.ref a] [.ref a] Q (fun _ _ _ => False) hr.in1 I2.env0.in1 b (.cons rfl .nil) w2) fun r s' hq => ?_
  match r, hq with
  | .error er, hq => obtain ⟨_, _, _, _, _, _, _, _, _, _, _, _, z⟩ := hq; exact z.elim
  | .ok .next, hq => exact False.elim hq
  | .ok .brk, hq => exact False.elim hq
  | .ok .cont, hq => exact False.elim hq
  | .ok (.ret u), hq =>
    obtain ⟨v, G, J3, rv, q3⟩ := I2.after hq
    show wpAny _ _ (handedOut u) _ _ _
    rw [PySem.W.handedOut_of (handed_of rv)]
    exact wpAny_pure ⟨v, G, J3, rv, q3⟩
end
end Sv

set_option Elab.async false
set_option linter.all false
set_option maxRecDepth 100000
set_option maxHeartbeats 1000000
namespace Sv
open PySem L2 PyProof.Rows
/-! ## instances as data -/
/-- the class of the name cn stands at C -/
abbrev ClsAt (K : PySem.W.Frag) (cn : Str) (C : Addr) : Prop := PySem.W.nsIn K mainGlobals cn = some (some (.ref C))
theorem ClsAt.eq {K : PySem.W.Frag} {cn : Str} {C D : Addr} (h : ClsAt K cn C) (h' : ClsAt K cn D) : C = D := by
  have e := h.symm.trans h'
  cases e; rfl
theorem zip_look {K : PySem.W.Frag} {H : Hp} {fl : Str} {d : Dat} : ∀ {fs : List Str} {ds : List Dat} {fvs : List (Str × V)}, fvs.map (·.1) = fs → RepA K H (fvs.map (·.2)) ds → (fs.zip ds).lookup fl = some d → ∃ v, fvs.lookup fl = some v ∧ Rep K H v d
  | [], [], [], _, _, e => by cases e
  | [], _ :: _, [], _, h, _ => by cases h
  | [], _, _ :: _, h, _, _ => by cases h
  | _ :: _, _, [], h, _, _ => by cases h
  | _ :: _, [], _ :: _, _, h, _ => by cases h
  | f :: fs, x :: ds, (g, v) :: fvs, h1, .cons r1 r2, e => by
    have h1 : g :: fvs.map (·.1) = f :: fs := h1
    obtain ⟨eg, h5⟩ := List.cons.inj h1
    subst eg
    rw [List.zip_cons_cons, List.lookup_cons] at e
    rw [List.lookup_cons]
    cases q : (fl == g) with
    | true => rw [q] at e; cases e; exact ⟨v, rfl, r1⟩
    | false => rw [q] at e; exact zip_look h5 r2 e
theorem no_look {fl : Str} : ∀ {fs : List Str} {fvs : List (Str × V)}, fvs.map (·.1) = fs → fs.all (fun g => !(fl == g)) = true → fvs.lookup fl = none
  | [], [], _, _ => rfl
  | [], _ :: _, h, _ => by cases h
  | _ :: _, [], h, _ => by cases h
  | f :: fs, (g, v) :: fvs, h1, e => by
    have h1 : g :: fvs.map (·.1) = f :: fs := h1
    obtain ⟨eg, h5⟩ := List.cons.inj h1
    subst eg
    rw [List.all_cons, Bool.and_eq_true] at e
    rw [List.lookup_cons, show (fl == g) = false by simpa using e.1]
    exact no_look h5 e.2
/-- what the written part says of a class and an attribute of its instances -/
def CF (K : PySem.W.Frag) (cn fl : Str) : Prop := ∃ C, ClsAt K cn C ∧ Cls K C ∧ NoAttr K C fl
def fldD (cn fl : Str) (d : Dat) : Option Dat := match d with
  | .ins c fs ds => if c = cn then (fs.zip ds).lookup fl else none
  | _ => none
section
variable {X : Cx} {W : WX} {e a b o : Expr} {f g : M Dat} {ga gk : M (List Dat)} {pos pos' p apos cpos : Pos} {cn fl x m : Str} {k n : Nat} {es : List Expr} {kws : List Keyword}
theorem de_fld (c : CF X.K cn fl) (he : DE X W e f) (hb : attributeBase e fl X.env (eval e X.env) = eval e X.env := by rfl) : DE X W (.Attribute e fl pos) (f.un1 (fldD cn fl)) :=
  PE.imp (pe_fld he hb) fun σ H Q ⟨z, H0, ρ, r, q⟩ => part r q fun d v H1 G1 ρ1 r1 s1 hv q1 => by
    obtain ⟨dz, e1, q2⟩ := Run.lift q1
    obtain ⟨C, c1, c2, c3⟩ := c
    unfold fldD at e1
    cases d with
    | ins c fs ds =>
      dsimp only at e1
      split at e1
      · rename_i ec
        subst ec
        cases hv with
        | @ins ad C' dx fvs _ _ _ h1 h2 h3 h4 =>
          obtain rfl := ClsAt.eq c1 h2
          obtain ⟨v, l, rv⟩ := zip_look h3 h4 e1
          exact ⟨ad, _, dx, fvs, v, rfl, r1.sub _ _ h1, c2, c3, l, q2 H1 G1 r1 (Same.refl _) v rv⟩
      · cases e1
    | _ => cases e1
/-! ### properties -/
def propR (o : O) (ρ : En) : R Dat := match o with
  | .nxt _ => .ok .non ρ
  | .ret d _ => .ok d ρ
  | .new es _ => .ok (.lst es) ρ
  | _ => .stuck
def isCn (cn : Str) : Dat → Bool
  | .ins c _ _ => decide (c = cn)
  | _ => false
def M.prop (f : M Dat) (cn : Str) (G : List Dat → O) : M Dat := f.bnd fun d ρ => if isCn cn d = true then propR (G [d]) ρ else .stuck
/-- the class cn has the property m, its getter keeps G -/
def PrOk (P : Program) (w : World) (K : PySem.W.Frag) (mg : Str → Option Value) (base : Heap) (k : Nat) (cn m : Str) (G : List Dat → O) : Prop := ∃ (C pa g : Addr) (fd : FuncData) (ps : List Str), ClsAt K cn C ∧ Cls K C ∧ PropOf K C m pa g ∧ FnG P w K mg base (L2.CX P w) k g fd ps (spP K mg 1 G) ∧ Binds K fd ps []
theorem isCn_at {K : PySem.W.Frag} {H : Hp} {d : Dat} {v : V} (h : isCn cn d = true) (hv : Rep K H v d) : ∃ (ad C dx : Addr) (fvs : List (Str × V)) (fs : List Str) (ds : List Dat), d = .ins cn fs ds ∧ v = .ref ad ∧ H ad = some (.ins C dx fvs) ∧ ClsAt K cn C ∧ fvs.map (·.1) = fs ∧ RepA K H (fvs.map (·.2)) ds := by
  cases d with
  | ins c fs ds =>
    have ec : c = cn := of_decide_eq_true h
    subst ec
    cases hv with
    | @ins ad C dx fvs _ _ _ h1 h2 h3 h4 => exact ⟨ad, C, dx, fvs, fs, ds, rfl, rfl, h1, h2, h3, h4⟩
  | _ => cases h
theorem de_prop {G : List Dat → O} (D : PrOk X.prog X.w X.K X.mg X.base k cn m G) (hr : RoomG (k + 1) X.A) (he : DE X W e f) (hb : attributeBase e m X.env (eval e X.env) = eval e X.env := by rfl) : DE X W (.Attribute e m pos) (f.prop cn G) := by
  obtain ⟨C, pa, g, fd, ps, c1, c2, c3, F, hbd⟩ := D
  refine PE.imp (pe_propG he c2 c3 F hr hbd hb) fun σ H Q ⟨z, H0, ρ, r, q⟩ => part r q fun d v H1 G1 ρ1 r1 s1 hv q1 => ?_
  dsimp only at q1
  split at q1
  · rename_i hc
    obtain ⟨ad, C', dx, fvs, fs, ds, ed, ev, h1, h2, h3, h4⟩ := isCn_at hc hv
    obtain rfl := ClsAt.eq c1 h2
    subst ev
    refine ⟨ad, dx, fvs, rfl, r1.sub _ _ h1, G1, [d], r1.sub, .cons hv .nil, rfl, ?_⟩
    revert q1
    generalize G [d] = o
    intro q1
    cases o with
    | nxt _ => exact fun H' H0' g => q1 H' H0' (g.rel r1) g.s _ .non
    | ret d _ => exact fun v H' H0' g hv => q1 H' H0' (g.rel r1) g.s v hv
    | new es _ =>
      intro p H' H0' g hp h0 l
      obtain ⟨G2, r2, s2, h2⟩ := (g.rel r1).know (new_at r1 hp h0 l)
      exact q1 H' G2 r2 (g.s.trans s2) _ h2
    | err _ _ _ => exact q1.elim
    | brk _ => exact q1.elim
    | ctn _ => exact q1.elim
    | stuck => exact q1.elim
  · exact q1.elim
/-! ### methods -/
def MOk (P : Program) (w : World) (K : PySem.W.Frag) (mg : Str → Option Value) (base : Heap) (k : Nat) (m : Str) (n : Nat) (cn : Str) (G : List Dat → O) : Prop := ∃ (C f : Addr) (fd : FuncData) (ps : List Str), ClsAt K cn C ∧ Cls K C ∧ Meth K C m f ∧ FnG P w K mg base (L2.CX P w) k f fd ps (spP K mg (n + 1) G) ∧ Binds K fd ps []
/-- the table's entry for an instance -/
def entry (m : Str) (tbl : List (Str × (List Dat → O))) : Dat → Option (List Dat → O)
  | .ins c fs _ => if fs.all (fun g => !(m == g)) = true then tbl.lookup c else none
  | _ => none
def M.meth (f : M Dat) (ga : M (List Dat)) (m : Str) (tbl : List (Str × (List Dat → O))) : M Dat := f.bnd fun d => match entry m tbl d with
  | some G => ga.bnd fun ds ρ => callR (G (d :: ds)) ρ
  | none => fun _ => .stuck
theorem lookup_mem {α : Type} {c : Str} {v : α} : ∀ {l : List (Str × α)}, l.lookup c = some v → (c, v) ∈ l
  | [], e => by cases e
  | (g, x) :: r, e => by
    rw [List.lookup_cons] at e
    cases q : (c == g) with
    | true =>
      rw [q] at e; cases e
      have : c = g := by simpa using q
      subst this
      exact List.mem_cons_self
    | false => rw [q] at e; exact List.mem_cons_of_mem _ (lookup_mem e)
theorem tbl_me : ∀ {tbl : List (Str × (List Dat → O))}, (∀ q ∈ tbl, MOk X.prog X.w X.K X.mg X.base k m n q.1 q.2) → ∃ l : List ME, (∀ q ∈ l, MEok X (L2.CX X.prog X.w) k m n q) ∧ ∀ q ∈ tbl, ∃ y ∈ l, ClsAt X.K q.1 y.C ∧ y.sp = spP X.K X.mg (n + 1) q.2
  | [], _ => ⟨[], (fun _ h => nomatch h), fun _ h => nomatch h⟩
  | q :: tbl, h => by
    obtain ⟨l, h1, h2⟩ := tbl_me (tbl := tbl) fun y hy => h y (List.mem_cons_of_mem _ hy)
    obtain ⟨C, f, fd, ps, c1, c2, c3, F, hb⟩ := h q List.mem_cons_self
    refine ⟨⟨C, spP X.K X.mg (n + 1) q.2⟩ :: l, fun y hy => ?_, fun y hy => ?_⟩
    · rcases List.mem_cons.mp hy with e | e
      · subst e; exact ⟨f, fd, ps, c2, c3, F, hb⟩
      · exact h1 y e
    · rcases List.mem_cons.mp hy with e | e
      · subst e; exact ⟨_, List.mem_cons_self, c1, rfl⟩
      · obtain ⟨z, z1, z2⟩ := h2 y e
        exact ⟨z, List.mem_cons_of_mem _ z1, z2⟩
theorem de_meth {tbl : List (Str × (List Dat → O))} {pl : Sem Bool} (D : ∀ q ∈ tbl, MOk X.prog X.w X.K X.mg X.base k m n q.1 q.2) (tk : Takes X W) (hr : RoomG k X.A) (hn : ∀ ρ ds ρ', ga ρ = .ok ds ρ' → ds.length = n) (he : DE X W o f) (ha : DA X W (e :: es) ga)
    (hst : starEach (e :: es) X.env = (false, eval e X.env) :: starEach es X.env := by rfl) (hpl : (backTo pos (starEach es X.env)).any (·.1) = false := by rfl)
    (ht : eval (.Call (.Attribute o m apos) (e :: es) [] pos) X.env = (do
      let ob ← eval o X.env
      standAt apos.atName
      let (fn, first) ← holding [ob] (getMethod ob m pl)
      callWith pos fn first (backTo pos (starEach (e :: es) X.env)) (backToKw pos (keywordEach [] X.env))) := by rfl) : DE X W (.Call (.Attribute o m apos) (e :: es) [] pos) (f.meth ga m tbl) := by
  obtain ⟨l, l1, l2⟩ := tbl_me D
  refine PE.imp (pe_methG he l1 hr (fun σ => passAt tk σ) ha hst hpl ht) fun σ H Q ⟨z, H0, ρ, r, q⟩ => part r q fun d v H1 G1 ρ1 r1 s1 hv q1 => ?_
  dsimp only at q1
  cases ee : entry m tbl d with
  | none => rw [ee] at q1; exact q1.elim
  | some G =>
    rw [ee] at q1
    cases d with
    | ins c fs ds0 =>
      unfold entry at ee
      dsimp only at ee
      split at ee
      · rename_i nm
        obtain ⟨y, y1, y2, y3⟩ := l2 _ (lookup_mem ee)
        cases hv with
        | @ins ad C' dx fvs _ _ _ h1 h2 h3 h4 =>
          have ec := ClsAt.eq y2 h2
          have hvi : Rep X.K G1 (.ref ad) (.ins c fs ds0) := .ins h1 h2 h3 h4
          refine ⟨ad, C', dx, fvs, rfl, r1.sub _ _ h1, no_look h3 nm, ⟨y, y1, ec⟩, z, G1, ρ1, r1, ?_⟩
          have hn := hn ρ1
          unfold M.bnd at q1
          dsimp only at q1
          cases eg : ga ρ1 with
          | ok ds ρ2 =>
            rw [eg] at q1
            intro H2 G2 r2 s2 vs hvs
            refine ⟨y, y1, ec, by rw [hvs.length, hn ds ρ2 eg], ?_⟩
            rw [y3]
            exact ⟨G2, _, r2.sub, .cons (hvi.mono s2) hvs, by rw [List.length_cons, hn ds ρ2 eg], out_callR r2 (Run.up q1 s2)⟩
          | err cn fs ρ2 => rw [eg] at q1; exact q1
          | stuck => rw [eg] at q1; exact q1
      · cases ee
    | _ => cases ee
end
end Sv

set_option Elab.async false
set_option linter.all false
set_option maxRecDepth 100000
set_option maxHeartbeats 1000000
namespace Sv
open PySem L2 PyProof.Rows
/-! ## __init__ -/
inductive IStep where
  | pl (f : M Dat)
  | st (fl : Str) (f : M Dat)
/-- the body of __init__: calls, and stores of new attributes; what comes of it is the instance -/
def runI (cn : Str) : List IStep → En → List (Str × Dat) → O
  | [], ρ, acc => .ret (.ins cn (acc.map (·.1)) (acc.map (·.2))) ρ
  | .pl f :: r, ρ, acc => (f ρ).toO fun _ ρ' => runI cn r ρ' acc
  | .st fl f :: r, ρ, acc => (f ρ).toO fun d ρ' => if acc.all (fun q => !(q.1 == fl)) = true ∧ acc.length < 900 then runI cn r ρ' (acc ++ [(fl, d)]) else .stuck
def RunI (c : Cc) (x : Fx) (H0 : Hp) (cn : Str) (p C dx : Addr) (o : O) (D : Ends) : Prop := match o with
  | .ret (.ins cn' fs ds) ρ => cn' = cn → ∀ σ H H1 fvs, Rel c.K (x.add p (.ins C dx fvs)) σ H H1 ρ → Same H0 H1 → fvs.map (·.1) = fs → RepA c.K H1 (fvs.map (·.2)) ds → D.nx σ H
  | .err cn fs ρ => ∀ cls d σ H H1 fvs, Rel c.K (x.add p (.ins C dx fvs)) σ H H1 ρ → Same H0 H1 → XAt c H H1 cn fs cls d → c.W cls d σ H
  | _ => False
theorem RunI.up {c : Cc} {x : Fx} {H0 H0' : Hp} {cn : Str} {p C dx : Addr} {o : O} {D : Ends} (h : RunI c x H0 cn p C dx o D) (s : Same H0 H0') : RunI c x H0' cn p C dx o D := by
  cases o with
  | ret d ρ =>
    cases d with
    | ins cn fs ds => exact fun z σ H H1 fvs r q => h z σ H H1 fvs r (s.trans q)
    | _ => exact h
  | err cn fs ρ => exact fun cls d σ H H1 fvs r q => h cls d σ H H1 fvs r (s.trans q)
  | nxt _ => exact h
  | new _ _ => exact h
  | brk _ => exact h
  | ctn _ => exact h
  | stuck => exact h
def tI (c : Cc) (cn : Str) (steps : List IStep) : TS := fun D σ H => ∃ (x : Fx) (H0 : Hp) (ρ : En) (p C dx : Addr) (fvs : List (Str × V)) (acc : List (Str × Dat)), Rel c.K (x.add p (.ins C dx fvs)) σ H H0 ρ ∧ (∀ u, (p, u) ∉ x.rs) ∧ ClsAt c.K cn C ∧ σ[0]? = some (some (.ref p)) ∧
  fvs.map (·.1) = acc.map (·.1) ∧ RepA c.K H0 (fvs.map (·.2)) (acc.map (·.2)) ∧ RunI c x H0 cn p C dx (runI cn steps ρ acc) D
def DI (X : Cx) (W : WX) (cn : Str) (sts : List Stmt) (steps : List IStep) : Prop := PSs X sts (tI (cc X W) cn steps)
section
variable {X : Cx} {W : WX} {e : Expr} {f : M Dat} {pos pos' p0 : Pos} {cn fl : Str} {sts : List Stmt} {steps : List IStep}
/-- an expression's part of an __init__ -/
theorem RunI.part {α : Type} {c : Cc} {x : Fx} {σ : L2.St} {H0 : Hp} {p C dx : Addr} {fvs : List (Str × V)} {r : R α} {g : α → En → O} {D : Ends} (h : RunI c x H0 cn p C dx (r.toO g) D) : Run c (x.add p (.ins C dx fvs)) σ H0 r (fun a H' H1 ρ' => RunI c x H1 cn p C dx (g a ρ') D) := by
  cases r with
  | ok a ρ => exact fun H' H1 q s => RunI.up h s
  | err cn fs ρ => exact fun cls d H' H1 q s x => h cls d _ H' H1 _ q s x
  | stuck => exact h
theorem di_nil : DI X W cn [] [] := PSs.imp pss_nil fun D σ H ⟨x, H0, ρ, p, C, dx, fvs, acc, r, nx, hc, s0, e1, e2, q⟩ => q rfl σ H H0 fvs r (Same.refl _) e1 e2
theorem di_pl (he : DE X W e f) (k : DI X W cn sts steps) (hs : swapsWith e none pos.line X.env = pure false := by rfl) : DI X W cn (.Expr e pos :: sts) (.pl f :: steps) :=
  PSs.imp (pss_cons (ps_expr he hs) k) fun D σ H ⟨x, H0, ρ, p, C, dx, fvs, acc, r, nx, hc, s0, e1, e2, q⟩ =>
    ⟨_, H0, ρ, r, (RunI.part q).mono fun d H1 G1 ρ1 r1 s1 q1 v hv => ⟨x, G1, ρ1, p, C, dx, fvs, acc, r1, nx, hc, s0, e1, e2.mono s1, q1⟩⟩
theorem putF_new {f : Str} {v : V} : ∀ {fs : List (Str × V)} {acc : List (Str × Dat)}, fs.map (·.1) = acc.map (·.1) → acc.all (fun q => !(q.1 == f)) = true → putF f v fs = fs ++ [(f, v)]
  | [], [], _, _ => rfl
  | [], _ :: _, h, _ => by cases h
  | _ :: _, [], h, _ => by cases h
  | (g, y) :: fs, q :: acc, h, e => by
    have h : g :: fs.map (·.1) = q.1 :: acc.map (·.1) := h
    obtain ⟨e1, e2⟩ := List.cons.inj h
    rw [List.all_cons, Bool.and_eq_true] at e
    have ne : ¬ g = f := by
      rw [e1]
      simpa using e.1
    show (if g = f then (g, v) :: fs else (g, y) :: putF f v fs) = _
    rw [if_neg ne, putF_new e2 e.2]
    rfl
theorem di_st (c : CF X.K cn fl) (he : DE X W e f) (k : DI X W cn sts steps) {y : Str} (hN : X.N[0]? = some y := by rfl) (hv : Vis X.env.scope y := by first | exact Or.inl rfl | exact Or.inr (Or.inl rfl) | exact Or.inr (Or.inr rfl)) (hd : (y == ("__debug__" : Str)) = false := by decide)
    (hcd : (y == ("__classdict__" : Str)) = false := by decide) (hs : swapsWith e (some (.Attribute (.Name y p0) fl pos')) pos.line X.env = pure false := by rfl) : DI X W cn (.Assign [.Attribute (.Name y p0) fl pos'] e pos :: sts) (.st fl f :: steps) := by
  obtain ⟨C0, c1, c2, c3⟩ := c
  refine PSs.imp (pss_cons (ps_fld (pe_var hN hv hd hcd) he hs) k) fun D σ H ⟨x, H0, ρ, p, C, dx, fvs, acc, r, nx, hc, s0, e1, e2, q⟩ =>
    ⟨_, H0, ρ, r, (RunI.part q).mono fun d H1 G1 ρ1 r1 s1 q1 v hv => ?_⟩
  split at q1
  · rename_i hcond
    obtain rfl := ClsAt.eq c1 hc
    have l1 : fvs.length = acc.length := by
      have := congrArg List.length e1
      simpa using this
    refine ⟨_, s0, p, C0, dx, fvs, rfl, r1.at.1, c2, c3, by omega, ?_⟩
    rw [putF_new e1 hcond.1]
    refine ⟨x, G1, ρ1, p, C0, dx, fvs ++ [(fl, v)], acc ++ [(fl, d)], r1.rupd nx, nx, hc, s0, ?_, ?_, q1⟩
    · rw [List.map_append, List.map_append, e1]; rfl
    · rw [List.map_append, List.map_append]
      exact (e2.mono s1).app (.cons hv .nil)
  · exact q1.elim
end
/-! ### the promise of an __init__ -/
def OutN (K : PySem.W.Frag) (mg : Str → Option Value) (cn : Str) (C dx p : Addr) (H H0 : Hp) (o : O) (Q : VK) (E : XK) : Prop := match o with
  | .ret (.ins cn' fs ds) _ => cn' = cn → ∀ fvs H' H0', GrowB p H H' H0 H0' → H' p = some (.ins C dx fvs) → H0' p = none → fvs.map (·.1) = fs → RepA K H0' (fvs.map (·.2)) ds → Q .non H'
  | .err cx fs _ => ∀ cls d H' H0', GrowB p H H' H0 H0' → XAt (c0 K mg) H' H0' cx fs cls d → E cls d H'
  | _ => False
def spN (K : PySem.W.Frag) (mg : Str → Option Value) (cn : Str) (n : Nat) (G : List Dat → O) : L2.Sp := fun vs H Q E => ∃ H0 p C dx vs' ds, vs = .ref p :: vs' ∧ ClsAt K cn C ∧ Same H0 H ∧ H0 p = none ∧ H p = some (.ins C dx []) ∧ RepA K H0 vs' ds ∧ ds.length + 1 = n ∧ OutN K mg cn C dx p H H0 (G ds) Q E
abbrev fxN (H H0 : Hp) (p : Addr) : Fx := ⟨fun b => if b = p then none else H b, H0, fun _ => none, []⟩
theorem rel_startN {K : PySem.W.Frag} {N : List Str} {vs : List V} {ds : List Dat} {H H0 : Hp} {p C dx : Addr} (s : Same H0 H) (h0 : H0 p = none) (hp : H p = some (.ins C dx [])) (h : RepA K H0 vs ds) (hl : ds.length + 1 ≤ N.length) : Rel K ((fxN H H0 p).add p (.ins C dx [])) (L2.start N (.ref p :: vs)) H H0 (startE N.length (.un :: ds.map .val)) where
  sub := s
  ent := fun b o e _ => by
    have e : (if b = p then none else H b) = some o := e
    split at e
    · cases e
    · exact e
  len := by rw [startE_len (by rw [List.length_cons, List.length_map]; exact hl), start_len (by rw [List.length_cons, h.length]; exact hl)]
  val := fun i d e => by
    rcases startE_get e with e | e
    · cases i with
      | zero => cases e
      | succ i =>
        rw [List.getElem?_cons_succ, List.getElem?_map] at e
        cases q : ds[i]? with
        | none => rw [q] at e; cases e
        | some d' =>
          rw [q] at e; cases e
          obtain ⟨v, h1, h2⟩ := h.get q
          exact ⟨v, start_get (by rw [List.getElem?_cons_succ]; exact h1), h2⟩
    · cases e
  own := fun i es e => by
    exfalso
    rcases startE_get e with e | e
    · cases i with
      | zero => cases e
      | succ i => rw [List.getElem?_cons_succ, List.getElem?_map] at e; cases q : ds[i]? <;> rw [q] at e <;> cases e
    · cases e
  ino := fun i es e => by
    exfalso
    rcases startE_get e with e | e
    · cases i with
      | zero => cases e
      | succ i => rw [List.getElem?_cons_succ, List.getElem?_map] at e; cases q : ds[i]? <;> rw [q] at e <;> cases e
    · cases e
  iow := fun i a e => by cases e
  apart := fun i j a _ m _ => by
    exfalso
    rcases m with ⟨es, e⟩ | ⟨es, e⟩ <;> rcases startE_get e with e | e
    · cases i with
      | zero => cases e
      | succ i => rw [List.getElem?_cons_succ, List.getElem?_map] at e; cases q : ds[i]? <;> rw [q] at e <;> cases e
    · cases e
    · cases i with
      | zero => cases e
      | succ i => rw [List.getElem?_cons_succ, List.getElem?_map] at e; cases q : ds[i]? <;> rw [q] at e <;> cases e
    · cases e
  old := fun a o _ h => h
  rsv := fun a o e => by
    rcases List.mem_cons.mp e with e | e
    · cases e
      refine ⟨hp, h0, if_pos rfl, fun j m => ?_⟩
      exfalso
      rcases m with ⟨es, e⟩ | ⟨es, e⟩ <;> rcases startE_get e with e | e
      · cases j with
        | zero => cases e
        | succ i => rw [List.getElem?_cons_succ, List.getElem?_map] at e; cases q : ds[i]? <;> rw [q] at e <;> cases e
      · cases e
      · cases j with
        | zero => cases e
        | succ i => rw [List.getElem?_cons_succ, List.getElem?_map] at e; cases q : ds[i]? <;> rw [q] at e <;> cases e
      · cases e
    · cases e
theorem Rel.growN {K : PySem.W.Frag} {H H0 H' H1 : Hp} {p C dx : Addr} {fvs : List (Str × V)} {σ : L2.St} {ρ : En} (r : Rel K ((fxN H H0 p).add p (.ins C dx fvs)) σ H' H1 ρ) (s : Same H0 H1) : GrowB p H H' H0 H1 where
  k := fun b o n e => r.ent b o (by show (if b = p then none else H b) = some o; rw [if_neg n]; exact e) fun _ z => nomatch z
  s := s
  s' := r.sub
  fr := fun a o h1 h2 => by
    by_cases n : a = p
    · subst n; exact r.at.2.1
    · exact r.old a o (by show (if a = p then none else H a) = some o; rw [if_neg n]; exact h1) h2
/-- __init__ by its body -/
theorem fn_init {P : Program} {w : World} {K : PySem.W.Frag} {mg : Str → Option Value} {base : Heap} {x qual cn : Str} {st : Stmt} {f : Addr} {fd : FuncData} {N ps : List Str} {k : Nat} {steps : List IStep} (F : Fun K x qual st f fd) (S : FnScope N ps (defScope st))
    (hb : ∀ (cdv : Value) (A : Around) (outer : List Env) (s : Shared) (H : Hp) (E : XK), RoomG k (A.deeper (PyProof.Rows.envOfC qual (defScope st) s.heap.objs.size f cdv)) → DI (cxOf (L2.CX P w) P w K mg base N qual (defScope st) f cdv A outer s H E) (WE0 E) cn (defBody st) steps) :
    FnG P w K mg base (L2.CX P w) (k + 1) f fd ps (spN K mg cn ps.length fun ds => runI cn steps (startE N.length (.un :: ds.map .val)) []) := by
  have hpn : ps.length ≤ N.length := by
    have := S.pre
    have e := congrArg List.length this
    rw [List.length_take] at e
    omega
  refine Fun.okG F S (fun vs H Q E h => ?_) (fun cdv A outer s H vs Q E hr h => ⟨_, hb cdv A outer s H E hr, ?_⟩)
  · obtain ⟨H0, p, C, dx, vs', ds, e, _, _, _, _, h1, h2, _⟩ := h
    rw [e, List.length_cons, h1.length, h2]
  · obtain ⟨H0, p, C, dx, vs', ds, e, hc, s0, h0, hp, h1, h2, q⟩ := h
    subst e
    refine ⟨fxN H H0 p, H0, _, p, C, dx, [], [], rel_startN s0 h0 hp h1 (by omega), (fun u z => nomatch z), hc, start_get rfl, rfl, .nil, ?_⟩
    have q : OutN K mg cn C dx p H H0 (runI cn steps (startE N.length (.un :: ds.map .val)) []) Q E := q
    revert q
    generalize runI cn steps (startE N.length (.un :: ds.map .val)) [] = o
    intro q
    cases o with
    | ret d ρ =>
      cases d with
      | ins c' fs es => exact fun z σ H' H1 fvs r s e1 e2 => q z fvs H' H1 (r.growN s) r.at.1 r.at.2.1 e1 e2
      | _ => exact q.elim
    | err cx fs ρ => exact fun cls d σ H' H1 fvs r s xa => q cls d H' H1 (r.growN s) (xa.cast rfl rfl)
    | nxt _ => exact q.elim
    | new _ _ => exact q.elim
    | brk _ => exact q.elim
    | ctn _ => exact q.elim
    | stuck => exact q.elim
/-! ### calls of a class -/
def mkR (o : O) (ρ : En) : R Dat := match o with
  | .ret (.ins c fs ds) _ => .ok (.ins c fs ds) ρ
  | .err c fs _ => .err c fs ρ
  | _ => .stuck
theorem Rel.knowI {K : PySem.W.Frag} {x : Fx} {σ : L2.St} {H H0 : Hp} {ρ : En} (r : Rel K x σ H H0 ρ) {p : Addr} {o : HO} (hp : H p = some o) (h0 : H0 p = none) (he : x.He p = none) (na : ∀ j, mutS ρ j → σ[j]? ≠ some (some (.ref p))) (nr : ∀ u, (p, u) ∉ x.rs) :
    Rel K x σ H (upd H0 p o) ρ ∧ Same H0 (upd H0 p o) := by
  have s0 : Same H0 (upd H0 p o) := fun b u e => by rw [upd_ne (ne_of_none e h0)]; exact e
  refine ⟨⟨fun b u e => ?_, r.ent, r.len, fun i d e => let ⟨v, q1, q2⟩ := r.val i d e; ⟨v, q1, q2.mono s0⟩, fun i es e => ?_, fun i es e => ?_, r.iow, r.apart, fun a u e e2 => ?_, fun a u e => ?_⟩, s0⟩
  · by_cases hb : b = p
    · subst hb; rw [upd_same] at e; rw [hp]; exact e
    · rw [upd_ne hb] at e; exact r.sub _ _ e
  · obtain ⟨a, q1, q2, q3, q4⟩ := r.own i es e
    have n : a ≠ p := fun z => na i (.inl ⟨es, e⟩) (z ▸ q1)
    exact ⟨a, q1, q2, by rw [upd_ne n]; exact q3, q4.mono rfl s0⟩
  · obtain ⟨a, q0, q1, q3, q4⟩ := r.ino i es e
    have n : a ≠ p := fun z => na i (.inr ⟨es, e⟩) (z ▸ q1)
    exact ⟨a, q0, q1, by rw [upd_ne n]; exact q3, q4.mono rfl s0⟩
  · have n : a ≠ p := fun z => by rw [z, he] at e; cases e
    rw [upd_ne n]; exact r.old a u e e2
  · obtain ⟨q1, q2, q3, q4⟩ := r.rsv a u e
    have n : a ≠ p := fun z => nr u (z ▸ e)
    exact ⟨q1, by rw [upd_ne n]; exact q2, q3, q4⟩
section
variable {X : Cx} {W : WX} {e a b o : Expr} {f g : M Dat} {ga gk : M (List Dat)} {pos pos' p apos cpos : Pos} {cn fl x m : Str} {k n j : Nat} {es : List Expr} {kws : List Keyword} {ps ks : List Str} {ix : List Nat} {G : List Dat → O} {dvs : List V} {dds : List Dat}
theorem out_mk {y : Fx} {σ : L2.St} {H H0 : Hp} {ρ : En} {o : O} {Q : VK} {pa dx C : Addr} (hc : ClsAt X.K cn C) (r : Rel X.K y σ H H0 ρ) (na : H pa = none) (nd : H dx = none) (ne : dx ≠ pa) (h : Run (cc X W) y σ H0 (mkR o ρ) fun d H' H1 _ => ∀ v, Rep X.K H1 v d → Q v H') :
    OutN X.K X.mg cn C dx pa (upd (upd H dx (.own pa)) pa (.ins C dx [])) H0 o (fun v H3 => v = .non ∧ Q (.ref pa) H3) (WE W σ) := by
  have same : ∀ {H' H0' : Hp}, GrowB pa (upd (upd H dx (.own pa)) pa (.ins C dx [])) H' H0 H0' → Rel X.K y σ H' H0' ρ ∧ Same H0 H0' := fun {H' H0'} g => by
    refine ⟨r.grow (fun b u e => g.k b u (ne_of_none e na) (by rw [upd_ne (ne_of_none e na), upd_ne (ne_of_none e nd)]; exact e)) g.s g.s' (fun b u e hb => ?_), g.s⟩
    exact g.fr b u (by rw [upd_ne (ne_of_none e na), upd_ne (ne_of_none e nd)]; exact e) hb
  cases o with
  | ret d _ =>
    cases d with
    | ins c' fs ds =>
      intro ec fvs H' H0' g hp h0 e1 e2
      subst ec
      obtain ⟨r2, s2⟩ := same g
      have fr := r.fresh na
      obtain ⟨r3, s3⟩ := r2.knowI hp h0 fr.1 (r.notat na) (r.nors na)
      exact ⟨rfl, h H' _ r3 (s2.trans s3) _ (.ins upd_same hc e1 (e2.mono s3))⟩
    | _ => exact h.elim
  | err cx fs _ =>
    intro cls d H' H0' g xa
    obtain ⟨r2, s2⟩ := same g
    exact h cls d H' H0' r2 s2 (xa.cast rfl rfl)
  | nxt _ => exact h.elim
  | new _ _ => exact h.elim
  | brk _ => exact h.elim
  | ctn _ => exact h.elim
  | stuck => exact h.elim
/-- the class cn: where it stands, its __init__ keeps G -/
structure InOk (P : Program) (w : World) (K : PySem.W.Frag) (mg : Str → Option Value) (base : Heap) (cn qual : Str) (st : Stmt) (k : Nat) (ps : List Str) (G : List Dat → O) : Prop where
  ex : ∃ (C f : Addr) (fd : FuncData), ClsAt K cn C ∧ mg cn = some (.ref C) ∧ Mk K C f ∧ Fun K "__init__" qual st f fd ∧ FnG P w K mg base (L2.CX P w) k f fd ps (spN K mg cn ps.length G)
def M.mkK (ga gk : M (List Dat)) (ix : List Nat) (dds : List Dat) (G : List Dat → O) : M Dat := ga.bnd fun ds => gk.bnd fun zs ρ => mkR (G (pick ix (ds ++ zs ++ dds))) ρ
def M.mkD (ga : M (List Dat)) (dds : List Dat) (G : List Dat → O) : M Dat := ga.bnd fun ds ρ => mkR (G (ds ++ dds)) ρ
theorem pick_self {α : Type} (a : α) (l : List α) : ∀ ix : List Nat, pick (ix.map (· + 1)) (a :: l) = pick ix l
  | [] => rfl
  | i :: ix => by
    have ih := pick_self a l ix
    unfold pick at ih ⊢
    rw [List.map_cons, List.filterMap_cons, List.filterMap_cons, List.getElem?_cons_succ, ih]
theorem pick_len {α : Type} {l : List α} : ∀ {ix : List Nat}, (∀ i ∈ ix, i < l.length) → (pick ix l).length = ix.length
  | [], _ => rfl
  | i :: ix, h => by
    have ih := pick_len (l := l) (ix := ix) fun j hj => h j (List.mem_cons_of_mem _ hj)
    unfold pick at ih ⊢
    rw [List.filterMap_cons, List.getElem?_eq_getElem (h i List.mem_cons_self)]
    show (_ :: _).length = _
    rw [List.length_cons, ih, List.length_cons]
theorem de_mkK {qual : Str} {st : Stmt} (D : InOk X.prog X.w X.K X.mg X.base cn qual st j ps G) (bd : Bd "__init__" qual st ps ks (n + 1) (0 :: ix.map (· + 1))) (tk : Takes X W) (hr : RoomG k X.A) (hjk : j + 1 ≤ k) (hg : Gl X cn)
    (hn : ∀ ρ ds ρ', ga ρ = .ok ds ρ' → ds.length = n) (hm' : ∀ ρ ds ρ', gk ρ = .ok ds ρ' → ds.length = ks.length) (hix : ix.length + 1 = ps.length) (hlt : ∀ i ∈ ix, i < n + ks.length)
    (ha : DA X W (e :: es) ga) (hkw : DK X W kws gk) (hall : (backToKw pos (keywordEach kws X.env)).all (·.1.isSome) = true := by rfl) (hks : (backToKw pos (keywordEach kws X.env)).filterMap (·.1) = ks := by rfl)
    (hdb : (cn == ("__debug__" : Str)) = false := by decide) (he : starEach (e :: es) X.env = (false, eval e X.env) :: starEach es X.env := by rfl)
    (hpl : ((backTo pos (starEach (e :: es) X.env)).any (·.1) || (backToKw pos (keywordEach kws X.env)).any (·.1.isNone)) = false := by rfl) : DE X W (.Call (.Name cn p) (e :: es) kws pos) (M.mkK ga gk ix [] G) := by
  obtain ⟨C, f, fd, c1, c2, c3, F, ok⟩ := D.ex
  refine PE.imp (pe_makeG c3 ok (hr.mono hjk) hg c2 (fun_kbd F bd) (fun σ => passAt tk σ) ha hkw hall hks hdb he hpl) fun σ H Q ⟨z, H0, ρ, r, q⟩ => ?_
  refine ⟨z, H0, ρ, r, ?_⟩
  unfold M.mkK at q
  have q := Run.bnd q
  have hn := hn ρ
  cases eg : ga ρ with
  | ok ds ρ1 =>
    rw [eg] at q
    intro H1 G1 r1 s1 vs hv
    refine ⟨z, G1, ρ1, r1, ?_⟩
    have q2 := Run.bnd (q H1 G1 r1 s1)
    have hm' := hm' ρ1
    cases ek : gk ρ1 with
    | ok zs ρ2 =>
      rw [ek] at q2
      intro H2 G2 r2 s2 ws hw
      have l1 := hn ds ρ1 eg
      have l2 := hm' zs ρ2 ek
      refine ⟨by rw [hv.length, l1], by rw [hw.length, l2], fun a dx na nd ne => ?_⟩
      have rp : RepA X.K G2 (vs ++ ws ++ []) (ds ++ zs ++ []) := ((hv.mono s2).app hw).app .nil
      have e1 : pick (0 :: ix.map (· + 1)) (V.ref a :: vs ++ ws ++ []) = .ref a :: pick ix (vs ++ ws ++ []) := by
        show pick (0 :: ix.map (· + 1)) (V.ref a :: (vs ++ ws ++ [])) = _
        have := pick_self (V.ref a) (vs ++ ws ++ []) ix
        unfold pick at this ⊢
        rw [List.filterMap_cons]
        show V.ref a :: _ = _
        rw [this]
      rw [e1]
      have g0 := r2.fresh na
      refine ⟨G2, a, C, dx, _, pick ix (ds ++ zs ++ []), rfl, c1, ((r2.new' (.own a) nd).new' (.ins C dx []) (by rw [upd_ne (Ne.symm ne)]; exact na)).sub, g0.2, upd_same, pick_rep rp ix, ?_, out_mk c1 r2 na nd ne (q2 H2 G2 r2 s2)⟩
      rw [pick_len (fun i hi => by rw [List.append_nil, List.length_append, l1, l2]; exact hlt i hi)]
      exact hix
    | err cn fs ρ2 => rw [ek] at q2; exact q2
    | stuck => rw [ek] at q2; exact q2
  | err cn fs ρ1 => rw [eg] at q; exact q
  | stuck => rw [eg] at q; exact q
/-- how the defaults of an __init__ fill up -/
def BdI (K : PySem.W.Frag) (cn qual : Str) (st : Stmt) (ps : List Str) (dvs : List V) : Prop := ∀ (C fa : Addr) (fd : FuncData), ClsAt K cn C → Mk K C fa → Fun K "__init__" qual st fa fd → ∃ dsv, Vals dvs dsv ∧ Binds K fd ps dsv
theorem de_mkD {qual : Str} {st : Stmt} (D : InOk X.prog X.w X.K X.mg X.base cn qual st j ps G) (bd : BdI X.K cn qual st ps dvs) (hdd : ∀ H, RepA X.K H dvs dds) (tk : Takes X W) (hr : RoomG k X.A) (hjk : j + 1 ≤ k) (hg : Gl X cn)
    (hn : ∀ ρ ds ρ', ga ρ = .ok ds ρ' → ds.length = n) (hl : n + dds.length + 1 = ps.length) (ha : DA X W (e :: es) ga) (hdb : (cn == ("__debug__" : Str)) = false := by decide) (he : starEach (e :: es) X.env = (false, eval e X.env) :: starEach es X.env := by rfl) (hpl : (backTo pos (starEach es X.env)).any (·.1) = false := by rfl) :
    DE X W (.Call (.Name cn p) (e :: es) [] pos) (M.mkD ga dds G) := by
  obtain ⟨C, f, fd, c1, c2, c3, F, ok⟩ := D.ex
  obtain ⟨dsv, hd, hb⟩ := bd C f fd c1 c3 F
  refine PE.imp (pe_makeGD c3 ok (hr.mono hjk) hg c2 hb hd (fun σ => passAt tk σ) ha hdb he hpl) fun σ H Q ⟨z, H0, ρ, r, q⟩ => ?_
  refine ⟨z, H0, ρ, r, ?_⟩
  unfold M.mkD at q
  have q := Run.bnd q
  have hn := hn ρ
  cases eg : ga ρ with
  | ok ds ρ1 =>
    rw [eg] at q
    intro H1 G1 r1 s1 vs hv a dx na nd ne
    have g0 := r1.fresh na
    exact ⟨G1, a, C, dx, _, ds ++ dds, rfl, c1, ((r1.new' (.own a) nd).new' (.ins C dx []) (by rw [upd_ne (Ne.symm ne)]; exact na)).sub, g0.2, upd_same, hv.app (hdd G1), by rw [List.length_append, hn ds ρ1 eg]; omega, out_mk c1 r1 na nd ne (q H1 G1 r1 s1)⟩
  | err cn fs ρ1 => rw [eg] at q; exact q
  | stuck => rw [eg] at q; exact q
/-! ### isinstance with an own class -/
/-- what the written part says of the class cn as isinstance asks: cs its other classes -/
def IsC (K : PySem.W.Frag) (mg : Str → Option Value) (cn : Str) (cs : List Str) : Prop := ∃ C, ClsAt K cn C ∧ mg cn = some (.ref C) ∧ (∀ T ∈ tyNames, PySem.W.kitOne K (.type T) (.ref C) = some false) ∧
  ∀ c ∈ cs, ∃ D, ClsAt K c D ∧ Cls K D ∧ PySem.W.findIn K (.ref D) "__class__" = some (some (.builtin "object.__class__")) ∧ PySem.W.specialIn K (.builtin "object.__class__") "__get__" = some (some (.builtin "getset_descriptor.__get__")) ∧ PySem.W.takesIn K (.builtin "object.__class__") = some true ∧
    PySem.W.mroIn K D (.type "object") = some true ∧ PySem.W.kitOne K (.ref D) (.ref C) = some (decide (c = cn))
def isCD (cn : Str) (cs : List Str) (d : Dat) : Option Dat := match d with
  | .ins c _ _ => if cs.contains c = true then some (.bl (decide (c = cn))) else none
  | .dno => none
  | .fn _ => none
  | _ => some (.bl false)
theorem de_isC {cs : List Str} {pn : Pos} (D : IsC X.K X.mg cn cs) (hg : Gl X "isinstance") (hm : X.mg "isinstance" = none) (hg2 : Gl X cn) (ha : DE X W a f) (hd2 : (cn == ("__debug__" : Str)) = false := by decide)
    (hs1 : starEach [a, .Name cn pn] X.env = (false, eval a X.env) :: starEach [.Name cn pn] X.env := by rfl) (hs2 : starEach [.Name cn pn] X.env = (false, eval (.Name cn pn) X.env) :: starEach [] X.env := by rfl) (hpl : (backTo pos (starEach [.Name cn pn] X.env)).any (·.1) = false := by rfl) :
    DE X W (.Call (.Name "isinstance" p) [a, .Name cn pn] [] pos) (f.un1 (isCD cn cs)) := by
  obtain ⟨C, c1, c2, c3, c4⟩ := D
  refine PE.imp (pe_callB call_isi hg hm (by decide +kernel) (pa_cons ha (pa_cons (pe_glob hg2 c2 (show RelV (.ref C) (.ref C) from rfl) hd2) pa_nil hs2) hs1) (by decide) (by decide) hs1 hpl) fun σ H Q ⟨z, H0, ρ, r, q⟩ => part r q fun d v H1 G1 ρ1 r1 s1 hv q1 => ?_
  obtain ⟨dz, e, q2⟩ := Run.lift q1
  unfold isCD at e
  have fin : ∀ {b : Bool} {t : Value}, dz = .bl b → TyX X.K H1 v t → PySem.W.kitOne X.K t (.ref C) = some b → ∃ (x c : V) (t u : Value) (b : Bool), [v, V.ref C] = [x, c] ∧ ClsV c u ∧ TyX X.K H1 x t ∧ PySem.W.kitOne X.K t u = some b ∧ Q (.bl b) H1 := fun {b t} eb ht hk => by
    subst eb
    exact ⟨v, .ref C, t, .ref C, b, rfl, .own C, ht, hk, q2 H1 G1 r1 (Same.refl _) _ (.bl b)⟩
  cases d with
  | ins c fs ds =>
    dsimp only at e
    split at e
    · rename_i hc
      cases e
      obtain ⟨D, d1, d2, d3, d4, d5, d6, d7⟩ := c4 c (by simpa using hc)
      cases hv with
      | @ins ad C' dx fvs _ _ _ h1 h2 h3 h4 =>
        obtain rfl := ClsAt.eq d1 h2
        exact fin rfl (.base (.ins (r1.sub _ _ h1) d2 d3 d4 d5 d6)) d7
    · cases e
  | dno => cases e
  | fn _ => cases e
  | _ => cases e; exact fin rfl (tyX_rep r1.sub rfl hv) (c3 _ (tyN_mem _))
end
end Sv

set_option Elab.async false
set_option linter.all false
set_option maxRecDepth 100000
set_option maxHeartbeats 1000000
/-! ## enumerate of a tuple -/
namespace EnT
open PySem
open AutoSeq1 (wpAny_loadPart')
theorem meets_new (l : Addr) (items : Array Value) :
    Meets (Builtin.«enumerate.__new__» ⟨[.type "enumerate", .ref l], []⟩) (fun _ R s => s.heap.IsTuple l items ∧
      R (.ok (.ret (.ref (s.heap.push { cls := .type "tuple_iterator", data := .fields #[.ref l, .int 0 0] }).objs.size)))
        { s with heap := (s.heap.push { cls := .type "tuple_iterator", data := .fields #[.ref l, .int 0 0] }).push { cls := .type "enumerate", data := .fields #[.none, .bool false, .ref s.heap.objs.size, rawInt 0, .none, .none] } }) :=
  .of_wp fun P w A R s ⟨ht, q⟩ => by
    obtain ⟨hh, g, d, tk, os⟩ := s
    have sub := sub_enumerate
    have tu : Heap.IsTuple (Shared.heap ⟨hh, g, d, tk, os⟩) l items := ht
    wp_walk
    refine wpAny_stack_any fun st => wpAny_pure ?_
    split
    · rename_i c _ _ _ _ _
      cases (c == Value.type "enumerate") <;> (wp_walk using wpAny_pyIter_tuple tu; exact ⟨_, rfl, q⟩)
    · wp_walk using wpAny_pyIter_tuple tu
      exact ⟨_, rfl, q⟩
section
variable {P : Program} {w : World} {A : Around} {E : Value → Shared → Prop} {s : Shared}
theorem call {l : Addr} {items : Array Value} {Q : Value → Shared → Prop} (tu : s.heap.IsTuple l items)
    (h : ∀ g, IsEnum g (s.heap.objs.size + 1) s.heap.objs.size 0 .none → g.IsTupleIter s.heap.objs.size l 0 → (∀ b o, s.heap.get? b = some o → g.get? b = some o) → Q (.ref (s.heap.objs.size + 1)) { s with heap := g }) : wpAny (model P w) A (PySem.call (.type "enumerate") [.ref l]) Q E s := by
  refine callType_new F.called_enumerate (by decide) (F.typeCall_enumerate_1 _) (F.newCall_enumerate_1 _) (fun ob => F.args_object_init_2 ob _) F.entry_enumerate_new (meets_new l items) ⟨tu, ?_⟩
  have n1 : (s.heap.push { cls := .type "tuple_iterator", data := .fields #[.ref l, .int 0 0] }).objs.size = s.heap.objs.size + 1 := Heap.size_push ..
  show _ ∧ _
  rw [n1]
  have e1 : IsEnum ((s.heap.push { cls := .type "tuple_iterator", data := .fields #[.ref l, .int 0 0] }).push { cls := .type "enumerate", data := .fields #[.none, .bool false, .ref s.heap.objs.size, rawInt 0, .none, .none] }) (s.heap.objs.size + 1) s.heap.objs.size 0 .none := by
    have z := Heap.get?_push_size (s.heap.push { cls := .type "tuple_iterator", data := .fields #[.ref l, .int 0 0] }) (o := { cls := .type "enumerate", data := .fields #[.none, .bool false, .ref s.heap.objs.size, rawInt 0, .none, .none] }) rfl
    rw [n1] at z
    exact z
  exact ⟨⟨_, e1, rfl⟩, h _ e1 ⟨_, Heap.get?_push_of_some _ (Heap.get?_push_size _ rfl), rfl, rfl⟩ fun b o x => Heap.get?_push_of_some _ (Heap.get?_push_of_some _ x)⟩
end
end EnT
namespace L2
open PySem PySem.Spec PyProof.Rows
/-- the tuple at a as it stands at each turn, each item in a new pair -/
def IteT (K : PySem.W.Frag) (a : Addr) : It :=
  ⟨fun i H => ∃ (xs : List V) (x : V), SqT K H a xs ∧ xs[i]? = some x, fun i H v H' => ∃ T x, v = .ref T ∧ H T = none ∧ H' = upd H T (.tup [.int (i : Nat), x]) ∧ ∀ xs, SqT K H a xs → xs[i]? = some x, fun i H => ∃ xs : List V, SqT K H a xs ∧ xs.length = i⟩
theorem isTuple_of {h : Heap} {a : Addr} {its : Array Value} (p : IsTup h a its) : h.IsTuple a its := p
theorem turn_enT {P : Program} {w : World} {K : PySem.W.Frag} {elts : List Expr} {kk : Nat} {tpos : Pos} (a e it : Addr) (ne : e ≠ it) (na : a ≠ it) (nea : e ≠ a) :
    Turn P w K (.Tuple elts kk tpos) (IteT K a) [e, it] e (fun i h => (∃ old, IsEnum h e it ((i : Nat) : Int) old) ∧ h.IsTupleIter it a i) where
  mem := by simp
  obj := fun i h st b hb => by
    obtain ⟨⟨old, he⟩, o, ho, hc, hd⟩ := st
    have z : b = e ∨ b = it := by simpa using hb
    rcases z with z | z <;> subst z
    · exact ⟨_, he, fun v q => nomatch q⟩
    · exact ⟨o, ho, fun v q => by rw [hd] at q; cases q⟩
  keep := fun i h h' st k => let ⟨⟨old, he⟩, hi⟩ := st; ⟨⟨old, k e (by simp) _ he⟩, hi.at fun o q => k it (by simp) o q⟩
  item := by
    intro X hP hw hK hc i pins s σ H E I hf st hg
    subst hP hw hK
    obtain ⟨⟨old, he⟩, hit⟩ := st
    obtain ⟨xs, x, hq, hx⟩ := hg
    obtain ⟨its, rv, p, hz⟩ := I.tuple hq
    obtain ⟨u, hu, ru⟩ := rv.get hx
    have el : e < s.heap.objs.size := Heap.lt_size he
    have il : it < s.heap.objs.size := by obtain ⟨_, q, _⟩ := hit; exact Heap.lt_size q
    have hlt : i < its.toArray.size := by simpa using (List.getElem?_eq_some_iff.mp hu).1
    have D := Draws.tuple (prog := X.prog) (w := X.w) (A := X.A.in1) (show X.A.in1.handled = none from I.ok.hd hc) it a na its.toArray
    refine wpAny_pyNext_enum_itemD D he ⟨hit, isTuple_of p⟩ hlt ne (by simp [ne, nea]) fun y g tk hy go st2 hT hsz hk => ?_
    have ey : y = u := by
      have z : its.toArray[i]? = some y := hy
      rw [show its.toArray[i]? = its[i]? from by simp, hu] at z
      cases z; rfl
    subst ey
    refine ⟨_, rfl, wpAny_letOwnedTupleGo_enum (s := { s with heap := g, toks := tk + 1 }) go fun g2 he2 sb => ?_⟩
    have hT2 : g2.get? s.heap.objs.size = some { cls := .type "tuple", data := .seq #[.int i tk, y] } := (sb.2 _ (Nat.ne_of_gt el)).trans hT
    have new : ObjOk X.prog X.w (upd H s.heap.objs.size (.tup [.int (i : Nat), x])) g2 s.heap.objs.size (.tup [.int (i : Nat), x]) :=
      ⟨by show 2 ≤ sizeLine; decide, [.int i tk, y], .cons ⟨_, rfl⟩ (.cons ru .nil), ⟨_, hT2, rfl, _, rfl⟩⟩
    have J : Inv X pins σ (upd H s.heap.objs.size (.tup [.int (i : Nat), x])) { s with heap := g2, toks := tk + 1 } :=
      I.turnedNew (t' := tk + 1) (ch := [e, it]) (fun b ob hb q => (sb.2 b (fun z => hb (by simp [z]))).trans (hk b ob (fun z => hb (by simp [z])) (fun z => hb (by simp [z])) q)) hf (Nat.le_refl _) new
    refine ⟨.ref s.heap.objs.size, _, J, rfl, ⟨_, x, rfl, I.hok.fresh (Nat.le_refl _), rfl, fun ys hy => by rw [I.tuple_inj hy hq]; exact hx⟩, ⟨⟨y, ?_⟩, st2.1.at fun o q => (sb.2 it (Ne.symm ne)).trans q⟩, fun b hb => ?_⟩
    · have e1 : ((i + 1 : Nat) : Int) = (i : Int) + 1 := by omega
      rw [e1]; exact he2
    · have hb' : b < s.heap.objs.size := by
        have z : b = e ∨ b = it := by simpa using hb
        rcases z with z | z <;> subst z
        · exact el
        · exact il
      rw [upd_ne (Nat.ne_of_lt hb')]
      exact (hf b hb).1
  done := by
    intro X hP hw hK hc i pins s σ H E I hf st hg
    subst hP hw hK
    obtain ⟨⟨old, he⟩, hit⟩ := st
    obtain ⟨xs, hq, hx⟩ := hg
    obtain ⟨its, rv, p, hz⟩ := I.tuple hq
    obtain ⟨f0, f1, f2, f3, f4, f5⟩ := hf it (by simp)
    have en : its.toArray.size = i := by rw [List.size_toArray, ← rv.length]; exact hx
    have D := Draws.tuple (prog := X.prog) (w := X.w) (A := X.A.in1) (show X.A.in1.handled = none from I.ok.hd hc) it a na its.toArray
    exact wpAny_pyNext_enum_endD D he (by rw [en]; exact ⟨hit, isTuple_of p⟩) fun g eb => ⟨rfl, I.turned (t' := s.toks) (fun b o hb q => eb b o hb q) f0 f1 f3 f4 f5⟩
  self := fun A i s Q E st h => let ⟨⟨_, he⟩, _⟩ := st; wpAny_pyIter_enum he h
/-- enumerate of a list or of a tuple -/
def iEnA (K : PySem.W.Frag) (ta : TA) : TI := fun σ H R => ta σ H fun vs H1 => ∃ a xs, vs = [.ref a] ∧ ((SqL K H1 a xs ∧ R (Ite K a) H1) ∨ (SqT K H1 a xs ∧ R (IteT K a) H1))
theorem pi_enA {X : Cx} {e : Expr} {ta : TA} {p pos tpos : Pos} {elts : List Expr} {kk : Nat} (hg : Gl X "enumerate") (hm : X.mg "enumerate" = none) (ha : PA X [e] ta) (hs : starEach [e] X.env = [(false, eval e X.env)] := by rfl) :
    PI X (.Tuple elts kk tpos) (.Call (.Name "enumerate" p) [e] [] pos) (iEnA X.K ta) := by
  refine ⟨fun pins s σ H R I h => Call_ (ld_blt I hg hm boot_enumerate (PyProof.Rows.callWith_type1 (thn (ha.run pos pins s σ H _ I h) fun us s1 ⟨vs, H1, I1, r1, q1⟩ => ?_) hs rfl))⟩
  obtain ⟨a, xs, ex, q⟩ := q1
  subst ex
  obtain ⟨u, rfl, ru⟩ := vals1 r1
  obtain rfl : u = Value.ref a := ru
  have fpo : ∀ b ∈ [s1.heap.objs.size + 1, s1.heap.objs.size], FpOk X pins H1 b := fun b hb => by
    have hle : s1.heap.objs.size ≤ b := by
      have z : b = s1.heap.objs.size + 1 ∨ b = s1.heap.objs.size := by simpa using hb
      omega
    exact I1.fpOk hle (I1.hok.fresh hle)
  rcases q with ⟨hq, q⟩ | ⟨hq, q⟩
  · obtain ⟨its, rv, pl, hz⟩ := I1.list hq
    exact call_enumerate_list pl.isList fun g he hit hsz hk => wpAny_pyIter_enum he ⟨_, [s1.heap.objs.size + 1, s1.heap.objs.size], _, _, H1, rfl, I1.kept (t' := s1.toks) hk, turn_enum a _ _, ⟨⟨.none, he⟩, hit, Nat.succ_ne_self _⟩, fpo, q⟩
  · obtain ⟨its, rv, pt, hz⟩ := I1.tuple hq
    have al : a < s1.heap.objs.size := by obtain ⟨_, e1, _⟩ := pt; exact Heap.lt_size e1
    exact EnT.call (isTuple_of pt) fun g he hit hk => wpAny_pyIter_enum he ⟨_, [s1.heap.objs.size + 1, s1.heap.objs.size], _, _, H1, rfl, I1.kept (t' := s1.toks) hk, turn_enT a _ _ (Nat.succ_ne_self _) (Nat.ne_of_lt al) (Nat.ne_of_gt (Nat.lt_succ_of_lt al)), ⟨⟨.none, he⟩, hit⟩, fpo, q⟩
theorem walk_enT {K : PySem.W.Frag} {a : Addr} {xs : List V} : Walk (IteT K a) xs.length (fun H => SqT K H a xs) (YPair (fun i => some (.int (i : Nat))) (fun i => xs[i]?)) := by
  refine ⟨fun i _ hi q => ⟨xs, xs[i], q, by simp [hi]⟩, fun _ q => ⟨xs, q, rfl⟩, fun i H v H' _ q y => ?_⟩
  obtain ⟨T, x, h1, h2, h3, h4⟩ := y
  exact ⟨T, .int (i : Nat), x, h1, h2, h3, rfl, h4 xs q⟩
end L2

set_option Elab.async false
set_option linter.all false
set_option maxRecDepth 100000
set_option maxHeartbeats 2000000
/-! ## zip of two, each a list or a tuple -/
namespace Zp2
open PySem
open PySem.Sem (wp)
/-- what an iterator of the kind kd walks -/
def IsS (h : Heap) (l : Addr) (xs : Array Value) (kd : String) : Prop := (kd = "tuple_iterator" ∧ h.IsTuple l xs) ∨ (kd = "list_iterator" ∧ h.IsList l xs)
abbrev IObj (kd : String) (l : Addr) (k : Nat) : Obj := { cls := .type kd, data := .fields #[.ref l, .int (k : Nat) 0] }
def IsI (h : Heap) (i l : Addr) (xs : Array Value) (kd : String) (k : Nat) : Prop := (kd = "tuple_iterator" ∧ h.IsTupleIter i l k ∧ h.IsTuple l xs) ∨ (kd = "list_iterator" ∧ h.IsListIter i l k ∧ h.IsList l xs)
section
variable {P : Program} {w : World} {A : Around} {E : Value → Shared → Prop} {s : Shared} {h h' : Heap} {l i : Addr} {xs : Array Value} {kd : String} {k : Nat}
theorem IsS.keeps (x : IsS h l xs kd) (q : ∀ b o, h.get? b = some o → h'.get? b = some o) : IsS h' l xs kd := by
  rcases x with ⟨e, x⟩ | ⟨e, x⟩
  · exact .inl ⟨e, x.at fun o z => q l o z⟩
  · exact .inr ⟨e, x.at fun o z => q l o z⟩
theorem IsI.at (x : IsI h i l xs kd k) (q1 : ∀ o, h.get? i = some o → h'.get? i = some o) (q2 : ∀ o, h.get? l = some o → h'.get? l = some o) : IsI h' i l xs kd k := by
  rcases x with ⟨e, x, y⟩ | ⟨e, x, y⟩
  · exact .inl ⟨e, x.at q1, y.at q2⟩
  · exact .inr ⟨e, x.at q1, y.at q2⟩
theorem IsI.there (x : IsI h i l xs kd k) : ∃ o vs, h.get? i = some o ∧ o.data = .fields vs := by
  rcases x with ⟨_, ⟨o, h1, _, h2⟩, _⟩ | ⟨_, ⟨o, h1, _, h2⟩, _⟩ <;> exact ⟨o, _, h1, h2⟩
theorem iterA {Q : Value → Shared → Prop} (x : IsS s.heap l xs kd) (q : Q (.ref s.heap.objs.size) { s with heap := s.heap.push (IObj kd l 0) }) : wpAny (model P w) A (pyIter (.ref l)) Q E s := by
  rcases x with ⟨rfl, x⟩ | ⟨rfl, x⟩
  · exact wpAny_pyIter_tuple x q
  · exact wpAny_pyIter_list x q
theorem nextA {v : Value} {Q : Value → Shared → Prop} (x : IsI s.heap i l xs kd k) (e : xs[k]? = some v) (nl : l ≠ i) (q : ∀ g, IsI g i l xs kd (k + 1) → Heap.SameBut i s.heap g → Q v { s with heap := g }) : wpAny (model P w) A (Builtin.SmallTypes.nextOf (.ref i)) Q E s := by
  rcases x with ⟨rfl, x, y⟩ | ⟨rfl, x, y⟩
  · exact wpAny_nextOf_tuple_item x y e fun g a b => q g (.inl ⟨rfl, a, y.extBut b.extBut nl⟩) b
  · exact wpAny_nextOf_list_item x y e fun g a b => q g (.inr ⟨rfl, a, y.extBut b.extBut nl⟩) b
theorem endA {Q : Value → Shared → Prop} (hh : A.handled = none) (x : IsI s.heap i l xs kd k) (e : xs[k]? = none) (q : ∀ g a, Heap.ExtBut i s.heap g → (∃ o, g.get? a = some o ∧ o.cls = .type "StopIteration") → E (.ref a) { s with heap := g }) : wpAny (model P w) A (Builtin.SmallTypes.nextOf (.ref i)) Q E s := by
  rcases x with ⟨rfl, x, y⟩ | ⟨rfl, x, y⟩
  · exact wpAny_nextOf_tuple_end hh x y e q
  · exact wpAny_nextOf_list_end hh x y e q
end
section
variable {P : Program} {w : World} {A : Around} {E : Value → Shared → Prop} {s : Shared} {z TI TO i j l m : Addr} {k : Nat} {xs ys : Array Value} {kd ke : String} {x y a b : Value}
theorem zip_next {Q : Value → Shared → Prop} (D : ZipApart z TI TO i j l m) (cz : IsZip s.heap z TI TO .none) (cI : IsPair s.heap TI (.ref i) (.ref j)) (cO : IsPair s.heap TO a b) (ci : IsI s.heap i l xs kd k) (cj : IsI s.heap j m ys ke k) (ex : xs[k]? = some x) (ey : ys[k]? = some y)
    (q : ∀ g, IsZip g z TI TO (rawInt s.heap.objs.size) → IsPair g TO x y → IsI g i l xs kd (k + 1) → IsI g j m ys ke (k + 1) → IsPair g s.heap.objs.size x y → (∀ c o, c ≠ z → c ≠ TO → c ≠ i → c ≠ j → s.heap.get? c = some o → g.get? c = some o) → Q (.ref s.heap.objs.size) { s with heap := g }) :
    wpAny (model P w) A (Builtin.«zip.__next__» ⟨[.ref z], []⟩) (fun fin s' => ∃ v, fin = .done (.ret v) ∧ Q v s') E s := by
  show wpAny _ _ (field (.ref z) 2 >>= _) _ _ _
  refine wpAny_bind (wpAny_field cz rfl (x := .bool false) rfl (?_ : wpAny _ _ (field (.ref z) 3 >>= _) _ _ _))
  refine wpAny_bind (wpAny_field cz rfl (x := .ref TI) rfl (wpAny_bind (wpAny_seqItems cI rfl (?_ : wpAny _ _ (Builtin.SmallTypes.ownedTupleIsFree (.ref z) >>= _) _ _ _))))
  unfold Builtin.SmallTypes.ownedTupleIsFree
  refine wpAny_bind (wpAny_bind (wpAny_field cz rfl (x := .none) rfl (wpAny_pure ?_)))
  simp only [if_true]
  refine wpAny_bind (wpAny_rule (wpAny_bind (wpAny_field cz rfl (x := .ref TO) rfl (wpAny_bind (wpAny_setField_rec cz (by simp) fun g1 cz1 e1 => ?_)))))
  replace cz1 : IsZip g1 z TI TO .ellipsis := cz1
  simp only [List.zipIdx_cons, List.zipIdx_nil, List.forIn_cons, List.forIn_nil]
  have k1 := e1.extBut
  have ci1 : IsI g1 i l xs kd k := ci.at (fun o r => k1 _ _ D.i1z r) fun o r => k1 _ _ D.l1z r
  refine wpAny_bind (wpAny_bind (wpAny_bind (wpAny_onRaise (?_ : wpAny _ _ (Builtin.SmallTypes.nextOf (.ref i) >>= _) _ _ _))))
  refine wpAny_bind (nextA (s := { s with heap := g1 }) ci1 ex D.l1i1 fun g2 ci2 e2 => wpAny_pure ?_)
  have k2 := e2.extBut
  have cO2 : IsPair g2 TO a b := k2 _ _ D.TOi1 (k1 _ _ D.TOz cO)
  refine wpAny_bind (wpAny_seqItems cO2 rfl (wpAny_bind (wpAny_updateSeq_pair cO2 fun g3 cO3 e3 => ?_)))
  replace cO3 : IsPair g3 TO x b := cO3
  have k3 := e3.extBut
  have cj3 : IsI g3 j m ys ke k := cj.at (fun o r => k3 _ _ D.TOi2.symm (k2 _ _ D.i12.symm (k1 _ _ D.i2z r))) fun o r => k3 _ _ D.l2TO (k2 _ _ D.l2i1 (k1 _ _ D.l2z r))
  refine wpAny_bind (wpAny_letGo (wpAny_pure (wpAny_bind (wpAny_bind (wpAny_onRaise (?_ : wpAny _ _ (Builtin.SmallTypes.nextOf (.ref j) >>= _) _ _ _))))))
  refine wpAny_bind (nextA (s := { s with heap := g3 }) cj3 ey D.l2i2 fun g4 cj4 e4 => wpAny_pure ?_)
  have k4 := e4.extBut
  have cO4 : IsPair g4 TO x b := k4 _ _ D.TOi2 cO3
  refine wpAny_bind (wpAny_seqItems cO4 rfl (wpAny_bind (wpAny_updateSeq_pair cO4 fun g5 cO5 e5 => ?_)))
  replace cO5 : IsPair g5 TO x y := cO5
  have k5 := e5.extBut
  refine wpAny_bind (wpAny_letGo (wpAny_pure (wpAny_pure (wpAny_bind (wpAny_seqItems cO5 rfl (wpAny_bind (wpAny_newTuple ?_)))))))
  have n5 : g5.objs.size = s.heap.objs.size := by rw [e5.1, e4.1, e3.1, e2.1, e1.1]
  have cz5 : IsZip g5 z TI TO .ellipsis := k5 _ _ D.TOz.symm (k4 _ _ D.i2z.symm (k3 _ _ D.TOz.symm (k2 _ _ D.i1z.symm cz1)))
  have lz : z < g5.objs.size := Heap.lt_size cz5
  have cz6 : IsZip (g5.push { cls := .type "tuple", data := .seq #[x, y] }) z TI TO .ellipsis := Heap.get?_push_of_some _ cz5
  show wpAny _ _ (Builtin.SmallTypes.ownedTupleHandOut (.ref z) (.ref g5.objs.size) >>= _) _ _ _
  unfold Builtin.SmallTypes.ownedTupleHandOut
  refine wpAny_bind (wpAny_bind (wpAny_setField_rec cz6 (by simp) fun g7 cz7 e7 => ?_))
  replace cz7 : IsZip g7 z TI TO (rawInt g5.objs.size) := cz7
  refine wpAny_setField_rec cz7 (by simp) fun g8 cz8 e8 => ?_
  replace cz8 : IsZip g8 z TI TO (rawInt g5.objs.size) := cz8
  have up : ∀ c o, c ≠ z → g5.get? c = some o → g8.get? c = some o := fun c o n r => e8.extBut _ _ n (e7.extBut _ _ n (Heap.get?_push_of_some _ r))
  have cT : IsPair g8 g5.objs.size x y := e8.extBut _ _ (Nat.ne_of_gt lz) (e7.extBut _ _ (Nat.ne_of_gt lz) (Heap.get?_push_size _ rfl))
  rw [n5] at cz8 cT
  refine wpAny_pure ⟨_, rfl, ?_⟩
  show Q (.ref g5.objs.size) _
  rw [n5]
  refine q g8 cz8 (up _ _ D.TOz cO5) (ci2.at (fun o r => up _ _ D.i1z (k5 _ _ D.TOi1.symm (k4 _ _ D.i12 (k3 _ _ D.TOi1.symm r)))) fun o r => up _ _ D.l1z (k5 _ _ D.l1TO (k4 _ _ D.l1i2 (k3 _ _ D.l1TO r)))) (cj4.at (fun o r => up _ _ D.i2z (k5 _ _ D.TOi2.symm r)) fun o r => up _ _ D.l2z (k5 _ _ D.l2TO r)) cT fun c o n1 n2 n3 n4 r => up c o n1 (k5 _ _ n2 (k4 _ _ n4 (k3 _ _ n2 (k2 _ _ n3 (k1 _ _ n1 r)))))
theorem zip_end {Q : Fin → Shared → Prop} (hh : A.handled = none) (D : ZipApart z TI TO i j l m) (cz : IsZip s.heap z TI TO .none) (cI : IsPair s.heap TI (.ref i) (.ref j)) (cO : IsPair s.heap TO a b) (ci : IsI s.heap i l xs kd k) (cj : IsI s.heap j m ys ke k) (en : xs[k]? = none ∨ ys[k]? = none)
    (q : ∀ g e, (∀ c o, c ≠ z → c ≠ TO → c ≠ i → c ≠ j → s.heap.get? c = some o → g.get? c = some o) → (∃ o, g.get? e = some o ∧ o.cls = .type "StopIteration") → E (.ref e) { s with heap := g }) : wpAny (model P w) A (Builtin.«zip.__next__» ⟨[.ref z], []⟩) Q E s := by
  show wpAny _ _ (field (.ref z) 2 >>= _) _ _ _
  refine wpAny_bind (wpAny_field cz rfl (x := .bool false) rfl (?_ : wpAny _ _ (field (.ref z) 3 >>= _) _ _ _))
  refine wpAny_bind (wpAny_field cz rfl (x := .ref TI) rfl (wpAny_bind (wpAny_seqItems cI rfl (?_ : wpAny _ _ (Builtin.SmallTypes.ownedTupleIsFree (.ref z) >>= _) _ _ _))))
  unfold Builtin.SmallTypes.ownedTupleIsFree
  refine wpAny_bind (wpAny_bind (wpAny_field cz rfl (x := .none) rfl (wpAny_pure ?_)))
  simp only [if_true]
  refine wpAny_bind (wpAny_rule (wpAny_bind (wpAny_field cz rfl (x := .ref TO) rfl (wpAny_bind (wpAny_setField_rec cz (by simp) fun g1 cz1 e1 => ?_)))))
  replace cz1 : IsZip g1 z TI TO .ellipsis := cz1
  simp only [List.zipIdx_cons, List.zipIdx_nil, List.forIn_cons, List.forIn_nil]
  have k1 := e1.extBut
  have ci1 : IsI g1 i l xs kd k := ci.at (fun o r => k1 _ _ D.i1z r) fun o r => k1 _ _ D.l1z r
  have bad : ∀ {g : Heap} {e : Addr} {oe : Obj}, IsZip g z TI TO .ellipsis → g.get? e = some oe → oe.cls = .type "StopIteration" → e ≠ z := fun cg ge cc r => by
    subst r
    rw [cg] at ge
    cases ge
    simp at cc
  refine wpAny_bind (wpAny_bind (wpAny_bind (wpAny_onRaise (?_ : wpAny _ _ (Builtin.SmallTypes.nextOf (.ref i) >>= _) _ _ _))))
  cases ex : xs[k]? with
  | none =>
    refine wpAny_bind (endA (s := { s with heap := g1 }) hh ci1 ex fun g2 e k2 he => ?_)
    obtain ⟨oe, ge, cc⟩ := he
    have cz2 : IsZip g2 z TI TO .ellipsis := k2 _ _ D.i1z.symm cz1
    exact wpAny_setField_rec cz2 (by simp) fun g3 _ e3 => q g3 e (fun c o n1 _ n3 _ r => e3.extBut _ _ n1 (k2 _ _ n3 (k1 _ _ n1 r))) ⟨oe, e3.extBut _ _ (bad cz2 ge cc) ge, cc⟩
  | some x =>
    have ey : ys[k]? = none := en.resolve_left (by rw [ex]; simp)
    refine wpAny_bind (nextA (s := { s with heap := g1 }) ci1 ex D.l1i1 fun g2 ci2 e2 => wpAny_pure ?_)
    have k2 := e2.extBut
    have cO2 : IsPair g2 TO a b := k2 _ _ D.TOi1 (k1 _ _ D.TOz cO)
    refine wpAny_bind (wpAny_seqItems cO2 rfl (wpAny_bind (wpAny_updateSeq_pair cO2 fun g3 cO3 e3 => ?_)))
    have k3 := e3.extBut
    have cj3 : IsI g3 j m ys ke k := cj.at (fun o r => k3 _ _ D.TOi2.symm (k2 _ _ D.i12.symm (k1 _ _ D.i2z r))) fun o r => k3 _ _ D.l2TO (k2 _ _ D.l2i1 (k1 _ _ D.l2z r))
    refine wpAny_bind (wpAny_letGo (wpAny_pure (wpAny_bind (wpAny_bind (wpAny_onRaise (?_ : wpAny _ _ (Builtin.SmallTypes.nextOf (.ref j) >>= _) _ _ _))))))
    refine wpAny_bind (endA (s := { s with heap := g3 }) hh cj3 ey fun g4 e k4 he => ?_)
    obtain ⟨oe, ge, cc⟩ := he
    have cz4 : IsZip g4 z TI TO .ellipsis := k4 _ _ D.i2z.symm (k3 _ _ D.TOz.symm (k2 _ _ D.i1z.symm cz1))
    exact wpAny_setField_rec cz4 (by simp) fun g5 _ e5 => q g5 e (fun c o n1 n2 n3 n4 r => e5.extBut _ _ n1 (k4 _ _ n4 (k3 _ _ n2 (k2 _ _ n3 (k1 _ _ n1 r))))) ⟨oe, e5.extBut _ _ (bad cz4 ge cc) ge, cc⟩
end
end Zp2
namespace Zp2
open PySem
abbrev H1 (h : Heap) (l : Addr) (kd : String) : Heap := h.push (IObj kd l 0)
abbrev H2 (h : Heap) (l m : Addr) (kd ke : String) : Heap := (H1 h l kd).push (IObj ke m 0)
abbrev H3 (h : Heap) (l m : Addr) (kd ke : String) : Heap := (H2 h l m kd ke).push { cls := .type "tuple", data := .seq #[.ref h.objs.size, .ref (H1 h l kd).objs.size] }
abbrev H4 (h : Heap) (l m : Addr) (kd ke : String) : Heap := (H3 h l m kd ke).push { cls := .type "tuple", data := .seq #[.none, .none] }
abbrev H5 (h : Heap) (l m : Addr) (kd ke : String) : Heap := (H4 h l m kd ke).push { cls := .type "zip", data := .fields #[.none, .bool false, .bool false, .ref (H2 h l m kd ke).objs.size, .ref (H3 h l m kd ke).objs.size] }
theorem meets_new (l m : Addr) (xs ys : Array Value) (kd ke : String) : Meets (Builtin.«zip.__new__» ⟨[.type "zip", .ref l, .ref m], []⟩) (fun _ R s => IsS s.heap l xs kd ∧ IsS s.heap m ys ke ∧ R (.ok (.ret (.ref (H4 s.heap l m kd ke).objs.size))) { s with heap := H5 s.heap l m kd ke }) :=
  .of_wp fun P w A R s ⟨c1, c2, q⟩ => by
    obtain ⟨hh, g, d, tk, os⟩ := s
    have sub := sub_zip
    have d1 : IsS (Shared.heap ⟨hh, g, d, tk, os⟩) l xs kd := c1
    have d2 : IsS (Shared.heap ⟨H1 hh l kd, g, d, tk, os⟩) m ys ke := c2.keeps fun b o r => Heap.get?_push_of_some _ r
    wp_walk using iterA d1, iterA d2
    exact ⟨_, rfl, q⟩
section
variable {P : Program} {w : World} {A : Around} {E : Value → Shared → Prop} {s : Shared} {l m : Addr} {xs ys : Array Value} {kd ke : String}
theorem call {Q : Value → Shared → Prop} (c1 : IsS s.heap l xs kd) (c2 : IsS s.heap m ys ke)
    (q : ∀ g, IsZip g (s.heap.objs.size + 4) (s.heap.objs.size + 2) (s.heap.objs.size + 3) .none → IsPair g (s.heap.objs.size + 2) (.ref s.heap.objs.size) (.ref (s.heap.objs.size + 1)) → IsPair g (s.heap.objs.size + 3) .none .none → IsI g s.heap.objs.size l xs kd 0 → IsI g (s.heap.objs.size + 1) m ys ke 0 →
      (∀ c o, s.heap.get? c = some o → g.get? c = some o) → Q (.ref (s.heap.objs.size + 4)) { s with heap := g }) : wpAny (model P w) A (PySem.call (.type "zip") [.ref l, .ref m]) Q E s := by
  refine callType_new F.called_zip (by decide) (F.typeCall_zip_2 _ _) (F.newCall_zip_2 _ _) (fun ob => F.args_object_init_3 ob _ _) F.entry_zip_new (meets_new l m xs ys kd ke) ⟨c1, c2, ?_⟩
  have n1 : (H1 s.heap l kd).objs.size = s.heap.objs.size + 1 := Heap.size_push ..
  have n2 : (H2 s.heap l m kd ke).objs.size = s.heap.objs.size + 2 := by rw [Heap.size_push, n1]
  have n3 : (H3 s.heap l m kd ke).objs.size = s.heap.objs.size + 3 := by rw [Heap.size_push, n2]
  have n4 : (H4 s.heap l m kd ke).objs.size = s.heap.objs.size + 4 := by rw [Heap.size_push, n3]
  have up : ∀ c o, s.heap.get? c = some o → (H5 s.heap l m kd ke).get? c = some o := fun c o r => Heap.get?_push_of_some _ (Heap.get?_push_of_some _ (Heap.get?_push_of_some _ (Heap.get?_push_of_some _ (Heap.get?_push_of_some _ r))))
  have o5 : (H5 s.heap l m kd ke).get? (H4 s.heap l m kd ke).objs.size = some _ := Heap.get?_push_size _ rfl
  have o4 : (H5 s.heap l m kd ke).get? (H3 s.heap l m kd ke).objs.size = some _ := Heap.get?_push_of_some _ (Heap.get?_push_size _ rfl)
  have o3 : (H5 s.heap l m kd ke).get? (H2 s.heap l m kd ke).objs.size = some _ := Heap.get?_push_of_some _ (Heap.get?_push_of_some _ (Heap.get?_push_size _ rfl))
  have o2 : (H5 s.heap l m kd ke).get? (H1 s.heap l kd).objs.size = some (IObj ke m 0) := Heap.get?_push_of_some _ (Heap.get?_push_of_some _ (Heap.get?_push_of_some _ (Heap.get?_push_size _ rfl)))
  have o1 : (H5 s.heap l m kd ke).get? s.heap.objs.size = some (IObj kd l 0) := Heap.get?_push_of_some _ (Heap.get?_push_of_some _ (Heap.get?_push_of_some _ (Heap.get?_push_of_some _ (Heap.get?_push_size _ rfl))))
  show _ ∧ _
  rw [n2, n3, n4] at o5
  rw [n1, n2] at o3
  rw [n3] at o4
  rw [n1] at o2
  rw [n4]
  have it : ∀ {i l : Addr} {xs : Array Value} {kd : String}, IsS s.heap l xs kd → (H5 s.heap l m kd ke).get? i = some (IObj kd l 0) → True := fun _ _ => trivial
  refine ⟨⟨_, o5, rfl⟩, q _ o5 o3 o4 ?_ ?_ up⟩
  · rcases c1 with ⟨e, c1⟩ | ⟨e, c1⟩
    · exact .inl ⟨e, ⟨_, o1, by rw [e], rfl⟩, c1.at fun o r => up _ o r⟩
    · exact .inr ⟨e, ⟨_, o1, by rw [e], rfl⟩, c1.at fun o r => up _ o r⟩
  · rcases c2 with ⟨e, c2⟩ | ⟨e, c2⟩
    · exact .inl ⟨e, ⟨_, o2, by rw [e], rfl⟩, c2.at fun o r => up _ o r⟩
    · exact .inr ⟨e, ⟨_, o2, by rw [e], rfl⟩, c2.at fun o r => up _ o r⟩
end
end Zp2

set_option Elab.async false
set_option linter.all false
set_option maxRecDepth 100000
set_option maxHeartbeats 1000000
namespace L2
open PySem PySem.Spec PyProof.Rows Zp2
/-- a tuple, or a list -/
def SqB (K : PySem.W.Frag) (H : Hp) (t : Bool) (a : Addr) (xs : List V) : Prop := match t with
  | true => SqT K H a xs
  | false => SqL K H a xs
def kindB : Bool → String
  | true => "tuple_iterator"
  | false => "list_iterator"
theorem sqB_at {X : Cx} {pins : List (Addr × Obj)} {σ : St} {H : Hp} {s : Shared} {a : Addr} {xs : List V} {t : Bool} (I : Inv X pins σ H s) (h : SqB X.K H t a xs) : ∃ its : List Value, Vals xs its ∧ IsS s.heap a its.toArray (kindB t) := by
  cases t with
  | false =>
    obtain ⟨its, r, p, _⟩ := I.list h
    exact ⟨its, r, .inr ⟨rfl, p.isList⟩⟩
  | true =>
    obtain ⟨its, r, p, _⟩ := I.tuple h
    exact ⟨its, r, .inl ⟨rfl, p⟩⟩
theorem isI_of {h : Heap} {i l : Addr} {xs : Array Value} {t : Bool} {k : Nat} {o : Obj} (h1 : h.get? i = some o) (h2 : o.cls = .type (kindB t)) (h3 : o.data = .fields #[.ref l, .int k 0]) (s : IsS h l xs (kindB t)) : IsI h i l xs (kindB t) k := by
  rcases s with ⟨e, s⟩ | ⟨e, s⟩
  · exact .inl ⟨e, ⟨o, h1, by rw [h2, e], h3⟩, s⟩
  · exact .inr ⟨e, ⟨o, h1, by rw [h2, e], h3⟩, s⟩
theorem isI_to {h : Heap} {i l : Addr} {xs : Array Value} {kd : String} {k : Nat} (x : IsI h i l xs kd k) : ∃ o, h.get? i = some o ∧ o.cls = .type kd ∧ o.data = .fields #[.ref l, .int k 0] := by
  rcases x with ⟨e, ⟨o, h1, h2, h3⟩, _⟩ | ⟨e, ⟨o, h1, h2, h3⟩, _⟩ <;> exact ⟨o, h1, by rw [h2, e], h3⟩
/-- zip of two -/
def ItzA (K : PySem.W.Frag) (a b : Addr) (t u : Bool) (xs ys : List V) : It :=
  ⟨fun i H => SqB K H t a xs ∧ SqB K H u b ys ∧ i < xs.length ∧ i < ys.length, fun i H v H' => ∃ T x y, v = .ref T ∧ H T = none ∧ H' = upd H T (.tup [x, y]) ∧ xs[i]? = some x ∧ ys[i]? = some y, fun i H => SqB K H t a xs ∧ SqB K H u b ys ∧ (xs.length ≤ i ∨ ys.length ≤ i)⟩
theorem turn_zA {P : Program} {w : World} {K : PySem.W.Frag} {elts : List Expr} {kk : Nat} {tpos : Pos} {a b z TI TO i1 i2 : Addr} {xs ys : List V} {t u : Bool} (D : ZipApart z TI TO i1 i2 a b) :
    Turn P w K (.Tuple elts kk tpos) (ItzA K a b t u xs ys) [z, TI, TO, i1, i2] z (fun i h => IsZip h z TI TO .none ∧ IsPair h TI (.ref i1) (.ref i2) ∧ (∃ x y, IsPair h TO x y) ∧ (∃ o, h.get? i1 = some o ∧ o.cls = .type (kindB t) ∧ o.data = .fields #[.ref a, .int i 0]) ∧ ∃ o, h.get? i2 = some o ∧ o.cls = .type (kindB u) ∧ o.data = .fields #[.ref b, .int i 0]) where
  mem := by simp
  obj := fun i h st c hc => by
    obtain ⟨g1, g2, ⟨x, y, g3⟩, ⟨o1, e1, _, d1⟩, o2, e2, _, d2⟩ := st
    have q : c = z ∨ c = TI ∨ c = TO ∨ c = i1 ∨ c = i2 := by simpa using hc
    rcases q with q | q | q | q | q <;> subst q
    · exact ⟨_, g1, fun v q => nomatch q⟩
    · exact ⟨_, g2, fun v q => nomatch q⟩
    · exact ⟨_, g3, fun v q => nomatch q⟩
    · exact ⟨o1, e1, fun v q => by rw [d1] at q; cases q⟩
    · exact ⟨o2, e2, fun v q => by rw [d2] at q; cases q⟩
  keep := fun i h h' st k => by
    obtain ⟨g1, g2, ⟨x, y, g3⟩, ⟨o1, e1, r1⟩, o2, e2, r2⟩ := st
    exact ⟨k z (by simp) _ g1, k TI (by simp) _ g2, ⟨x, y, k TO (by simp) _ g3⟩, ⟨o1, k i1 (by simp) _ e1, r1⟩, o2, k i2 (by simp) _ e2, r2⟩
  item := by
    intro X hP hw hK hc i pins s σ H E I hf st hg
    subst hP hw hK
    obtain ⟨cz, cI, ⟨x0, y0, cO⟩, ⟨o1, e1, r1, d1⟩, o2, e2, r2, d2⟩ := st
    obtain ⟨qx, qy, lx, ly⟩ := hg
    obtain ⟨us, rx, sx⟩ := sqB_at I qx
    obtain ⟨ws, ry, sy⟩ := sqB_at I qy
    obtain ⟨v1, hv1, rv1⟩ := rx.get (List.getElem?_eq_getElem lx)
    obtain ⟨v2, hv2, rv2⟩ := ry.get (List.getElem?_eq_getElem ly)
    have zl : z < s.heap.objs.size := Heap.lt_size cz
    have old : ∀ c ∈ [z, TI, TO, i1, i2], c < s.heap.objs.size := fun c hcm => by
      have q : c = z ∨ c = TI ∨ c = TO ∨ c = i1 ∨ c = i2 := by simpa using hcm
      rcases q with q | q | q | q | q <;> subst q
      · exact zl
      · exact Heap.lt_size cI
      · exact Heap.lt_size cO
      · exact Heap.lt_size e1
      · exact Heap.lt_size e2
    refine ZS.pyNext_of_item ⟨_, cz, rfl⟩ (zip_next D cz cI cO (isI_of e1 r1 d1 sx) (isI_of e2 r2 d2 sy) (x := v1) (y := v2) (by simpa using hv1) (by simpa using hv2) fun g cz' cO' c1 c2 cT keep => ?_)
    refine ⟨_, rfl, wpAny_letOwnedTupleGo_zip (s := { s with heap := g }) cz' fun g2 cz2 sb => ?_⟩
    have hT2 : g2.get? s.heap.objs.size = some { cls := .type "tuple", data := .seq #[v1, v2] } := (sb.2 _ (Nat.ne_of_gt zl)).trans cT
    have new : ObjOk X.prog X.w (upd H s.heap.objs.size (.tup [xs[i], ys[i]])) g2 s.heap.objs.size (.tup [xs[i], ys[i]]) := ⟨by show 2 ≤ sizeLine; decide, [v1, v2], .cons rv1 (.cons rv2 .nil), ⟨_, hT2, rfl, _, rfl⟩⟩
    have J : Inv X pins σ (upd H s.heap.objs.size (.tup [xs[i], ys[i]])) { s with heap := g2 } :=
      I.turnedNew (t' := s.toks) (ch := [z, TI, TO, i1, i2]) (fun c o hb q => (sb.2 c (fun r => hb (by simp [r]))).trans (keep c o (fun r => hb (by simp [r])) (fun r => hb (by simp [r])) (fun r => hb (by simp [r])) (fun r => hb (by simp [r])) q)) hf (Nat.le_refl _) new
    obtain ⟨o1', f1, f1c, f1d⟩ := isI_to c1
    obtain ⟨o2', f2, f2c, f2d⟩ := isI_to c2
    refine ⟨.ref s.heap.objs.size, _, J, rfl, ⟨_, xs[i], ys[i], rfl, I.hok.fresh (Nat.le_refl _), rfl, List.getElem?_eq_getElem lx, List.getElem?_eq_getElem ly⟩, ⟨cz2, ?_, ⟨v1, v2, (sb.2 _ D.TOz).trans cO'⟩, ⟨o1', (sb.2 _ D.i1z).trans f1, f1c, f1d⟩, o2', (sb.2 _ D.i2z).trans f2, f2c, f2d⟩, fun c hcm => ?_⟩
    · exact (sb.2 _ D.TIz).trans (keep _ _ D.TIz D.TITO D.TIi1 D.TIi2 cI)
    · rw [upd_ne (Nat.ne_of_lt (old c hcm))]
      exact (hf c hcm).1
  done := by
    intro X hP hw hK hc i pins s σ H E I hf st hg
    subst hP hw hK
    obtain ⟨cz, cI, ⟨x0, y0, cO⟩, ⟨o1, e1, r1, d1⟩, o2, e2, r2, d2⟩ := st
    obtain ⟨qx, qy, hl⟩ := hg
    obtain ⟨us, rx, sx⟩ := sqB_at I qx
    obtain ⟨ws, ry, sy⟩ := sqB_at I qy
    have lx := rx.length
    have ly := ry.length
    refine ZS.pyNext_of_end ⟨_, cz, rfl⟩ (zip_end (show X.A.in1.handled = none from I.ok.hd hc) D cz cI cO (isI_of e1 r1 d1 sx) (isI_of e2 r2 d2 sy) ?_ fun g e keep he => ?_)
    · rcases hl with q | q
      · exact .inl (by simp; omega)
      · exact .inr (by simp; omega)
    · obtain ⟨o, ho, hcls⟩ := he
      exact ⟨e, o, rfl, ho, hcls, rfl, I.turnedL (t' := s.toks) (ch := [z, TI, TO, i1, i2]) (fun c o hb q => keep c o (fun r => hb (by simp [r])) (fun r => hb (by simp [r])) (fun r => hb (by simp [r])) (fun r => hb (by simp [r])) q) hf⟩
  self := fun A i s Q E st h => wpAny_pyIter_zip st.1 h
def iZpA (K : PySem.W.Frag) (ta : TA) : TI := fun σ H R => ta σ H fun vs H1 => ∃ a b t u xs ys, vs = [.ref a, .ref b] ∧ SqB K H1 t a xs ∧ SqB K H1 u b ys ∧ R (ItzA K a b t u xs ys) H1
theorem pi_zpA {X : Cx} {e e2 : Expr} {ta : TA} {p pos tpos : Pos} {elts : List Expr} {kk : Nat} (hg : Gl X "zip") (hm : X.mg "zip" = none) (ha : PA X [e, e2] ta)
    (hs : starEach [e, e2] X.env = (false, eval e X.env) :: starEach [e2] X.env := by rfl) (hpl : (backTo pos (starEach [e2] X.env)).any (·.1) = false := by rfl) : PI X (.Tuple elts kk tpos) (.Call (.Name "zip" p) [e, e2] [] pos) (iZpA X.K ta) := by
  refine ⟨fun pins s σ H R I h => Call_ (ld_blt I hg hm PyProof.Rows.boot_zip (PyProof.Rows.callWith_type1 (thn (ha.run pos pins s σ H _ I h) fun us s1 ⟨vs, H1, I1, r1, q1⟩ => ?_) hs hpl))⟩
  obtain ⟨a, b, t, u, xs, ys, ex, qx, qy, q⟩ := q1
  subst ex
  obtain ⟨u1, u2, rfl, ra, rb⟩ := vals2 r1
  obtain rfl : u1 = Value.ref a := ra
  obtain rfl : u2 = Value.ref b := rb
  obtain ⟨us', rx, sx⟩ := sqB_at I1 qx
  obtain ⟨ws', ry, sy⟩ := sqB_at I1 qy
  have lt : ∀ {l : Addr} {zs : Array Value} {kd : String}, IsS s1.heap l zs kd → l < s1.heap.objs.size := fun x => by
    rcases x with ⟨_, o, h1, _⟩ | ⟨_, o, h1, _⟩ <;> exact Heap.lt_size h1
  have fpo : ∀ c ∈ [s1.heap.objs.size + 4, s1.heap.objs.size + 2, s1.heap.objs.size + 3, s1.heap.objs.size, s1.heap.objs.size + 1], FpOk X pins H1 c := fun c hcm => by
    have q : c = s1.heap.objs.size + 4 ∨ c = s1.heap.objs.size + 2 ∨ c = s1.heap.objs.size + 3 ∨ c = s1.heap.objs.size ∨ c = s1.heap.objs.size + 1 := by simpa using hcm
    have hle : s1.heap.objs.size ≤ c := by
      rcases q with q | q | q | q | q <;> rw [q] <;> first | exact Nat.le_refl _ | exact Nat.le_add_right _ _
    exact I1.fpOk hle (I1.hok.fresh hle)
  exact Zp2.call sx sy fun g cz cI cO c1 c2 keep => wpAny_pyIter_zip cz ⟨_, _, _, _, H1, rfl, I1.kept (t' := s1.toks) keep, turn_zA (PySem.W.ktu_apart s1.heap.objs.size a b (lt sx) (lt sy)), ⟨cz, cI, ⟨_, _, cO⟩, isI_to c1, isI_to c2⟩, fpo, q⟩
theorem walk_zA {K : PySem.W.Frag} {a b : Addr} {t u : Bool} {xs ys : List V} {n : Nat} (hn : n = min xs.length ys.length) : Walk (ItzA K a b t u xs ys) n (fun H => SqB K H t a xs ∧ SqB K H u b ys) (YPair (fun i => xs[i]?) (fun i => ys[i]?)) := by
  subst hn
  exact ⟨fun i _ hi q => ⟨q.1, q.2, by omega, by omega⟩, fun _ q => ⟨q.1, q.2, by omega⟩, fun i H v H' _ q y => y⟩
end L2

set_option Elab.async false
set_option linter.all false
set_option maxRecDepth 100000
set_option maxHeartbeats 1000000
namespace Sv
open PySem L2 PyProof.Rows
/-! ## walks over anything: what is given stands for its items -/
/-- what is given at a turn, put into the targets, is the item d -/
def GT (K : PySem.W.Frag) (t : Tg) (d : Dat) (v : V) (G0 H : Hp) : Prop := ∀ (x : Fx) (G : Hp) (ρ ρ' : En) (σ : L2.St) (Q : L2.St → Hp → Prop), Rel K x σ H G ρ → Same G0 G → setT t d ρ = some ρ' → (∀ σ', Rel K x σ' H G ρ' → wipe σ' t.slots = wipe σ t.slots → Q σ' H) → gT K t v σ H Q
theorem gt_rep {K : PySem.W.Frag} {t : Tg} {d : Dat} {v : V} {G0 H : Hp} (h : Rep K G0 v d) : GT K t d v G0 H := fun x G ρ ρ' σ Q r s e q => gT_run r (h.mono s) e q
theorem gt_pair {K : PySem.W.Frag} {is : List Nat} {d e : Dat} {T : Addr} {v u : V} {G0 H : Hp} (hT : H T = some (.tup [v, u])) (h1 : Rep K G0 v d) (h2 : Rep K G0 u e) : GT K (.tup is) (.tup [d, e]) (.ref T) G0 H := fun x G ρ ρ' σ Q r s ee q => by
  have rp : RepA K G [v, u] [d, e] := .cons (h1.mono s) (.cons (h2.mono s) .nil)
  exact ⟨_, _, rfl, .inl (.inl hT), by rw [rp.length]; exact (setVs_len ee).symm, setVs_run (fun _ h => h) r rp ee q⟩
/-- the heap as it was, or with one new object -/
def Nw (H H' : Hp) : Prop := H' = H ∨ ∃ T o, H T = none ∧ H' = upd H T o
theorem Nw.rel {K : PySem.W.Frag} {x : Fx} {σ : L2.St} {H H' G : Hp} {ρ : En} (n : Nw H H') (r : Rel K x σ H G ρ) : Rel K x σ H' G ρ := by
  rcases n with e | ⟨T, o, h, e⟩
  · rw [e]; exact r
  · rw [e]; exact r.new' _ h
/-- J goes through ds -/
def Src (K : PySem.W.Frag) (t : Tg) (G1 : Hp) (ds : List Dat) (J : It) : Prop := ∃ (P : Hp → Prop) (Y : Nat → Hp → V → Hp → Prop), Walk J ds.length P Y ∧ (∀ H, Same G1 H → P H) ∧
  ∀ (i : Nat) (v : V) (H H' : Hp) (d : Dat), Same G1 H → Y i H v H' → ds[i]? = some d → Nw H H' ∧ GT K t d v G1 H'
/-- a walk's expression: it goes through the items of src -/
def DIt (X : Cx) (W : WX) (t : Tg) (tg iter : Expr) (src : M (List Dat)) : Prop := PI X tg iter fun σ H R => ∃ (z : Fx) (H0 : Hp) (ρ : En), Rel X.K z σ H H0 ρ ∧ Run (cc X W) z σ H0 (src ρ) fun ds H1 G1 _ => ∀ J, Src X.K t G1 ds J → R J H1
def forIO (src : M (List Dat)) (t : Tg) (body : En → O) : En → O := fun ρ => (src ρ).toO fun ds ρ' => forL t body ds ρ'
theorem for_stepG {c : Cc} {x : Fx} {D : Ends} {t : Tg} {body : En → O} {ds : List Dat} {i : Nat} {d : Dat} {v : V} {σ : L2.St} {G0 H H0 : Hp} {ρ : En} {N : L2.St → Hp → Prop} (hd : ds[i]? = some d) (r : Rel c.K x σ H H0 ρ) (s0 : Same G0 H0) (hv : GT c.K t d v G0 H)
    (h : RunS c x H0 (forL t body (ds.drop i) ρ) D) (hN : ∀ σ' H' H1 ρ2, Rel c.K x σ' H' H1 ρ2 → Same H0 H1 → RunS c x H1 (forL t body (ds.drop (i + 1)) ρ2) D → N σ' H') :
    gT c.K t v σ H fun σ2 H2 => tS c body { D with nx := N, ct := N, bk := D.nx } σ2 H2 := by
  obtain ⟨hl, e⟩ := List.getElem?_eq_some_iff.mp hd
  rw [List.drop_eq_getElem_cons hl, e] at h
  unfold forL at h
  cases q : setT t d ρ with
  | none => rw [q] at h; exact h.elim
  | some ρ1 =>
    rw [q] at h
    exact hv x H0 ρ ρ1 σ _ r s0 q fun σ' r' _ => turn_run r' h hN
section
variable {X : Cx} {W : WX} {tg iter elt : Expr} {t : Tg} {src : M (List Dat)} {body : List Stmt} {fs : En → O} {pos : Pos} {ifs : List Expr} {scope : Scope} {own : List (Str × Nat)} {tt : M Bool} {g : M Dat}
theorem ds_forI (hp : PassesOwn (model X.prog X.w) X.A X.env X.xe) (hc : X.calm = true) (hi : DIt X W t tg iter src) (hg : PG X tg (gT X.K t)) (hb : DB X W body fs)
    (hs : ∀ x, foldedSetIterable iter X.env x = pure x := by intro _; rfl) : DS X W (.For tg iter body [] pos) (forIO src t fs) :=
  PS.imp (ps_for hp hc hi hg hb hs) fun D σ H ⟨z, H0, ρ, r, q⟩ => by
    refine ⟨z, H0, ρ, r, (RunS.part q).mono fun ds H1 G1 ρ1 r1 s1 q1 J ⟨P, Y, w, h1, h2⟩ => ?_⟩
    refine for_it w (fun i σ H => ∃ G ρ2, Rel X.K z σ H G ρ2 ∧ Same G1 G ∧ RunS (cc X W) z G (forL t fs (ds.drop i) ρ2) D) ⟨G1, ρ1, r1, Same.refl _, q1⟩ (fun i σ' H2 _ ⟨G, ρ2, r2, s2, _⟩ => h1 H2 (s2.trans r2.sub)) (fun i v σ' H2 H3 hi ⟨G, ρ2, r2, s2, q2⟩ y => ?_) fun σ' H2 ⟨G, ρ2, r2, s2, q2⟩ => ?_
    · obtain ⟨nw, gt⟩ := h2 i v H2 H3 _ (s2.trans r2.sub) y (List.getElem?_eq_getElem hi)
      exact for_stepG (c := cc X W) (List.getElem?_eq_getElem hi) (nw.rel r2) s2 gt q2 fun σ' H' H4 ρ2 r' s' q' => ⟨H4, ρ2, r', s2.trans s', q'⟩
    · rw [List.drop_length] at q2
      exact q2 σ' H2 G r2 (Same.refl _)
theorem lc_turnG {c c0 : Cc} (hK : c0.K = c.K) {x : Fx} {σ : L2.St} {t : Tg} {tt : M Bool} {g : M Dat} {Q : VK} {G0 : Hp} {D : Addr} {ds : List Dat} {i : Nat} {d : Dat} {v : V} {H : Hp} (hd : ds[i]? = some d) (hv : GT c.K t d v G0 H) (nD : ∀ u, (D, u) ∉ x.rs) (hio : ∀ j ∈ t.slots, x.io j = none ∧ j < σ.length)
    (h : LcInv c x σ t tt g Q G0 D ds i H) :
    gT c.K t v (L2.wipe σ t.slots) H fun σ2 H2 => L2.wipe σ2 t.slots = L2.wipe σ t.slots ∧ tDT c0 tt σ2 H2 fun b H3 =>
      if b = true then tD c0 g σ2 H3 fun y H4 => ∃ acc, H4 D = some (.lst acc) ∧ acc.length < sizeLine ∧ LcInv c x σ t tt g Q G0 D ds (i + 1) (upd H4 D (.lst (acc ++ [y]))) else LcInv c x σ t tt g Q G0 D ds (i + 1) H3 := by
  obtain ⟨G, ρ, acc, av, r, s, ra, hu, q⟩ := h
  obtain ⟨hl, e⟩ := List.getElem?_eq_some_iff.mp hd
  rw [List.drop_eq_getElem_cons hl, e] at q
  unfold lcL at q
  have len : ∀ {σ2 : L2.St} {H2 G2 : Hp} {ρ2 : En} {o : HO}, Rel c.K (x.add D o) σ2 H2 G2 ρ2 → L2.wipe σ2 t.slots = L2.wipe σ t.slots → ∀ j ∈ t.slots, j < ρ2.length := fun r w j hj => by
    have e1 := r.len
    have e2 := congrArg List.length w
    rw [wipe_length, wipe_length] at e2
    have := (hio j hj).2
    omega
  cases q1 : setT t d ρ with
  | none => rw [q1] at q; exact q.elim
  | some ρ1 =>
    rw [q1] at q; try dsimp only at q
    refine hv _ G ρ ρ1 _ _ r s q1 fun σ2 r2 w => ⟨w.trans (wipe_wipe _ _), x.add D (.lst av), G, ρ1, hK ▸ r2, ?_⟩
    have w2 : L2.wipe σ2 t.slots = L2.wipe σ t.slots := w.trans (wipe_wipe _ _)
    cases q2 : tt ρ1 with
    | stuck => rw [q2] at q; exact q.elim
    | err cn fs ρ' => rw [q2] at q; exact q.elim
    | ok b ρ2 =>
      rw [q2] at q; try dsimp only at q
      intro H3 G3 r3 s3
      rw [hK] at r3
      cases b with
      | false =>
        rw [if_neg (by decide)]
        refine ⟨G3, unS t.slots ρ2, acc, av, w2 ▸ r3.wipe (fun j hj => (hio j hj).1), s.trans s3, ra.mono s3, fun j hj => unS_at hj (len r3 w2 j hj), Run.up q s3⟩
      | true =>
        rw [if_pos rfl]
        refine ⟨x.add D (.lst av), G3, ρ2, hK ▸ r3, ?_⟩
        dsimp only at q
        cases q3 : g ρ2 with
        | stuck => rw [q3] at q; exact q.elim
        | err cn fs ρ' => rw [q3] at q; exact q.elim
        | ok y ρ3 =>
          rw [q3] at q; try dsimp only at q
          intro H4 G4 r4 s4 yv hy
          rw [hK] at r4 hy
          obtain ⟨p1, p2, p3, p4⟩ := r4.at
          split at q
          · rename_i hz
            have s34 := s3.trans s4
            refine ⟨av, p1, Nat.lt_of_lt_of_le (by rw [ra.length]; exact hz) (by decide), G4, unS t.slots ρ3, acc ++ [y], av ++ [yv], ?_, s.trans s34, (ra.mono s34).app (.cons hy .nil), fun j hj => unS_at hj (len r4 w2 j hj), Run.up q s34⟩
            have r5 : Rel c.K (x.add D (.lst (av ++ [yv]))) σ2 (upd H4 D (.lst (av ++ [yv]))) G4 ρ3 := r4.rupd nD
            exact w2 ▸ r5.wipe (fun j hj => (hio j hj).1)
          · exact q.elim
theorem LcInv.nw {c : Cc} {x : Fx} {σ : L2.St} {t : Tg} {tt : M Bool} {g : M Dat} {Q : VK} {G0 : Hp} {D : Addr} {ds : List Dat} {i : Nat} {H H' : Hp} (n : Nw H H') (h : LcInv c x σ t tt g Q G0 D ds i H) : LcInv c x σ t tt g Q G0 D ds i H' := by
  obtain ⟨G, ρ, acc, av, r, s, ra, hu, q⟩ := h
  exact ⟨G, ρ, acc, av, n.rel r, s, ra, hu, q⟩
def M.lcS (src : M (List Dat)) (t : Tg) (tt : M Bool) (g : M Dat) : M (List Dat) := src.bnd fun ds => lcI t tt g ds
theorem dn_lcI (hc : X.calm = true) (hN : X.N.Nodup) (hi : DIt X W t tg iter src) (ok : BlkOk X.N X.env.scope scope own) (hown : own.map (·.2) = t.slots)
    (hg : ∀ (s : Shared) (H : Hp) (C : Addr) (cl : List (Str × Addr)) (fp : List Addr), PG (X.blk s H scope (compEnvC scope cl C X.env) fp) tg (gT X.K t)) (ht : ∀ (s : Shared) (H : Hp) (C : Addr) (cl : List (Str × Addr)) (fp : List Addr), DTs (X.blk s H scope (compEnvC scope cl C X.env) fp) W0 ifs tt)
    (he : ∀ (s : Shared) (H : Hp) (C : Addr) (cl : List (Str × Addr)) (fp : List Addr), DE (X.blk s H scope (compEnvC scope cl C X.env) fp) W0 elt g) (hs : ∀ x, foldedSetIterable iter X.env x = pure x := by intro _; rfl) :
    DN X W (.ListComp elt [⟨tg, iter, ifs, 0⟩] scope pos) (src.lcS t tt g) :=
  PE.imp (pe_lc (tt := tDT (cc X W0) tt) (te := tD (cc X W0) g) hc hN hi ok hg ht he hs) fun σ H Q ⟨z, H0, ρ, r, q⟩ => by
    rw [hown]
    refine ⟨z, H0, ρ, r, (Run.bnd q).mono fun ds H1 G1 ρ1 r1 s1 q1 J ⟨P, Y, w, h1, h2⟩ D hD => ?_⟩
    obtain ⟨nD, hio, st⟩ := lc_start (c := cc X W) r1 hD q1
    refine lc_it w (fun i H => LcInv (cc X W) z σ t tt g Q G1 D ds i H) st (fun i H2 _ wv => ?_) (fun i v H2 H3 hi wv y => ?_) fun H2 wv => lc_end (Nat.le_refl _) nD wv
    · obtain ⟨G, ρ2, acc, av, r2, s2, _⟩ := wv
      exact h1 H2 (s2.trans r2.sub)
    · have sm : Same G1 H2 := by
        obtain ⟨G, ρ2, acc, av, r2, s2, _⟩ := wv
        exact s2.trans r2.sub
      obtain ⟨nw, gt⟩ := h2 i v H2 H3 _ sm y (List.getElem?_eq_getElem hi)
      exact lc_turnG (c := cc X W) (c0 := cc X W0) rfl (List.getElem?_eq_getElem hi) gt nD hio (LcInv.nw nw wv)
/-! ### enumerate, zip -/
def enL (n : Nat) : List Dat → List Dat
  | [] => []
  | d :: ds => .tup [.int (n : Int), d] :: enL (n + 1) ds
theorem enL_len : ∀ {ds : List Dat} {n : Nat}, (enL n ds).length = ds.length
  | [], _ => rfl
  | d :: ds, n => by show (enL (n + 1) ds).length + 1 = _; rw [enL_len]; rfl
theorem enL_get : ∀ {ds : List Dat} {n i : Nat} {d : Dat}, (enL n ds)[i]? = some d → ∃ e, ds[i]? = some e ∧ d = .tup [.int ((n + i : Nat) : Int), e]
  | [], _, i, _, h => by cases i <;> cases h
  | d :: ds, n, 0, _, h => by cases h; exact ⟨d, rfl, rfl⟩
  | d :: ds, n, i + 1, x, h => by
    obtain ⟨e, h1, h2⟩ := enL_get (ds := ds) (n := n + 1) (i := i) h
    refine ⟨e, h1, h2.trans ?_⟩
    rw [show n + 1 + i = n + (i + 1) by omega]
def enS : List Dat → Option (List Dat)
  | [d] => match items d with
    | some ds => some (enL 0 ds)
    | none => none
  | _ => none
def M.bl (f : M (List Dat)) (op : List Dat → Option (List Dat)) : M (List Dat) := f.bnd fun ds => M.lift (op ds)
theorem items_at {K : PySem.W.Frag} {H : Hp} {d : Dat} {v : V} {ds : List Dat} (h : items d = some ds) (hv : Rep K H v d) : ∃ a vs t, v = .ref a ∧ SqB K H t a vs ∧ RepA K H vs ds := by
  cases d with
  | tup es =>
    cases h
    cases hv with
    | @tup a vs _ h1 h2 => exact ⟨a, vs, true, rfl, h1.sq, h2⟩
  | lst es =>
    cases h
    cases hv with
    | @lst a vs _ h1 h2 => exact ⟨a, vs, false, rfl, .inl h1, h2⟩
  | _ => cases h
theorem sqB_mono {K : PySem.W.Frag} {H H' : Hp} {t : Bool} {a : Addr} {vs : List V} (e : Same H H') (h : SqB K H t a vs) : SqB K H' t a vs := by
  cases t with
  | true => exact sameT e h
  | false => exact sameL e h
variable {e e2 : Expr} {ga : M (List Dat)} {p pos' tpos : Pos} {elts : List Expr} {kk : Nat} {is : List Nat}
theorem di_enum (hg : Gl X "enumerate") (hm : X.mg "enumerate" = none) (ha : DA X W [e] ga) (hs : starEach [e] X.env = [(false, eval e X.env)] := by rfl) :
    DIt X W (.tup is) (.Tuple elts kk tpos) (.Call (.Name "enumerate" p) [e] [] pos) (ga.bl enS) :=
  ⟨fun pins s σ H R I ⟨z, H0, ρ, r, q⟩ => (pi_enA hg hm ha hs).run pins s σ H R I ⟨z, H0, ρ, r, (Run.bnd q).mono fun as H1 G1 ρ1 r1 s1 q1 vs hv => by
    obtain ⟨ds, e1, q2⟩ := Run.lift q1
    unfold enS at e1
    split at e1
    · rename_i d
      split at e1
      · rename_i es ei
        cases e1
        match vs, hv with
        | [v], .cons hv .nil =>
          obtain ⟨a, us, t, ev, h1, h2⟩ := items_at ei hv
          subst ev
          have q3 := q2 H1 G1 r1 (Same.refl _)
          have key : ∀ (J : It) (P : Hp → Prop), Walk J us.length P (YPair (fun i => some (.int (i : Nat))) (fun i => us[i]?)) → (∀ H, Same G1 H → P H) → Src X.K (.tup is) G1 (enL 0 es) J := fun J P w hP => by
            refine ⟨P, _, by rw [enL_len, ← h2.length]; exact w, hP, fun i v H H' d sm y hd => ?_⟩
            obtain ⟨T, x, u, ev, hT, eH, ex, eu⟩ := y
            obtain ⟨e', h3, h4⟩ := enL_get hd
            obtain ⟨d', h5, h6⟩ := h2.getV eu
            rw [h3] at h5; cases h5
            subst ev h4 eH
            cases ex
            refine ⟨.inr ⟨T, _, hT, rfl⟩, gt_pair upd_same ?_ h6⟩
            rw [Nat.zero_add]
            exact .int _
          refine ⟨a, us, rfl, ?_⟩
          cases t with
          | false => exact .inl ⟨sqB_mono (t := false) r1.sub h1, q3 _ (key _ _ walk_enum fun H s => sqB_mono (t := false) s h1)⟩
          | true => exact .inr ⟨sqB_mono (t := true) r1.sub h1, q3 _ (key _ _ walk_enT fun H s => sqB_mono (t := true) s h1)⟩
      · cases e1
    · cases e1⟩⟩
def zpL : List Dat → List Dat → List Dat
  | d :: ds, e :: es => .tup [d, e] :: zpL ds es
  | _, _ => []
theorem zpL_len : ∀ {ds es : List Dat}, (zpL ds es).length = min ds.length es.length
  | [], _ => by simp [zpL]
  | _ :: _, [] => by simp [zpL]
  | d :: ds, e :: es => by show (zpL ds es).length + 1 = _; rw [zpL_len]; simp only [List.length_cons]; omega
theorem zpL_get : ∀ {ds es : List Dat} {i : Nat} {d : Dat}, (zpL ds es)[i]? = some d → ∃ x y, ds[i]? = some x ∧ es[i]? = some y ∧ d = .tup [x, y]
  | [], _, _, _, h => by simp [zpL] at h
  | _ :: _, [], _, _, h => by simp [zpL] at h
  | d :: ds, e :: es, 0, _, h => by cases h; exact ⟨d, e, rfl, rfl, rfl⟩
  | d :: ds, e :: es, i + 1, x, h => zpL_get (ds := ds) (es := es) (i := i) h
def zpS : List Dat → Option (List Dat)
  | [d, e] => match items d, items e with
    | some ds, some es => some (zpL ds es)
    | _, _ => none
  | _ => none
theorem di_zip (hg : Gl X "zip") (hm : X.mg "zip" = none) (ha : DA X W [e, e2] ga) (hs : starEach [e, e2] X.env = (false, eval e X.env) :: starEach [e2] X.env := by rfl) (hpl : (backTo pos (starEach [e2] X.env)).any (·.1) = false := by rfl) :
    DIt X W (.tup is) (.Tuple elts kk tpos) (.Call (.Name "zip" p) [e, e2] [] pos) (ga.bl zpS) :=
  ⟨fun pins s σ H R I ⟨z, H0, ρ, r, q⟩ => (pi_zpA hg hm ha hs hpl).run pins s σ H R I ⟨z, H0, ρ, r, (Run.bnd q).mono fun as H1 G1 ρ1 r1 s1 q1 vs hv => by
    obtain ⟨ds, e1, q2⟩ := Run.lift q1
    unfold zpS at e1
    split at e1
    · split at e1
      · rename_i d1 d2 _ _ es1 es2 ei1 ei2
        cases e1
        match vs, hv with
        | [v1, v2], .cons hv1 (.cons hv2 .nil) =>
          obtain ⟨a, us, t, ev, h1, h2⟩ := items_at ei1 hv1
          subst ev
          obtain ⟨b, ws, u, ev, g1, g2⟩ := items_at ei2 hv2
          subst ev
          refine ⟨a, b, t, u, us, ws, rfl, sqB_mono r1.sub h1, sqB_mono r1.sub g1, q2 H1 G1 r1 (Same.refl _) _ ⟨_, _, walk_zA (K := X.K) (a := a) (b := b) (t := t) (u := u) (by rw [zpL_len, h2.length, g2.length]), fun H s => ⟨sqB_mono s h1, sqB_mono s g1⟩, fun i v H H' d sm y hd => ?_⟩⟩
          obtain ⟨T, x, y', ev, hT, eH, ex, ey⟩ := y
          obtain ⟨dx, dy, h3, h4, h5⟩ := zpL_get hd
          obtain ⟨d', h6, h7⟩ := h2.getV ex
          obtain ⟨d'', h8, h9⟩ := g2.getV ey
          rw [h3] at h6; cases h6
          rw [h4] at h8; cases h8
          subst ev h5 eH
          exact ⟨.inr ⟨T, _, hT, rfl⟩, gt_pair upd_same h7 h9⟩
      · cases e1
    · cases e1⟩⟩
end
end Sv

set_option Elab.async false
set_option linter.all false
set_option maxRecDepth 100000
set_option maxHeartbeats 1000000
namespace L2
open PySem PySem.Spec PyProof.Rows
/-! ## max, min of a tuple -/
theorem val_int {ns : List Int} {its : List Value} (rv : Vals (ns.map V.int) its) {i : Nat} {v : Value} (e : its.toArray[i]? = some v) : ∃ t, v = .int (ns.getD i 0) t := by
  have e : its[i]? = some v := by simpa using e
  have hl : i < (ns.map V.int).length := by rw [rv.length]; exact (List.getElem?_eq_some_iff.mp e).1
  obtain ⟨u, h1, h2⟩ := rv.get (List.getElem?_eq_getElem hl)
  rw [e] at h1; cases h1
  obtain ⟨t, ht⟩ : ∃ t, v = .int ((ns.map V.int)[i] |> fun | .int k => k | _ => 0) t := by
    rw [List.getElem_map] at h2
    rw [List.getElem_map]
    exact h2
  rw [List.getElem_map] at ht
  rw [List.length_map] at hl
  exact ⟨t, by rw [ht, List.getD_eq_getElem?_getD, List.getElem?_eq_getElem hl]; rfl⟩
/-- the iterator that max and min make of a tuple -/
theorem tup_iter {X : Cx} {s : Shared} {a : Addr} {its : List Value} {Q : Value → Shared → Prop} {E : Value → Shared → Prop} (hl : s.heap.IsTuple a its.toArray)
    (h : ∀ s2 : Shared, s2 = { s with heap := s.heap.push { cls := .type "tuple_iterator", data := .fields #[.ref a, .int 0 0] } } → s2.heap.IsTupleIter s.heap.objs.size a 0 → s2.heap.IsTuple a its.toArray → (∀ b ∈ [s.heap.objs.size, a], b < s2.heap.objs.size) → a ≠ s.heap.objs.size →
      (∀ h' : Heap, (∀ b o, b ∉ [s.heap.objs.size] → s2.heap.get? b = some o → h'.get? b = some o) → ∀ b o, s.heap.get? b = some o → h'.get? b = some o) → Q (.ref s.heap.objs.size) s2) :
    wpAny (model X.prog X.w) X.A.in1 (pyIter (.ref a)) Q E s := by
  have al : a < s.heap.objs.size := let ⟨_, e, _⟩ := hl; Heap.lt_size e
  refine wpAny_pyIter_tuple hl (h _ rfl ⟨_, Heap.get?_push_size _ rfl, rfl, rfl⟩ (hl.at fun o q => Heap.get?_push_of_some _ q) (fun b hb => ?_) (Nat.ne_of_lt al) fun h' k b o e => k b o (fun z => ?_) (Heap.get?_push_of_some _ e))
  · have z : b = s.heap.objs.size ∨ b = a := by simpa using hb
    have : (s.heap.push { cls := .type "tuple_iterator", data := .fields #[.ref a, .int 0 0] }).objs.size = s.heap.objs.size + 1 := Heap.size_push _ _
    rcases z with z | z <;> (show b < (s.heap.push _).objs.size; rw [this, z]; first | exact Nat.lt_succ_self _ | exact Nat.lt_succ_of_lt al)
  · rw [List.mem_singleton] at z
    exact absurd (Heap.lt_size e) (by rw [z]; exact Nat.lt_irrefl _)
/-- max(xs), min(xs), xs a list or a tuple of ints -/
def rMaxB (K : PySem.W.Frag) : List V → Hp → VK → Prop := fun vs H Q => ∃ (a : Addr) (t : Bool) (ns : List Int), vs = [V.ref a] ∧ SqB K H t a (ns.map V.int) ∧ 0 < ns.length ∧ ∀ m, m ∈ ns → (∀ y, y ∈ ns → y ≤ m) → Q (.int m) H
def rMinB (K : PySem.W.Frag) : List V → Hp → VK → Prop := fun vs H Q => ∃ (a : Addr) (t : Bool) (ns : List Int), vs = [V.ref a] ∧ SqB K H t a (ns.map V.int) ∧ 0 < ns.length ∧ ∀ m, m ∈ ns → (∀ y, y ∈ ns → m ≤ y) → Q (.int m) H
theorem cr_maxB {X : Cx} (hc : X.calm = true) : CallR X (.builtin "max") (rMaxB X.K) := by
  intro pins s σ H vs us Q I r h
  obtain ⟨a, t, ns, rfl, hs, hne, q⟩ := h
  rw [Vals.ref1 r]
  cases t with
  | false =>
    obtain ⟨its, rv, hl, _⟩ := I.list hs
    exact max_raw (I.ok.hd hc) hl.isList rv.ints hne fun h' tk m t' hk h1 h2 => ⟨.int _, H, I.kept hk, ⟨_, rfl⟩, q m h1 h2⟩
  | true =>
    obtain ⟨its, rv, hl, _⟩ := I.tuple hs
    have hz : its.toArray.size = ns.length := by rw [List.size_toArray, ← rv.length, List.length_map]
    refine call_max_walk (tup_iter hl fun s2 e it ht fp na old => ⟨_, _, _, _, _, _, _, rfl, Walks.tuple (show X.A.in1.handled = none from I.ok.hd hc) _ a na its.toArray, ⟨it, ht⟩, fp, by rw [hz]; exact hne, CmpOf.ints_gt (fun i => ns.getD i 0) (fun i v => val_int rv), fun v h' tk hP hk => ?_⟩)
    subst e
    obtain ⟨t, rfl⟩ := val_int rv hP
    rw [hz] at hP ⊢
    obtain ⟨b1, b2⟩ := argBest_gt (fun i => ns.getD i 0) (ns.length - 1)
    refine ⟨.int _, H, I.kept (old h' hk), ⟨_, rfl⟩, q _ (by rw [List.getD_eq_getElem?_getD, List.getElem?_eq_getElem (by omega)]; exact List.getElem_mem _) fun y hy => ?_⟩
    obtain ⟨j, hj, rfl⟩ := List.getElem_of_mem hy
    have := b2 j (by omega)
    rwa [List.getD_eq_getElem?_getD (i := j), List.getElem?_eq_getElem hj] at this
theorem cr_minB {X : Cx} (hc : X.calm = true) : CallR X (.builtin "min") (rMinB X.K) := by
  intro pins s σ H vs us Q I r h
  obtain ⟨a, t, ns, rfl, hs, hne, q⟩ := h
  rw [Vals.ref1 r]
  cases t with
  | false =>
    obtain ⟨its, rv, hl, _⟩ := I.list hs
    exact min_raw (I.ok.hd hc) hl.isList rv.ints hne fun h' tk m t' hk h1 h2 => ⟨.int _, H, I.kept hk, ⟨_, rfl⟩, q m h1 h2⟩
  | true =>
    obtain ⟨its, rv, hl, _⟩ := I.tuple hs
    have hz : its.toArray.size = ns.length := by rw [List.size_toArray, ← rv.length, List.length_map]
    refine call_min_walk (tup_iter hl fun s2 e it ht fp na old => ⟨_, _, _, _, _, _, _, rfl, Walks.tuple (show X.A.in1.handled = none from I.ok.hd hc) _ a na its.toArray, ⟨it, ht⟩, fp, by rw [hz]; exact hne, CmpOf.ints_lt (fun i => ns.getD i 0) (fun i v => val_int rv), fun v h' tk hP hk => ?_⟩)
    subst e
    obtain ⟨t, rfl⟩ := val_int rv hP
    rw [hz] at hP ⊢
    obtain ⟨b1, b2⟩ := argBest_lt (fun i => ns.getD i 0) (ns.length - 1)
    refine ⟨.int _, H, I.kept (old h' hk), ⟨_, rfl⟩, q _ (by rw [List.getD_eq_getElem?_getD, List.getElem?_eq_getElem (by omega)]; exact List.getElem_mem _) fun y hy => ?_⟩
    obtain ⟨j, hj, rfl⟩ := List.getElem_of_mem hy
    have := b2 j (by omega)
    rwa [List.getD_eq_getElem?_getD (i := j), List.getElem?_eq_getElem hj] at this
end L2
namespace Sv
open PySem L2 PyProof.Rows
/-! ## ints of a list or tuple -/
def intsD : List Dat → Option (List Int)
  | [] => some []
  | .int i :: ds => match intsD ds with
    | some ns => some (i :: ns)
    | none => none
  | _ :: _ => none
theorem intsD_rep {K : PySem.W.Frag} {H : Hp} : ∀ {ds : List Dat} {ns : List Int} {vs : List V}, intsD ds = some ns → RepA K H vs ds → vs = ns.map V.int
  | [], _, _, e, .nil => by cases e; rfl
  | d :: ds, ns, _, e, .cons h1 h2 => by
    unfold intsD at e
    cases d with
    | int i =>
      dsimp only at e
      cases q : intsD ds with
      | none => rw [q] at e; cases e
      | some ms =>
        rw [q] at e; cases e
        cases h1
        rw [intsD_rep q h2]; rfl
    | _ => cases e
theorem intsD_len : ∀ {ds : List Dat} {ns : List Int}, intsD ds = some ns → ns.length = ds.length
  | [], _, e => by cases e; rfl
  | d :: ds, ns, e => by
    unfold intsD at e
    cases d with
    | int i =>
      dsimp only at e
      cases q : intsD ds with
      | none => rw [q] at e; cases e
      | some ms => rw [q] at e; cases e; rw [List.length_cons, List.length_cons, intsD_len q]
    | _ => cases e
def itemsI (d : Dat) : Option (List Int) := match items d with
  | some ds => intsD ds
  | none => none
theorem itemsI_at {K : PySem.W.Frag} {H : Hp} {d : Dat} {v : V} {ns : List Int} (h : itemsI d = some ns) (hv : Rep K H v d) : ∃ a t, v = .ref a ∧ SqB K H t a (ns.map V.int) := by
  unfold itemsI at h
  split at h
  · rename_i ds e
    obtain ⟨a, vs, t, h1, h2, h3⟩ := items_at e hv
    rw [intsD_rep h h3] at h2
    exact ⟨a, t, h1, h2⟩
  · cases h
def maxI : Int → List Int → Int
  | m, [] => m
  | m, n :: ns => maxI (if m < n then n else m) ns
def minI : Int → List Int → Int
  | m, [] => m
  | m, n :: ns => minI (if n < m then n else m) ns
theorem maxI_mem : ∀ (ns : List Int) (m : Int), maxI m ns = m ∨ maxI m ns ∈ ns
  | [], m => .inl rfl
  | n :: ns, m => by
    unfold maxI
    rcases maxI_mem ns (if m < n then n else m) with e | e
    · rw [e]
      by_cases h : m < n
      · rw [if_pos h]; exact .inr List.mem_cons_self
      · rw [if_neg h]; exact .inl rfl
    · exact .inr (List.mem_cons_of_mem _ e)
theorem maxI_ge : ∀ (ns : List Int) (m : Int), m ≤ maxI m ns ∧ ∀ n ∈ ns, n ≤ maxI m ns
  | [], m => ⟨Int.le_refl _, fun _ h => nomatch h⟩
  | n :: ns, m => by
    unfold maxI
    obtain ⟨h1, h2⟩ := maxI_ge ns (if m < n then n else m)
    have h3 : m ≤ (if m < n then n else m) ∧ n ≤ (if m < n then n else m) := by split <;> omega
    refine ⟨by omega, fun x hx => ?_⟩
    rcases List.mem_cons.mp hx with e | e
    · omega
    · exact h2 x e
theorem minI_mem : ∀ (ns : List Int) (m : Int), minI m ns = m ∨ minI m ns ∈ ns
  | [], m => .inl rfl
  | n :: ns, m => by
    unfold minI
    rcases minI_mem ns (if n < m then n else m) with e | e
    · rw [e]
      by_cases h : n < m
      · rw [if_pos h]; exact .inr List.mem_cons_self
      · rw [if_neg h]; exact .inl rfl
    · exact .inr (List.mem_cons_of_mem _ e)
theorem minI_le : ∀ (ns : List Int) (m : Int), minI m ns ≤ m ∧ ∀ n ∈ ns, minI m ns ≤ n
  | [], m => ⟨Int.le_refl _, fun _ h => nomatch h⟩
  | n :: ns, m => by
    unfold minI
    obtain ⟨h1, h2⟩ := minI_le ns (if n < m then n else m)
    have h3 : (if n < m then n else m) ≤ m ∧ (if n < m then n else m) ≤ n := by split <;> omega
    refine ⟨by omega, fun x hx => ?_⟩
    rcases List.mem_cons.mp hx with e | e
    · omega
    · exact h2 x e
def max1D : List Dat → Option Dat
  | [d] => match itemsI d with
    | some (n :: ns) => some (.int (maxI n ns))
    | _ => none
  | _ => none
def min1D : List Dat → Option Dat
  | [d] => match itemsI d with
    | some (n :: ns) => some (.int (minI n ns))
    | _ => none
  | _ => none
section
variable {X : Cx} {W : WX} {e a b : Expr} {f g : M Dat} {ga fn : M (List Dat)} {pos pos' p p2 tpos : Pos}
theorem de_max1 (hc : X.calm = true) (hg : Gl X "max") (hm : X.mg "max" = none) (ha : DA X W [e] ga) (he : starEach [e] X.env = (false, eval e X.env) :: starEach [] X.env := by rfl) : DE X W (.Call (.Name "max" p) [e] [] pos) (ga.bi max1D) :=
  de_callB (cr_maxB hc) (fun H H0 xs ds dz Q s hx e q => by
    unfold max1D at e
    split at e
    · split at e
      · rename_i d n ns ei
        cases e
        match xs, hx with
        | [v], .cons hv .nil =>
          obtain ⟨a, t, ev, h1⟩ := itemsI_at ei hv
          subst ev
          refine ⟨a, t, n :: ns, rfl, sqB_mono s h1, Nat.succ_pos _, fun m m1 m2 => ?_⟩
          have e : m = maxI n ns := by
            obtain ⟨g1, g2⟩ := maxI_ge ns n
            have h2 : maxI n ns ≤ m := by
              rcases maxI_mem ns n with e | e
              · rw [e]; exact m2 n List.mem_cons_self
              · exact m2 _ (List.mem_cons_of_mem _ e)
            rcases List.mem_cons.mp m1 with e | e
            · omega
            · have := g2 m e; omega
          rw [e]
          exact q _ H H0 (Grow.refl s) (.int _)
      · cases e
    · cases e) hg hm (by decide +kernel) ha (by decide) (by decide) he
theorem de_min1 (hc : X.calm = true) (hg : Gl X "min") (hm : X.mg "min" = none) (ha : DA X W [e] ga) (he : starEach [e] X.env = (false, eval e X.env) :: starEach [] X.env := by rfl) : DE X W (.Call (.Name "min" p) [e] [] pos) (ga.bi min1D) :=
  de_callB (cr_minB hc) (fun H H0 xs ds dz Q s hx e q => by
    unfold min1D at e
    split at e
    · split at e
      · rename_i d n ns ei
        cases e
        match xs, hx with
        | [v], .cons hv .nil =>
          obtain ⟨a, t, ev, h1⟩ := itemsI_at ei hv
          subst ev
          refine ⟨a, t, n :: ns, rfl, sqB_mono s h1, Nat.succ_pos _, fun m m1 m2 => ?_⟩
          have e : m = minI n ns := by
            obtain ⟨g1, g2⟩ := minI_le ns n
            have h2 : m ≤ minI n ns := by
              rcases minI_mem ns n with e | e
              · rw [e]; exact m2 n List.mem_cons_self
              · exact m2 _ (List.mem_cons_of_mem _ e)
            rcases List.mem_cons.mp m1 with e | e
            · omega
            · have := g2 m e; omega
          rw [e]
          exact q _ H H0 (Grow.refl s) (.int _)
      · cases e
    · cases e) hg hm (by decide +kernel) ha (by decide) (by decide) he
/-! ### isinstance(x, (T, U)) -/
def isi2D (tb tc : String → Bool) (d : Dat) : Option Dat := if isIns d = true then none else some (.bl (tb (tyN d) || tc (tyN d)))
theorem de_isi2 {T U : String} {x y : Str} {pn pm tp : Pos} {k} (tb tc : String → Bool) (ht : isTab T tb = true) (hu : isTab U tc = true) (hg : Gl X "isinstance") (hm : X.mg "isinstance" = none) (hg2 : Gl X x) (hm2 : X.mg x = none) (hv2 : bootBuiltins x = some (.type T)) (hg3 : Gl X y) (hm3 : X.mg y = none) (hv3 : bootBuiltins y = some (.type U)) (ha : DE X W a f)
    (hn2 : x ≠ "__name__" := by decide) (hd2 : (x == ("__debug__" : Str)) = false := by decide) (hn3 : y ≠ "__name__" := by decide) (hd3 : (y == ("__debug__" : Str)) = false := by decide)
    (hs1 : starEach [a, .Tuple [.Name x pn, .Name y pm] k tp] X.env = (false, eval a X.env) :: starEach [.Tuple [.Name x pn, .Name y pm] k tp] X.env := by rfl) (hs2 : starEach [.Tuple [.Name x pn, .Name y pm] k tp] X.env = (false, eval (.Tuple [.Name x pn, .Name y pm] k tp) X.env) :: starEach [] X.env := by rfl)
    (hs3 : starEach [.Name x pn, .Name y pm] X.env = (false, eval (.Name x pn) X.env) :: starEach [.Name y pm] X.env := by rfl) (hs4 : starEach [.Name y pm] X.env = (false, eval (.Name y pm) X.env) :: starEach [] X.env := by rfl)
    (hpl : (backTo pos (starEach [.Tuple [.Name x pn, .Name y pm] k tp] X.env)).any (·.1) = false := by rfl) :
    DE X W (.Call (.Name "isinstance" p) [a, .Tuple [.Name x pn, .Name y pm] k tp] [] pos) (f.un1 (isi2D tb tc)) :=
  PE.imp (pe_callB call_isiT hg hm (by decide +kernel) (pa_cons ha (pa_cons (pe_tup (pa_cons (pe_bltn (v := .ty T) hg2 hm2 hv2 rfl hn2 hd2) (pa_cons (pe_bltn (v := .ty U) hg3 hm3 hv3 rfl hn3 hd3) pa_nil hs4) hs3)) pa_nil hs2) hs1) (by decide) (by decide) hs1 hpl) fun σ H Q ⟨z, H0, ρ, r, q⟩ => part r q fun d v H1 G1 ρ1 r1 s1 hv q1 => by
    obtain ⟨dz, e, q2⟩ := Run.lift q1
    unfold isi2D at e
    cases hi : isIns d with
    | true => rw [hi, if_pos rfl] at e; cases e
    | false =>
    rw [hi, if_neg Bool.false_ne_true] at e
    cases e
    have hk : kitB (tyN d) T = some (tb (tyN d)) := of_decide_eq_true (List.all_eq_true.mp ht _ (tyN_mem d))
    have hk2 : kitB (tyN d) U = some (tc (tyN d)) := of_decide_eq_true (List.all_eq_true.mp hu _ (tyN_mem d))
    refine ⟨by show 2 ≤ sizeLine; decide, fun tp hp => ?_⟩
    have r2 : Rel X.K z σ (upd H1 tp (.tup [.ty T, .ty U])) G1 ρ1 := r1.new' _ hp
    refine ⟨v, tp, _, _, _, (tb (tyN d) || tc (tyN d)), rfl, upd_same, .cons (.ty T) (.cons (.ty U) .nil), tyX_rep r2.sub hi hv, ?_, q2 _ G1 r2 (Same.refl _) _ (.bl _)⟩
    exact kitAny_cons (kit_ty hk) (fun h => kitAny_cons (r := tb (tyN d) || tc (tyN d)) (kit_ty hk2) (fun h2 => by rw [h, h2]; exact kitAny_nil) (fun h2 => by rw [h2, Bool.or_true])) (fun h => by rw [h, Bool.true_or])
/-! ### not in -/
def notinD (d e : Dat) : Option Dat := match inD d e with
  | some (.bl b) => some (.bl (!b))
  | _ => none
theorem cs_notin : CmpS X .NotIn notinD := ⟨_, op_notIn_seq, (fun H H0 x y dx dy dz Q s hx hy e q => by
  unfold notinD inD at e
  cases ei : items dy with
  | none => rw [ei] at e; cases e
  | some ds =>
    rw [ei] at e
    dsimp only at e
    by_cases h : flatD dx = true ∧ ds.all flatD = true
    · rw [if_pos h] at e
      cases e
      obtain ⟨a, vs, t, ev, h1, h2⟩ := items_at ei hy
      subst ev
      refine ⟨a, vs, rfl, ?_, (flat_rep hx).trans h.1, (flat_all h2).trans h.2, ?_⟩
      · cases t with
        | true => exact .inr (sameT s h1)
        | false => exact .inl (sameL s h1)
      · rw [if_pos rfl]
        unfold inV
        rw [in_rep hx h2]
        exact q _ H H0 (Grow.refl s) (.bl _)
    · rw [if_neg h] at e; cases e)⟩
theorem dt_notin (ha : DE X W a f) (hb : DE X W b g) (hm : behindInMarks .NotIn b = false := by rfl) : DT X W (.Compare a [.NotIn] [b] pos) (M.isB (f.bin g notinD)) := dt_cmpS cs_notin ha hb hm
theorem de_notin (ha : DE X W a f) (hb : DE X W b g) (hm : behindInMarks .NotIn b = false := by rfl) : DE X W (.Compare a [.NotIn] [b] pos) (f.bin g notinD) := by
  obtain ⟨r, ho, hs⟩ := cs_notin (X := X)
  exact de_cmp ho hs ha hb hm
end
end Sv

set_option Elab.async false
set_option linter.all false
set_option maxRecDepth 100000
set_option maxHeartbeats 1000000
namespace Sv
open PySem L2 PyProof.Rows
/-! ## sets of ints that are counted or sorted at once -/
def nubI : List Int → List Int
  | [] => []
  | n :: ns => if (nubI ns).any (· == n) = true then nubI ns else n :: nubI ns
theorem mem_nub : ∀ {ns : List Int} {k : Int}, k ∈ nubI ns ↔ k ∈ ns
  | [], k => Iff.rfl
  | n :: ns, k => by
    unfold nubI
    split
    · rename_i h
      obtain ⟨y, hy, e⟩ := List.any_eq_true.mp h
      have e : y = n := by simpa using e
      subst e
      rw [List.mem_cons, mem_nub]
      exact ⟨fun h => .inr h, fun h => h.elim (fun e => e ▸ mem_nub.mp hy) id⟩
    · rw [List.mem_cons, List.mem_cons, mem_nub]
theorem nub_nodup : ∀ {ns : List Int}, (nubI ns).Nodup
  | [] => List.nodup_nil
  | n :: ns => by
    unfold nubI
    split
    · exact nub_nodup
    · rename_i h
      refine List.nodup_cons.mpr ⟨fun hm => h (List.any_eq_true.mpr ⟨n, hm, by simp⟩), nub_nodup⟩
theorem nub_len : ∀ {ns : List Int}, (nubI ns).length ≤ ns.length
  | [] => Nat.le_refl _
  | n :: ns => by
    unfold nubI
    have := nub_len (ns := ns)
    split
    · rw [List.length_cons]; omega
    · rw [List.length_cons, List.length_cons]; omega
theorem same_len {xs ys : List Int} (h1 : xs.Nodup) (h2 : ys.Nodup) (h : ∀ k, k ∈ xs ↔ k ∈ ys) : xs.length = ys.length := ((List.perm_ext_iff_of_nodup h1 h2).mpr h).length_eq
theorem firstMet_nodup (val : Nat → Int) : ∀ i, (firstMet val i).Nodup
  | 0 => List.nodup_nil
  | i + 1 => by
    rw [firstMet_succ]
    unfold step_dedup
    split
    · exact firstMet_nodup val i
    · rename_i h
      refine List.nodup_append.mpr ⟨firstMet_nodup val i, List.nodup_cons.mpr ⟨(fun z => nomatch z), List.nodup_nil⟩, fun a ha b hb => ?_⟩
      rw [List.mem_singleton] at hb
      subst hb
      intro e
      subst e
      exact h (List.any_eq_true.mpr ⟨_, ha, by simp⟩)
theorem firstMet_mem {ns : List Int} {k : Int} : k ∈ firstMet (fun i => ns.getD i 0) ns.length ↔ k ∈ ns := by
  have h := firstMet_any (fun i => ns.getD i 0) ns.length k
  have e : (List.range ns.length).map (fun i => ns.getD i 0) = ns := by
    apply List.ext_getElem
    · rw [List.length_map, List.length_range]
    · intro i h1 h2
      rw [List.getElem_map, List.getElem_range, List.getD_eq_getElem?_getD, List.getElem?_eq_getElem h2]
      rfl
  rw [e] at h
  have m : ∀ l : List Int, (l.any (· == k)) = true ↔ k ∈ l := fun l => by
    rw [List.any_eq_true]
    exact ⟨fun ⟨y, hy, e⟩ => by
      have e : y = k := by simpa using e
      exact e ▸ hy, fun hk => ⟨k, hk, by simp⟩⟩
  rw [← m, ← m, h]
def tLenSetB (K : PySem.W.Frag) (ta : TE) : TE := fun σ H Q => ta σ H fun x H1 => ∃ (l : Addr) (t : Bool) (ns : List Int), x = .ref l ∧ SqB K H1 t l (ns.map V.int) ∧ ns.length ≤ 4000 ∧ Q (.int ((nubI ns).length : Nat)) H1
section
variable {X : Cx} {a : Expr} {ta : TE} {p p2 q pos : Pos}
theorem pe_lenSetB (hg : Gl X "len") (hm : X.mg "len" = none) (hg2 : Gl X "set") (hm2 : X.mg "set" = none) (ha : PE X a ta) (hc : X.calm = true) (na : starEach [a] X.env = (false, eval a X.env) :: starEach [] X.env) :
    PE X (.Call (.Name "len" p) [.Call (.Name "set" p2) [a] [] q] [] pos) (tLenSetB X.K ta) :=
  ⟨fun pins s σ H Q I h => by
    refine Call_ (ld_blt I hg hm boot_len (callWith_builtin1 (args_cons (Call_ (ld_blt I hg2 hm2 boot_set (callWith_type1 (args_cons (thn (ha.run pins s σ H _ I h) fun v s1 ⟨x, H1, I1, r1, l, t, ns, ex, hq, hl, q1⟩ => args_nil ?_) na) na rfl))) rfl) rfl rfl))
    subst ex
    cases r1
    have hh := I1.ok.hd hc
    have le : (nubI ns).length ≤ ns.length := nub_len
    cases t with
    | false =>
      obtain ⟨its, rv, pl, _⟩ := I1.list hq
      have hz : its.toArray.size = ns.length := by rw [List.size_toArray, ← rv.length, List.length_map]
      refine call_set_list hh pl.isList (ns := ns) (by simpa using rv.ints) (by rw [hz]; unfold scanBound; omega) fun h' tk ⟨o, es, ep, tb, ho, hex, hd, _, _, _, hf, hn⟩ hk => args_nil ?_
      have I2 : Inv X pins σ H1 { s1 with heap := h', toks := tk } := I1.kept fun b o e => hk b o (Heap.lt_size e) e
      have en : es.size = (nubI ns).length := by
        rw [hn, hz]
        exact same_len (firstMet_nodup _ _) nub_nodup fun k => firstMet_mem.trans mem_nub.symm
      exact call_len_set ho hex hd hf (by rw [en]; omega) ⟨.int _, H1, I2.tok _, ⟨_, by rw [en]⟩, q1⟩
    | true =>
      obtain ⟨its, rv, pt, _⟩ := I1.tuple hq
      refine call_set_tupI ns hh (show s1.heap.IsTuple l its.toArray from pt) (by simpa using rv.ints) (by unfold scanBound; omega) fun h' tk c ⟨o, es, ep, tb, ho, hex, hd, _, nd, hm2, _, hf, hn, _, _⟩ _ hk => args_nil ?_
      have I2 : Inv X pins σ H1 { s1 with heap := h', toks := tk } := I1.kept hk
      have en : es.size = (nubI ns).length := by
        have e := same_len nd (nub_nodup (ns := ns)) fun k => ((hm2 k).symm.trans decide_eq_true_iff).trans mem_nub.symm
        rwa [List.length_map, Array.length_toList] at e
      exact call_len_set ho hex hd hf (by rw [en]; omega) ⟨.int _, H1, I2.tok _, ⟨_, by rw [en]⟩, q1⟩⟩
end
/-! ### sorted(set(x)), x a tuple -/
def insI (k : Int) : List Int → List Int
  | [] => [k]
  | n :: ns => if k < n then k :: n :: ns else if k = n then n :: ns else n :: insI k ns
def srtI : List Int → List Int
  | [] => []
  | n :: ns => insI n (srtI ns)
theorem mem_ins {k : Int} : ∀ {ns : List Int} {j : Int}, j ∈ insI k ns ↔ j = k ∨ j ∈ ns
  | [], j => by unfold insI; simp
  | n :: ns, j => by
    unfold insI
    split
    · rw [List.mem_cons]
    · split
      · rename_i e
        rw [List.mem_cons, e]
        exact ⟨fun h => .inr h, fun h => h.elim .inl id⟩
      · rw [List.mem_cons, mem_ins, List.mem_cons]
        exact ⟨fun h => h.elim (fun e => .inr (.inl e)) fun h => h.elim .inl fun h => .inr (.inr h), fun h => h.elim (fun e => .inr (.inl e)) fun h => h.elim .inl fun h => .inr (.inr h)⟩
theorem mem_srt : ∀ {ns : List Int} {k : Int}, k ∈ srtI ns ↔ k ∈ ns
  | [], _ => Iff.rfl
  | n :: ns, k => by unfold srtI; rw [mem_ins, mem_srt, List.mem_cons]
theorem ins_pw {k : Int} : ∀ {ns : List Int}, ns.Pairwise (· < ·) → (insI k ns).Pairwise (· < ·)
  | [], _ => List.pairwise_singleton _ _
  | n :: ns, h => by
    obtain ⟨h1, h2⟩ := List.pairwise_cons.mp h
    unfold insI
    split
    · rename_i kn
      refine List.pairwise_cons.mpr ⟨fun j hj => ?_, h⟩
      rcases List.mem_cons.mp hj with e | e
      · rw [e]; exact kn
      · exact Int.lt_trans kn (h1 j e)
    · split
      · exact h
      · rename_i a b
        refine List.pairwise_cons.mpr ⟨fun j hj => ?_, ins_pw h2⟩
        rcases mem_ins.mp hj with e | e
        · omega
        · exact h1 j e
theorem srt_pw : ∀ {ns : List Int}, (srtI ns).Pairwise (· < ·)
  | [] => List.Pairwise.nil
  | n :: ns => by unfold srtI; exact ins_pw srt_pw
theorem pw_unique : ∀ {xs ys : List Int}, xs.Pairwise (· < ·) → ys.Pairwise (· < ·) → (∀ k, k ∈ xs ↔ k ∈ ys) → xs = ys
  | [], [], _, _, _ => rfl
  | [], y :: ys, _, _, h => absurd ((h y).mpr List.mem_cons_self) (fun z => nomatch z)
  | x :: xs, [], _, _, h => absurd ((h x).mp List.mem_cons_self) (fun z => nomatch z)
  | x :: xs, y :: ys, h1, h2, h => by
    obtain ⟨a1, a2⟩ := List.pairwise_cons.mp h1
    obtain ⟨b1, b2⟩ := List.pairwise_cons.mp h2
    have e : x = y := by
      rcases List.mem_cons.mp ((h x).mp List.mem_cons_self) with e | e
      · exact e
      · rcases List.mem_cons.mp ((h y).mpr List.mem_cons_self) with e' | e'
        · exact e'.symm
        · have := a1 y e'; have := b1 x e; omega
    subst e
    rw [pw_unique a2 b2 fun k => ⟨fun hk => ?_, fun hk => ?_⟩]
    · rcases List.mem_cons.mp ((h k).mp (List.mem_cons_of_mem _ hk)) with e | e
      · have := a1 k hk; omega
      · exact e
    · rcases List.mem_cons.mp ((h k).mpr (List.mem_cons_of_mem _ hk)) with e | e
      · have := b1 k hk; omega
      · exact e
def tSortSet (K : PySem.W.Frag) (ta : TE) : TE := fun σ H Q => ta σ H fun x H1 => ∃ (l : Addr) (ns : List Int), x = .ref l ∧ SqT K H1 l (ns.map V.int) ∧ ns.length < 64 ∧ ∀ p, H1 p = none → Q (.ref p) (upd H1 p (.lst ((srtI ns).map V.int)))
section
variable {X : Cx} {W : WX} {a e b : Expr} {ta : TE} {p p2 q pos p3 : Pos} {f g : M Dat} {fn ga : M (List Dat)}
theorem pe_sortedSet (hg : Gl X "sorted") (hm : X.mg "sorted" = none) (hg2 : Gl X "set") (hm2 : X.mg "set" = none) (ha : PE X a ta) (hc : X.calm = true) (na : starEach [a] X.env = (false, eval a X.env) :: starEach [] X.env) :
    PE X (.Call (.Name "sorted" p) [.Call (.Name "set" p2) [a] [] q] [] pos) (tSortSet X.K ta) :=
  ⟨fun pins s σ H Q I h => by
    refine Call_ (ld_blt I hg hm boot_sorted (callWith_builtin1 (args_cons (Call_ (ld_blt I hg2 hm2 boot_set (callWith_type1 (args_cons (thn (ha.run pins s σ H _ I h) fun v s1 ⟨x, H1, I1, r1, l, ns, ex, hq, hl, q1⟩ => args_nil ?_) na) na rfl))) rfl) rfl rfl))
    subst ex
    cases r1
    have hh := I1.ok.hd hc
    obtain ⟨its, rv, pt, _⟩ := I1.tuple hq
    refine call_set_tupI ns hh (show s1.heap.IsTuple l its.toArray from pt) (by simpa using rv.ints) (by unfold scanBound; omega) fun h' tk c R hc' hk => args_nil ?_
    have I2 : Inv X pins σ H1 { s1 with heap := h', toks := tk } := I1.kept hk
    refine sorted_set R hh (by omega) fun s' p out c ms k g o hp hg hi hs hmem hlen => ?_
    obtain rfl : ms = srtI ns := pw_unique hs srt_pw fun j => ((hmem j).trans decide_eq_true_iff).trans mem_srt.symm
    have hn : H1 p = none := I2.hok.fresh hp
    have hz : ((srtI ns).map V.int).length ≤ sizeLine := by rw [List.length_map, hlen, sizeLine_eq]; omega
    have J : Inv X pins σ (upd H1 p (.lst ((srtI ns).map V.int))) { ({ s1 with heap := h', toks := tk } : Shared) with heap := s'.heap, gens := s'.gens, drawn := s'.drawn, toks := s'.toks } :=
      I2.call (ch := []) (Un.laid k hp hn) (I2.hok.laid k hp ⟨hz, out.toList, c, vals_of_ints hi, hg⟩) (by rw [g]; exact I2.bare) (fun _ z => nomatch z)
    have e : s' = { ({ s1 with heap := h', toks := tk } : Shared) with heap := s'.heap, gens := s'.gens, drawn := s'.drawn, toks := s'.toks } := by
      cases s'; cases s1; cases o; rfl
    rw [e]
    exact ⟨.ref p, _, J, rfl, q1 p hn⟩⟩
end
end Sv

set_option Elab.async false
set_option linter.all false
set_option maxRecDepth 100000
set_option maxHeartbeats 1000000
namespace Sv
open PySem L2 PyProof.Rows
section
variable {X : Cx} {W : WX} {a e b : Expr} {p p2 q pos p3 : Pos} {f g : M Dat} {fn ga : M (List Dat)}
/-! ## new lists -/
theorem newAt_upd {K : PySem.W.Frag} {x : Fx} {σ : L2.St} {H H0 : Hp} {ρ : En} {p : Addr} {vs : List V} {ds : List Dat} (r : Rel K x σ H H0 ρ) (hp : H p = none) (h : RepA K H0 vs ds) : Rel K x σ (upd H p (.lst vs)) H0 ρ ∧ NewAt K x σ (upd H p (.lst vs)) H0 ρ p ds :=
  ⟨r.new' _ hp, (r.fresh hp).1, (r.fresh hp).2, r.notat hp, r.nors hp, vs, upd_same, h⟩
def M.un1L (f : M Dat) (op : Dat → Option (List Dat)) : M (List Dat) := f.bnd fun x => M.lift (op x)
def M.binL (f g : M Dat) (op : Dat → Dat → Option (List Dat)) : M (List Dat) := f.bnd fun x => g.bnd fun y => M.lift (op x y)
/-- list(e) of a list or a tuple -/
def listD : List Dat → Option (List Dat)
  | [d] => items d
  | _ => none
theorem pe_callTy1 {r : List V → Hp → VK → Prop} {x T : Str} {T' : String} {t : TA} (hc : CallR X (.type T') r) (hg : Gl X x) (hm : X.mg x = none) (hv : bootBuiltins x = some (.type T')) (ha : PA X (e :: []) t) (hn : x ≠ "__name__" := by decide) (hdb : (x == ("__debug__" : Str)) = false := by decide)
    (he : starEach (e :: []) X.env = (false, eval e X.env) :: starEach [] X.env) : PE X (.Call (.Name x p) [e] [] pos) (tCB r t) := pe_callTy hc hg hm hv ha hn hdb he
theorem dn_list (hg : Gl X "list") (hm : X.mg "list" = none) (ha : DA X W [e] ga) (he : starEach [e] X.env = (false, eval e X.env) :: starEach [] X.env := by rfl) : DN X W (.Call (.Name "list" p) [e] [] pos) (ga.bl listD) :=
  PE.imp (pe_callTy call_list_of hg hm (by decide +kernel) ha (by decide) (by decide) he) fun σ H Q ⟨z, H0, ρ, r, q⟩ => partA r q fun ds vs H1 G1 ρ1 r1 s1 hx q1 => by
    obtain ⟨es, e1, q2⟩ := Run.lift q1
    unfold listD at e1
    split at e1
    · match vs, hx with
      | [v], .cons hv .nil =>
        obtain ⟨a, us, t, ev, h1, h2⟩ := items_at e1 hv
        subst ev
        refine ⟨a, us, rfl, ?_, fun l hl => ?_⟩
        · cases t with
          | false => exact .inl (sameL r1.sub h1)
          | true => exact .inr (sameT r1.sub h1)
        · obtain ⟨r2, n⟩ := newAt_upd r1 hl h2
          exact q2 _ G1 r2 (Same.refl _) l n
    · cases e1
/-- list(range(e)) -/
def lrgD : Dat → Option (List Dat)
  | .int n => if n ≤ 1000 ∧ 0 ≤ n then some (rgL 0 n.toNat) else none
  | _ => none
theorem dn_listRg (hc : X.calm = true) (hg : Gl X "list") (hm : X.mg "list" = none) (hg2 : Gl X "range") (hm2 : X.mg "range" = none) (ha : DE X W a f) (na : starEach [a] X.env = (false, eval a X.env) :: starEach [] X.env := by rfl)
    (na2 : starEach [.Call (.Name "range" p2) [a] [] q] X.env = (false, eval (.Call (.Name "range" p2) [a] [] q) X.env) :: starEach [] X.env := by rfl) : DN X W (.Call (.Name "list" p) [.Call (.Name "range" p2) [a] [] q] [] pos) (f.un1L lrgD) :=
  PE.imp (pe_listRg hc hg hm (prg_1 hg2 hm2 ha na) na2) fun σ H Q ⟨z, H0, ρ, r, q⟩ => part r q fun d v H1 G1 ρ1 r1 s1 hv q1 => by
    obtain ⟨es, e1, q2⟩ := Run.lift q1
    unfold lrgD at e1
    split at e1
    · rename_i n
      split at e1
      · rename_i hn
        cases e1
        cases hv
        refine ⟨n, rfl, ⟨by omega, by omega, by omega, by omega, by omega⟩, fun l hl => ?_⟩
        have rp : RepA X.K G1 (rgV 0 n) (rgL 0 n.toNat) := RepA.of_get (by rw [rgV_length, rgL_len]; congr 1; omega) fun i v d h1 h2 => by
          have hi : i < n.toNat := by
            have := (List.getElem?_eq_some_iff.mp h2).1
            rwa [rgL_len] at this
          rw [rgL_get hi] at h2
          cases h2
          have h1 : (rgV 0 n)[i]? = some (V.int (0 + (i : Nat))) := by
            unfold rgV
            rw [List.getElem?_map, List.getElem?_range (by omega)]; rfl
          rename_i h1'
          rw [h1] at h1'
          cases h1'
          exact .int _
        obtain ⟨r2, n2⟩ := newAt_upd r1 hl rp
        exact q2 _ G1 r2 (Same.refl _) l n2
      · cases e1
    · cases e1
/-- a new list + lists -/
def catD : Dat → Dat → Option (List Dat)
  | .lst xs, .lst ys => if xs.length + ys.length ≤ 1000000 then some (xs ++ ys) else none
  | _, _ => none
theorem dn_add (ha : DE X W a f) (hb : DE X W b g) : DN X W (.BinOp a .Add b pos) (f.binL g catD) :=
  PE.imp (pe_op op_catR ha hb) fun σ H Q ⟨z, H0, ρ, r, q⟩ => part r q fun d v H1 G1 ρ1 r1 s1 hv q1 => part r1 q1 fun d2 v2 H2 G2 ρ2 r2 s2 hv2 q2 => by
    obtain ⟨es, e1, q3⟩ := Run.lift q2
    unfold catD at e1
    split at e1
    · split at e1
      · rename_i xs ys hl
        cases e1
        cases hv with
        | @lst a us _ h1 h2 =>
          cases hv2 with
          | @lst b ws _ g1 g2 =>
            refine ⟨a, b, us, ws, rfl, rfl, sameRd (s2.trans r2.sub) h1, sameRd r2.sub g1, by rw [h2.length, g2.length]; exact sz hl, fun l hl => ?_⟩
            obtain ⟨r3, n⟩ := newAt_upd r2 hl ((h2.mono s2).app g2)
            exact q3 _ G2 r3 (Same.refl _) l n
      · cases e1
    · cases e1
/-- a new list * k -/
theorem RepA.flat {K : PySem.W.Frag} {H : Hp} {vs : List V} {ds : List Dat} (h : RepA K H vs ds) : ∀ k : Nat, RepA K H (List.replicate k vs).flatten (List.replicate k ds).flatten
  | 0 => .nil
  | k + 1 => by
    rw [List.replicate_succ, List.replicate_succ, List.flatten_cons, List.flatten_cons]
    exact h.app (h.flat k)
def repL (k : Int) (ds : List Dat) : M (List Dat) := M.lift (if 0 ≤ k ∧ k ≤ 1000 ∧ ds.length ≤ 1000 then some (List.replicate k.toNat ds).flatten else none)
theorem dn_rep {k : Int} {j} (ha : DN X W a fn) : DN X W (.BinOp a .Mult (.Constant (.int k) j p2) pos) (fn.bnd (repL k)) :=
  PE.imp (pe_op op_rep ha pe_int) fun σ H Q ⟨z, H0, ρ, r, q⟩ => ⟨z, H0, ρ, r, (Run.bnd q).mono fun ds H1 G1 ρ1 r1 s1 q1 l n => by
    obtain ⟨es, e1, q2⟩ := Run.lift q1
    split at e1
    · rename_i hk
      cases e1
      obtain ⟨us, h1, h2⟩ := n.at'
      have hz : us.length * k.toNat ≤ sizeLine := by
        have a1 : us.length * k.toNat ≤ 1000 * 1000 := Nat.mul_le_mul (by rw [h2.length]; exact hk.2.2) (by omega)
        exact Nat.le_trans a1 (sz (by decide))
      refine ⟨l, k, us, rfl, rfl, h1, by omega, by omega, hz, fun l2 hl2 => ?_⟩
      obtain ⟨r3, n3⟩ := newAt_upd r1 hl2 (h2.flat k.toNat)
      exact q2 _ G1 r3 (Same.refl _) l2 n3
    · cases e1⟩
/-! ### len(set(e)), sorted(set(e)) -/
def lenSetD (d : Dat) : Option Dat := match itemsI d with
  | some ns => if ns.length ≤ 4000 then some (.int ((nubI ns).length : Nat)) else none
  | none => none
theorem de_lenSet (hc : X.calm = true) (hg : Gl X "len") (hm : X.mg "len" = none) (hg2 : Gl X "set") (hm2 : X.mg "set" = none) (ha : DE X W a f) (na : starEach [a] X.env = (false, eval a X.env) :: starEach [] X.env := by rfl) :
    DE X W (.Call (.Name "len" p) [.Call (.Name "set" p2) [a] [] q] [] pos) (f.un1 lenSetD) :=
  PE.imp (pe_lenSetB hg hm hg2 hm2 ha hc na) fun σ H Q ⟨z, H0, ρ, r, q⟩ => part r q fun d v H1 G1 ρ1 r1 s1 hv q1 => by
    obtain ⟨dz, e1, q2⟩ := Run.lift q1
    unfold lenSetD at e1
    split at e1
    · rename_i ns ei
      split at e1
      · rename_i hl
        cases e1
        obtain ⟨a, t, ev, h1⟩ := itemsI_at ei hv
        exact ⟨a, t, ns, ev, sqB_mono r1.sub h1, hl, q2 H1 G1 r1 (Same.refl _) _ (.int _)⟩
      · cases e1
    · cases e1
def sortSetD : Dat → Option (List Dat)
  | .tup ds => match intsD ds with
    | some ns => if ns.length < 64 then some ((srtI ns).map .int) else none
    | none => none
  | _ => none
theorem rep_intL {K : PySem.W.Frag} {H : Hp} : ∀ ns : List Int, RepA K H (ns.map V.int) (ns.map Dat.int)
  | [] => .nil
  | n :: ns => .cons (.int n) (rep_intL ns)
theorem dn_sortSet (hc : X.calm = true) (hg : Gl X "sorted") (hm : X.mg "sorted" = none) (hg2 : Gl X "set") (hm2 : X.mg "set" = none) (ha : DE X W a f) (na : starEach [a] X.env = (false, eval a X.env) :: starEach [] X.env := by rfl) :
    DN X W (.Call (.Name "sorted" p) [.Call (.Name "set" p2) [a] [] q] [] pos) (f.un1L sortSetD) :=
  PE.imp (pe_sortedSet hg hm hg2 hm2 ha hc na) fun σ H Q ⟨z, H0, ρ, r, q⟩ => part r q fun d v H1 G1 ρ1 r1 s1 hv q1 => by
    obtain ⟨dz, e1, q2⟩ := Run.lift q1
    unfold sortSetD at e1
    split at e1
    · split at e1
      · rename_i ds ns ei
        split at e1
        · rename_i hl
          cases e1
          cases hv with
          | @tup a vs _ h1 h2 =>
            have h1 := h1.sq
            rw [intsD_rep ei h2] at h1
            refine ⟨a, ns, rfl, sameT r1.sub h1, hl, fun l hl2 => ?_⟩
            obtain ⟨r2, n⟩ := newAt_upd r1 hl2 (rep_intL (K := X.K) (H := G1) (srtI ns))
            exact q2 _ G1 r2 (Same.refl _) l n
        · cases e1
      · cases e1
    · cases e1
end
end Sv

set_option Elab.async false
set_option linter.all false
set_option maxRecDepth 100000
set_option maxHeartbeats 1000000
namespace Sv
open PySem L2 PyProof.Rows
section
variable {P : Program} {w : World} {K : PySem.W.Frag} {mg : Str → Option Value} {base : Heap} {cn m qual : Str} {st : Stmt} {j k n : Nat} {N ps : List Str} {body : En → O} {G : List Dat → O} {steps : List IStep}
theorem FnG.up {c : CXT} {f : Addr} {fd : FuncData} {sp : L2.Sp} (F : FnG P w K mg base c j f fd ps sp) (h : j ≤ k) : FnG P w K mg base c k f fd ps sp := ⟨F.len, fun A out s H ar us vs Q E hr => F.run A out s H ar us vs Q E (hr.mono h)⟩
/-- where a method stands -/
def SdM (K : PySem.W.Frag) (cn m qual : Str) (st : Stmt) : Prop := ∃ (C f : Addr) (fd : FuncData), ClsAt K cn C ∧ Cls K C ∧ Meth K C m f ∧ Fun K m qual st f fd
theorem md_mk (S : SdM K cn m qual st) (bn : Bn m qual st ps) (sc : FnScope N ps (defScope st)) (hl : ps.length = n + 1) (hb : ∀ (f : Addr) (cdv : Value) (A : Around) (outer : List Env) (s : Shared) (H : Hp) (E : XK), RoomG k (A.deeper (PyProof.Rows.envOfC qual (defScope st) s.heap.objs.size f cdv)) → DB (cxOf (L2.CX P w) P w K mg base N qual (defScope st) f cdv A outer s H E) (WE0 E) (defBody st) body) :
    MOk P w K mg base (k + 1) m n cn (fun ds => (body (startE N.length (ds.map .val))).pur) := by
  obtain ⟨C, f, fd, c1, c2, c3, F⟩ := S
  refine ⟨C, f, fd, ps, c1, c2, c3, (fn_pure F sc (hb f)).imp fun vs H Q E h => ?_, F.binds bn⟩
  obtain ⟨H0, ds, h1, h2, h3, h4⟩ := h
  exact ⟨H0, ds, h1, h2, by rw [h3, hl], out_pur h4⟩
theorem MOk.up (D : MOk P w K mg base j m n cn G) (h : j ≤ k) : MOk P w K mg base k m n cn G := by
  obtain ⟨C, f, fd, ps, c1, c2, c3, F, hb⟩ := D
  exact ⟨C, f, fd, ps, c1, c2, c3, F.up h, hb⟩
/-- where a property stands -/
def SdP (K : PySem.W.Frag) (cn m qual : Str) (st : Stmt) : Prop := ∃ (C pa f : Addr) (fd : FuncData), ClsAt K cn C ∧ Cls K C ∧ PropOf K C m pa f ∧ Fun K m qual st f fd
theorem pd_mk (S : SdP K cn m qual st) (bn : Bn m qual st ps) (sc : FnScope N ps (defScope st)) (hl : ps.length = 1) (hb : ∀ (f : Addr) (cdv : Value) (A : Around) (outer : List Env) (s : Shared) (H : Hp) (E : XK), RoomG k (A.deeper (PyProof.Rows.envOfC qual (defScope st) s.heap.objs.size f cdv)) → DB (cxOf (L2.CX P w) P w K mg base N qual (defScope st) f cdv A outer s H E) (WE0 E) (defBody st) body) :
    PrOk P w K mg base (k + 1) cn m (fun ds => (body (startE N.length (ds.map .val))).pur) := by
  obtain ⟨C, pa, f, fd, c1, c2, c3, F⟩ := S
  refine ⟨C, pa, f, fd, ps, c1, c2, c3, (fn_pure F sc (hb f)).imp fun vs H Q E h => ?_, F.binds bn⟩
  obtain ⟨H0, ds, h1, h2, h3, h4⟩ := h
  exact ⟨H0, ds, h1, h2, by rw [h3, hl], out_pur h4⟩
theorem PrOk.up (D : PrOk P w K mg base j cn m G) (h : j ≤ k) : PrOk P w K mg base k cn m G := by
  obtain ⟨C, pa, f, fd, ps, c1, c2, c3, F, hb⟩ := D
  exact ⟨C, pa, f, fd, ps, c1, c2, c3, F.up h, hb⟩
/-- where an __init__ stands -/
def SdI (K : PySem.W.Frag) (mg : Str → Option Value) (cn qual : Str) (st : Stmt) : Prop := ∃ (C f : Addr) (fd : FuncData), ClsAt K cn C ∧ mg cn = some (.ref C) ∧ Mk K C f ∧ Fun K "__init__" qual st f fd
theorem id_mk (S : SdI K mg cn qual st) (sc : FnScope N ps (defScope st)) (hb : ∀ (f : Addr) (cdv : Value) (A : Around) (outer : List Env) (s : Shared) (H : Hp) (E : XK), RoomG k (A.deeper (PyProof.Rows.envOfC qual (defScope st) s.heap.objs.size f cdv)) → DI (cxOf (L2.CX P w) P w K mg base N qual (defScope st) f cdv A outer s H E) (WE0 E) cn (defBody st) steps) :
    InOk P w K mg base cn qual st (k + 1) ps (fun ds => runI cn steps (startE N.length (.un :: ds.map .val)) []) := by
  obtain ⟨C, f, fd, c1, c2, c3, F⟩ := S
  exact ⟨C, f, fd, c1, c2, c3, F, fn_init F sc (hb f)⟩
theorem mt_nil : ∀ q ∈ ([] : List (Str × (List Dat → O))), MOk P w K mg base k m n q.1 q.2 := fun _ h => nomatch h
theorem mt_cons {tbl : List (Str × (List Dat → O))} (D : MOk P w K mg base j m n cn G) (h : j ≤ k) (r : ∀ q ∈ tbl, MOk P w K mg base k m n q.1 q.2) : ∀ q ∈ (cn, G) :: tbl, MOk P w K mg base k m n q.1 q.2 := fun q hq => by
  rcases List.mem_cons.mp hq with e | e
  · subst e; exact D.up h
  · exact r q e
end
section
variable {X : Cx} {W : WX} {e a b o : Expr} {f g : M Dat} {ga gk : M (List Dat)} {pos pos' p apos cpos : Pos} {cn fl x m : Str} {j k n : Nat} {es : List Expr} {G : List Dat → O}
theorem c_prop (D : PrOk X.prog X.w X.K X.mg X.base j cn m G) (hr : RoomG k X.A) (h : j + 1 ≤ k) (he : DE X W e f) (hb : attributeBase e m X.env (eval e X.env) = eval e X.env := by rfl) : DE X W (.Attribute e m pos) (f.prop cn G) := de_prop D (hr.mono h) he hb
end
/-! ### a tuple, k times -/
def rRepTF (K : PySem.W.Frag) : R2 := fun x y H Q => ∃ (l : Addr) (k : Int) (xs : List V), x = .ref l ∧ y = .int k ∧ SqT K H l xs ∧ xs ≠ [] ∧ 2 ≤ k ∧ k ≤ 1000 ∧ xs.length ≤ 1000 ∧
  ∀ (p : Addr) (o : Obj), H p = none → o.dict = none → Q (.ref p) (upd H p (.frz o (.tup (List.replicate k.toNat xs).flatten)))
theorem op_repTF {X : Cx} : OpR X (binaryOp .Mult) (rRepTF X.K) := by
  intro pins s σ H x y v u Q I rx ry ⟨l, k, xs, ex, ey, hT, hne, h1, h2, hz, q⟩
  subst ex ey
  obtain rfl : v = .ref l := rx
  obtain ⟨t, rfl⟩ := ry
  obtain ⟨its, r, ⟨⟨cls, dd, data, sl⟩, ho, hc, n, hd⟩, hs⟩ := I.tuple hT
  obtain rfl : cls = .type "tuple" := hc
  obtain rfl : data = .seq its.toArray n := hd
  have len : its.toArray.size = xs.length := by rw [List.size_toArray]; exact r.length.symm
  have one : 1 ≤ xs.length := Nat.one_le_iff_ne_zero.mpr fun z => hne (List.eq_nil_of_length_eq_zero z)
  have he : its.toArray.isEmpty = false := by rw [Array.isEmpty]; exact decide_eq_false (by omega)
  have most : k.toNat * xs.length ≤ 1000 * 1000 := Nat.mul_le_mul (by omega) hz
  have flen : (List.replicate k.toNat its).flatten.length = k.toNat * xs.length := by rw [lm_len_rep_flat, ← r.length]
  have prod : ((its.toArray.size : Nat) : Int) * k ≤ 1000000 := by
    rw [len, show k = ((k.toNat : Nat) : Int) by omega, ← Int.natCast_mul, Nat.mul_comm]
    omega
  have g1 : (decide (k < -(2 ^ 63)) || decide (k ≥ 2 ^ 63)) = false := by
    rw [decide_eq_false (by omega), decide_eq_false (by omega)]; rfl
  have g2 : (its.toArray.isEmpty || k == 1) = false := by
    rw [he, Bool.false_or]; exact beq_eq_false_iff_ne.mpr (by omega)
  have g3 : (decide (k ≤ 0) || its.toArray.isEmpty) = false := by
    rw [he, Bool.or_false]; exact decide_eq_false (by omega)
  have g4 : Builtin.Tuple.tupleTooMany (((its.toArray.size : Nat) : Int) * k) = false := by
    unfold Builtin.Tuple.tupleTooMany
    exact decide_eq_false (by rw [sizeLine_eq]; omega)
  have room : k.toNat * xs.length ≤ sizeLine := Nat.le_trans most (sz (by decide))
  refine wpAny_binaryOp_repeat_ref (T := "tuple") (U := "int") (by decide) ⟨_, ho, rfl⟩ (fun s' => typeIs_int s' k t) noFill_tuple_mul F.fills_int_mul F.slot_int_rmul repeat_tuple F.slot_int_index.lookup
    (call_meets F.slot_int_rmul (typeIs_int s k t) F.entry_int_rmul (F.args_int_rmul_2 _ _) (int_rmul_tuple k t l its.toArray n dd sl)
      ⟨ho, rfl, ⟨_, ho, rfl⟩, call_meets F.slot_tuple_mul ⟨_, ho, rfl⟩ F.entry_tuple_mul (F.args_tuple_mul_2 _ _) (tuple_mulW l its.toArray n dd sl k t g1 g2 g3 (by omega) g4 (by rw [size_rep, List.size_toArray, flen]; exact room)) ⟨ho, ?_⟩⟩)
  rw [size_rep]
  exact ⟨.ref s.heap.objs.size, _, tupO_laid (t' := s.toks) I (fun b ob z => Heap.get?_push_of_some _ z) (Nat.le_refl _) (Heap.get?_push_size _ rfl) (r.rep k.toNat) (by rw [lm_len_rep_flat]; exact room), rfl, q _ _ (I.hok.fresh (Nat.le_refl _)) rfl⟩
def repTD : Dat → Dat → Option Dat
  | .tup ds, .int k => if 2 ≤ k ∧ k ≤ 1000 ∧ ds.length ≤ 1000 ∧ ds.isEmpty = false then some (.tup (List.replicate k.toNat ds).flatten) else none
  | _, _ => none
theorem de_repT {X : Cx} {W : WX} {a b : Expr} {f g : M Dat} {pos : Pos} (ha : DE X W a f) (hb : DE X W b g) : DE X W (.BinOp a .Mult b pos) (f.bin g repTD) := de_bin op_repTF (fun H H0 x y dx dy dz Q s hx hy e q => by
  unfold repTD at e
  split at e
  · split at e
    · rename_i ds k h
      cases e
      cases hy
      cases hx with
      | @tup a vs _ h1 h2 =>
        refine ⟨a, k, vs, rfl, rfl, sameT s h1.sq, fun z => ?_, h.1, h.2.1, by rw [h2.length]; exact h.2.2.1, fun p o hp hd => q _ _ _ (Grow.new s hp) (Rep.newT (s.free hp) hd (h2.flat k.toNat))⟩
        subst z
        cases h2
        exact absurd h.2.2.2 (by decide)
    · cases e
  · cases e) ha hb
end Sv

set_option Elab.async false
set_option linter.all false
set_option maxRecDepth 100000
set_option maxHeartbeats 1000000
namespace Sv
open PySem L2 PyProof.Rows
/-! ## facts of classes -/
def clsSt (s : Stmt) (j : Nat) : Stmt := match s with
  | .ClassDef _ _ _ body _ _ _ _ _ _ _ => body.getD j (.Pass ⟨0, 0, 0, 0⟩)
  | _ => .Pass ⟨0, 0, 0, 0⟩
section
variable {K : PySem.W.Frag} {mg : Str → Option Value} {cn m qual : Str} {st : Stmt} {C : Addr}
theorem bdI_mk {ps : List Str} {dvs : List V} {kws : List (Str × V)} {f : Addr} {fd2 : FuncData} (FD : FunD K "__init__" qual (defArgs st) (defBody st) (defScope st) [] kws f fd2) (hc : ClsAt K cn C) (hi : PySem.W.findIn K (.ref C) "__init__" = some (some (.ref f)))
    (hb : ∃ ds, Vals dvs ds ∧ Binds K fd2 ps ds) : BdI K cn qual st ps dvs := fun C' fa fd' c1 c3 F' => by
  obtain rfl := ClsAt.eq hc c1
  have e := hi.symm.trans c3.init
  cases e
  obtain ⟨_, _, _, _, _, _, _, _, _, _, e, e', _⟩ := FD.ex
  obtain ⟨_, _, _, _, _, _, _, _, _, e1, e2, _⟩ := F'.ex
  rw [e2] at e'
  cases e'
  exact hb
theorem isT_mk (h1 : PySem.W.kitOne K (.type "NoneType") (.ref C) = some false) (h2 : PySem.W.kitOne K (.type "bool") (.ref C) = some false) (h3 : PySem.W.kitOne K (.type "int") (.ref C) = some false) (h4 : PySem.W.kitOne K (.type "str") (.ref C) = some false) (h5 : PySem.W.kitOne K (.type "tuple") (.ref C) = some false)
    (h6 : PySem.W.kitOne K (.type "list") (.ref C) = some false) (h7 : PySem.W.kitOne K (.type "dict") (.ref C) = some false) (h8 : PySem.W.kitOne K (.type "object") (.ref C) = some false) : ∀ T ∈ tyNames, PySem.W.kitOne K (.type T) (.ref C) = some false := fun T hT => by
  unfold tyNames at hT
  rcases List.mem_cons.mp hT with e | hT; · rw [e]; exact h1
  rcases List.mem_cons.mp hT with e | hT; · rw [e]; exact h2
  rcases List.mem_cons.mp hT with e | hT; · rw [e]; exact h3
  rcases List.mem_cons.mp hT with e | hT; · rw [e]; exact h4
  rcases List.mem_cons.mp hT with e | hT; · rw [e]; exact h5
  rcases List.mem_cons.mp hT with e | hT; · rw [e]; exact h6
  rcases List.mem_cons.mp hT with e | hT; · rw [e]; exact h7
  rcases List.mem_cons.mp hT with e | hT; · rw [e]; exact h8
  cases hT
theorem kit_owT {T : String} {b : Bool} (hi : PySem.W.isClsIn K C = true) (ht : PySem.W.typeIn K (.ref C) = some (.type "type")) (hs : PySem.W.subIn K (.type T) (.ref C) = some b) : PySem.W.kitOne K (.type T) (.ref C) = some b := by
  have hi : (PySem.W.clsIn K C).isSome = true := hi
  have e2 : ((PySem.W.clsIn K C).isSome && PySem.W.typeIn K (.ref C) == some (.type "type")) = true := by rw [hi, ht]; rfl
  have ne : (Value.type T == Value.ref C) = false := beq_eq_false_iff_ne.mpr fun z => nomatch z
  show (if (Value.type T == Value.ref C) = true then some true else if ((PySem.W.clsIn K C).isSome && PySem.W.typeIn K (.ref C) == some (.type "type")) = true then PySem.W.subIn K (.type T) (.ref C) else none) = _
  rw [ne, if_neg Bool.false_ne_true, if_pos e2, hs]
theorem kit_owS : PySem.W.kitOne K (.ref C) (.ref C) = some true := by
  show (if (Value.ref C == Value.ref C) = true then some true else _) = _
  rw [if_pos (beq_self_eq_true _)]
theorem kit_owN {D : Addr} (hi : PySem.W.isClsIn K C = true) (ht : PySem.W.typeIn K (.ref C) = some (.type "type")) (hr : PySem.W.subIn K (.ref C) (.ref C) = some true) (hs : PySem.W.subIn K (.ref D) (.ref C) = some false) : PySem.W.kitOne K (.ref D) (.ref C) = some false := by
  have hi : (PySem.W.clsIn K C).isSome = true := hi
  have e2 : ((PySem.W.clsIn K C).isSome && PySem.W.typeIn K (.ref C) == some (.type "type")) = true := by rw [hi, ht]; rfl
  have ne : (Value.ref D == Value.ref C) = false := beq_eq_false_iff_ne.mpr fun z => by
    cases z
    rw [hr] at hs
    cases hs
  show (if (Value.ref D == Value.ref C) = true then some true else if ((PySem.W.clsIn K C).isSome && PySem.W.typeIn K (.ref C) == some (.type "type")) = true then PySem.W.subIn K (.ref D) (.ref C) else none) = _
  rw [ne, if_neg Bool.false_ne_true, if_pos e2, hs]
/-- what is asked of each own class as isinstance looks at an instance -/
def IcT (K : PySem.W.Frag) (C : Addr) (cn c : Str) : Prop := ∃ D, ClsAt K c D ∧ Cls K D ∧ PySem.W.findIn K (.ref D) "__class__" = some (some (.builtin "object.__class__")) ∧ PySem.W.specialIn K (.builtin "object.__class__") "__get__" = some (some (.builtin "getset_descriptor.__get__")) ∧ PySem.W.takesIn K (.builtin "object.__class__") = some true ∧
    PySem.W.mroIn K D (.type "object") = some true ∧ PySem.W.kitOne K (.ref D) (.ref C) = some (decide (c = cn))
theorem ic_nil : ∀ c ∈ ([] : List Str), IcT K C cn c := fun _ h => nomatch h
theorem ic_cons {c : Str} {cs : List Str} (h : IcT K C cn c) (r : ∀ c ∈ cs, IcT K C cn c) : ∀ x ∈ c :: cs, IcT K C cn x := fun x hx => by
  rcases List.mem_cons.mp hx with e | e
  · subst e; exact h
  · exact r x e
theorem isc_mk {cs : List Str} (h : ClsAt K cn C) (hm : mg cn = some (.ref C)) (ht : ∀ T ∈ tyNames, PySem.W.kitOne K (.type T) (.ref C) = some false) (hc : ∀ c ∈ cs, IcT K C cn c) : IsC K mg cn cs := ⟨C, h, hm, ht, hc⟩
end
/-! ## dicts -/
section
variable {X : Cx} {W : WX} {a b e o : Expr} {f g h : M Dat} {ga : M (List Dat)} {pos p apos cpos : Pos} {k : Nat} {t : Tg} {tg : Expr}
/-- dict(d) -/
def dictD : List Dat → Option Dat
  | [.dct ks ds] => some (.dct ks ds)
  | _ => none
theorem de_dictD (hg : Gl X "dict") (hm : X.mg "dict" = none) (ha : DA X W [e] ga) (he : starEach [e] X.env = (false, eval e X.env) :: starEach [] X.env := by rfl) : DE X W (.Call (.Name "dict" p) [e] [] pos) (ga.bi dictD) :=
  PE.imp (pe_lockD (pe_callTy call_dictD hg hm (by decide +kernel) ha (by decide) (by decide) he)) fun σ H Q ⟨z, H0, ρ, r, q⟩ => partA r q fun ds vs H1 G1 ρ1 r1 s1 hx q1 => by
    obtain ⟨dz, e1, q2⟩ := Run.lift q1
    unfold dictD at e1
    split at e1
    · cases e1
      match vs, hx with
      | [v], .cons hv .nil =>
        cases hv with
        | @dct a ob kvs _ _ h1 h2 h3 =>
          refine ⟨a, kvs, rfl, .inr ⟨ob, r1.sub _ _ h1⟩, fun l hl => ⟨l, kvs, H1, rfl, rfl, fun o => ?_⟩⟩
          have g := Grow.new (o := .frz o (.dK kvs)) r1.sub hl
          exact q2 _ _ (g.rel r1) g.s _ (Rep.newD (r1.sub.free hl) h2 h3)
    · cases e1
/-! ### walks through the keys, the items -/
def keyD : Key → Dat
  | .inl i => .int i
  | .inr x => .str x
theorem keyD_rep {K : PySem.W.Frag} {H : Hp} (k : Key) : Rep K H (kV k) (keyD k) := by
  cases k with
  | inl i => exact .int i
  | inr x => exact .str x
/-- the dict with the key None, one turn -/
def Itno (d : Addr) (o : Obj) : It := ⟨fun i H => H d = some (.ext (NoD d o)) ∧ i < 1, fun _ H x H' => H' = H ∧ x = .non, fun i H => H d = some (.ext (NoD d o)) ∧ 1 ≤ i⟩
theorem turn_no {P : Program} {w : World} {K : PySem.W.Frag} {tg : Expr} {d : Addr} {o : Obj} {hh : Int} {vv : Value} {ep : Nat} (it : Addr) (hod : o.data = .dict #[⟨hh, .none, vv⟩] ep) : Turn P w K tg (Itno d o) [it] it (fun i h => h.IsKeyIter it d i 1 ep) where
  mem := List.mem_singleton.mpr rfl
  obj := fun i h st b hb => by
    obtain rfl := List.mem_singleton.mp hb
    obtain ⟨oi, e, c, dd⟩ := st
    exact ⟨oi, e, fun v z => by rw [dd] at z; cases z⟩
  keep := fun i h h' st k => st.at fun oi e => k it (List.mem_singleton.mpr rfl) oi e
  item := by
    intro X hP hw hK hc i pins s σ H E I hf st hg
    subst hP; subst hw; subst hK
    obtain ⟨hd, hi⟩ := hg
    obtain ⟨g0, g1, g2, g3, g4, g5⟩ := hf it (List.mem_singleton.mpr rfl)
    obtain ⟨hgd, _⟩ := (show ObjOk X.prog X.w H s.heap d (.ext (NoD d o)) from I.hok d _ hd)
    obtain rfl : i = 0 := by omega
    refine next_key_item (en := ⟨hh, .none, vv⟩) st hgd hod rfl rfl fun h' st' sb => ?_
    have J : Inv X pins σ H { s with heap := h' } := I.turned (t' := s.toks) (fun b ob hb e => (sb.2 b hb).trans e) g0 g1 g3 g4 g5
    obtain ⟨oi, e, c, dd⟩ := id st'
    exact ⟨.none, rfl, go_of (s := { s with heap := h' }) e c dd (by decide) ⟨.non, H, J, rfl, ⟨rfl, rfl⟩, st', fun b hb => (hf b hb).1⟩⟩
  done := by
    intro X hP hw hK hc i pins s σ H E I hf st hg
    subst hP; subst hw; subst hK
    obtain ⟨hd, hi⟩ := hg
    obtain ⟨g0, g1, g2, g3, g4, g5⟩ := hf it (List.mem_singleton.mpr rfl)
    obtain ⟨hgd, _⟩ := (show ObjOk X.prog X.w H s.heap d (.ext (NoD d o)) from I.hok d _ hd)
    exact next_key_end (I.ok.hd hc) st hgd hod rfl hi fun h' eb => ⟨rfl, I.turned (t' := s.toks) (fun b ob hb e => eb b ob hb e) g0 g1 g3 g4 g5⟩
  self := fun A i s Q E st h => by
    refine wpAny_pyIter_slot st.typeIs F.slot_dict_keyiterator_iter (wpAny_call_entry F.slot_dict_keyiterator_iter st.typeIs F.entry_dict_keyiterator_iter ?_ (F.args_dict_keyiterator_iter_1 _))
    show wpAny _ _ (ret (.ref it)) _ _ s
    exact wpAny_pure ⟨_, rfl, "dict_keyiterator", _, st.typeIs, F.slot_dict_keyiterator_next.lookup, h⟩
def iKeysE (td : TE) : TI := fun σ H R => td σ H fun x H1 => ∃ d, x = .ref d ∧ ((∃ o kvs, H1 d = some (.frz o (.dK kvs)) ∧ R (Itk d o kvs) H1) ∨ ∃ o, H1 d = some (.ext (NoD d o)) ∧ NoO o ∧ (d == sysModules) = false ∧ R (Itno d o) H1)
theorem pi_keysE {td : TE} (he : PE X e td) : PI X tg e (iKeysE td) := by
  refine ⟨fun pins s σ H R I h => ?_⟩
  refine thn (he.run pins s σ H _ I h) fun u s1 ⟨x, H1, I1, rx, d, ex, q⟩ => ?_
  subst ex
  obtain rfl : u = Value.ref d := rx
  rcases q with ⟨o, kvs, hd, q⟩ | ⟨o, hd, ho, hs, q⟩
  · obtain ⟨hs, hgd, hx, es, ep, vs, hdt, hsz, kv, hm⟩ := I1.frzK hd
    refine iter_keys hs hgd hx hdt (pi_one (tk := s1.toks) I1 _ (turn_keys _ hdt) ⟨_, Heap.get?_push_size _ rfl, rfl, ?_⟩ q)
    rw [hsz]; first | done | rfl
  · obtain ⟨hgd, _⟩ := (show ObjOk X.prog X.w H1 s1.heap d (.ext (NoD d o)) from I1.hok d _ hd)
    obtain ⟨hx, hh, vv, ep, hdt⟩ := ho
    exact iter_keys hs hgd hx hdt (pi_one (tk := s1.toks) I1 _ (turn_no _ hdt) ⟨_, Heap.get?_push_size _ rfl, rfl, rfl⟩ q)
def keyS (d : Dat) : Option (List Dat) := match d with
  | .dct ks _ => some (ks.map keyD)
  | .dno => some [.non]
  | _ => none
theorem di_keys (he : DE X W e f) : DIt X W t tg e (f.un1L keyS) :=
  ⟨fun pins s σ H R I ⟨z, H0, ρ, r, q⟩ => (pi_keysE he).run pins s σ H R I (part r q fun d v H1 G1 ρ1 r1 s1 hv q1 => by
    obtain ⟨ds, e1, q2⟩ := Run.lift q1
    unfold keyS at e1
    cases d with
    | dct ks es =>
      cases e1
      cases hv with
      | @dct a ob kvs _ _ h1 h2 h3 =>
        have e2 : (ks.map keyD).length = kvs.length := by rw [List.length_map, ← h2, List.length_map]
        refine ⟨a, rfl, .inl ⟨ob, kvs, r1.sub _ _ h1, q2 H1 G1 r1 (Same.refl _) _ ⟨_, _, by rw [e2]; exact walk_keys, fun H s => s _ _ h1, fun i v H H' d sm y hd => ?_⟩⟩⟩
        obtain ⟨eH, k, u, ek, ev⟩ := y
        subst eH ev
        rw [← h2, List.map_map, List.getElem?_map, ek] at hd
        cases hd
        exact ⟨.inl rfl, gt_rep (keyD_rep k)⟩
    | dno =>
      cases e1
      cases hv with
      | @dno a o h1 h2 h3 =>
        refine ⟨a, rfl, .inr ⟨o, r1.sub _ _ h1, h2, h3, q2 H1 G1 r1 (Same.refl _) _ ⟨fun H => H a = some (.ext (NoD a o)), fun _ H x H' => H' = H ∧ x = .non, ⟨fun _ _ hi q => ⟨q, hi⟩, fun _ q => ⟨q, Nat.le_refl _⟩, fun _ _ _ _ _ _ y => y⟩, fun H s => s _ _ h1, fun i v H H' d sm y hd => ?_⟩⟩⟩
        obtain ⟨eH, ev⟩ := y
        subst eH ev
        match i, hd with
        | 0, hd => cases hd; exact ⟨.inl rfl, gt_rep .non⟩
        | i + 1, hd => simp at hd
    | _ => cases e1)⟩
def itmL : List Key → List Dat → List Dat
  | k :: ks, d :: ds => .tup [keyD k, d] :: itmL ks ds
  | _, _ => []
theorem itmL_len : ∀ {ks : List Key} {ds : List Dat}, ks.length = ds.length → (itmL ks ds).length = ks.length
  | [], _, _ => by simp [itmL]
  | _ :: _, [], h => by cases h
  | k :: ks, d :: ds, h => by show (itmL ks ds).length + 1 = _; rw [itmL_len (by simpa using h)]; rfl
theorem itmL_get : ∀ {ks : List Key} {ds : List Dat} {i : Nat} {d : Dat}, (itmL ks ds)[i]? = some d → ∃ k x, ks[i]? = some k ∧ ds[i]? = some x ∧ d = .tup [keyD k, x]
  | [], _, _, _, h => by simp [itmL] at h
  | _ :: _, [], _, _, h => by simp [itmL] at h
  | k :: ks, e :: es, 0, _, h => by cases h; exact ⟨k, e, rfl, rfl, rfl⟩
  | k :: ks, e :: es, i + 1, x, h => itmL_get (ks := ks) (ds := es) (i := i) h
def itemS (d : Dat) : Option (List Dat) := match d with
  | .dct ks ds => some (itmL ks ds)
  | _ => none
theorem di_items {is : List Nat} {elts : List Expr} {kk : Nat} {tpos : Pos} (he : DE X W e f) (hbase : attributeBase e "items" X.env (eval e X.env) = eval e X.env := by rfl) (hline : (apos.endLine == cpos.line) = true := by rfl) :
    DIt X W (.tup is) (.Tuple elts kk tpos) (.Call (.Attribute e "items" apos) [] [] cpos) (f.un1L itemS) :=
  ⟨fun pins s σ H R I ⟨z, H0, ρ, r, q⟩ => (pi_items he hbase hline).run pins s σ H R I (part r q fun d v H1 G1 ρ1 r1 s1 hv q1 => by
    obtain ⟨ds, e1, q2⟩ := Run.lift q1
    unfold itemS at e1
    cases d with
    | dct ks es =>
      cases e1
      cases hv with
      | @dct a ob kvs _ _ h1 h2 h3 =>
        have e3 : ks.length = es.length := by rw [← h2, ← h3.length, List.length_map, List.length_map]
        have e2 : (itmL ks es).length = kvs.length := by rw [itmL_len e3, ← h2, List.length_map]
        refine ⟨a, ob, kvs, rfl, r1.sub _ _ h1, q2 H1 G1 r1 (Same.refl _) _ ⟨_, _, by rw [e2]; exact walk_items, fun H s => s _ _ h1, fun i v H H' d sm y hd => ?_⟩⟩
        obtain ⟨T, x, u, ev, hT, eH, ex, eu⟩ := y
        obtain ⟨k, dx, h4, h5, h6⟩ := itmL_get hd
        subst ev eH h6
        dsimp only at ex eu
        rw [← h2, List.getElem?_map] at h4
        cases ek : kvs[i]? with
        | none => rw [ek] at ex; cases ex
        | some kv =>
          rw [ek] at ex h4 eu
          cases ex; cases h4; cases eu
          obtain ⟨w, h7, h8⟩ := h3.get h5
          rw [List.getElem?_map, ek] at h7
          cases h7
          exact ⟨.inr ⟨T, _, hT, rfl⟩, gt_pair upd_same (keyD_rep _) h8⟩
    | _ => cases e1)⟩
end
end Sv

set_option Elab.async false
set_option linter.all false
set_option maxRecDepth 100000
set_option maxHeartbeats 2000000
namespace PySem
namespace LowXP
open PySem.W PySem.Calls PyProof.Rows PySem.HandSPX
/-! ### the text of __init__ -/
def iA (p1 p2 : Pos) : Arguments := { posonlyargs := [], args := [{ arg := "self", annotation := none, pos := p1 }, { arg := "place", annotation := none, pos := p2 }], vararg := none, kwonlyargs := [], kw_defaults := [], kwarg := none, defaults := [] }
def iB (q1 q2 q3 q4 : Pos) : List Stmt := [.Assign [.Attribute (.Name "self" q1) "place" q2] (.Name "place" q3) q4]
def iS : Scope := { kind := .function, names := [(PySem.Str.ofString "self", .local), (PySem.Str.ofString "place", .local)], isGenerator := false, isCoroutine := false, more := [] }
/-- what the written part says of Low, at C, and of its __init__, at fI -/
structure LowTxtP (K : Frag) (mg : Str → Option Value) (cx qx : Str) (C fI : Addr) : Prop where
  gC : mg cx = some (.ref C)
  cls : ∃ nm q N bs bm sn sub ab col dd k0 k1 k2 k3 k5, K.lookup C = some (excClassObj nm q C N bs bm true sn sub ab col dd k0 k1 k2 k3 k5 "ValueError.__new__") ∧ refsVE bm = true
  sa : findIn K (.ref C) "__setattr__" = some (some (.builtin "object.__setattr__"))
  ga : findIn K (.ref C) "__getattribute__" = some (some (.builtin "BaseException.__getattribute__"))
  gg : findIn K (.ref C) "__getattr__" = some none
  noN : findIn K (.ref C) "place" = some none
  iC : findIn K (.ref C) "__init__" = some (some (.ref fI))
  tC : typeIn K (.ref fI) = some (.type "function")
  kC : keepIn K (.ref C) = true
  exC : subIn K (.ref C) (.type "BaseException") = some true
  tyC : typeIn K (.ref C) = some (.type "type")
  hdC : hasDictIn K C = true
  te : exmOne K (.ref C) (.ref C) = some true
  fn : ∃ (oc : Value) (od : Option Addr) (doc pm : Value) (an : Option Addr) (cdv ct : Value) (osl : Array (Option Value)) (p1 p2 q1 q2 q3 q4 : Pos),
    K.lookup fI = some ⟨oc, od, .func (fnOf "__init__" qx (iA p1 p2) (iB q1 q2 q3 q4) iS .none .none doc pm an cdv ct), osl⟩ ∧ codeIn K cdv qx = true
theorem one_sizeP (v : Value) : [v].length ≤ sizeLine := by
  rw [sizeLine_eq]
  exact (by decide : 1 ≤ 16777216)
theorem kept_butP {K : Frag} {h h' : Heap} {x : Addr} (X : K.In h) (hx : K.lookup x = none) (k : ∀ b o, b ≠ x → h.get? b = some o → h'.get? b = some o) : K.In h' := fun a o e =>
  k a o (fun z => by rw [z, hx] at e; cases e) (X a o e)
theorem ldCP {M : Model} {s : Shared} {name : Str} {scope : Scope} {L a : Addr} {cd : Value} {m : Str → Option Value} {x : Str} {pos : Pos} {v : Value} {Q : Value → Shared → Prop} {A : Around} {E : Value → Shared → Prop} (hn : s.heap.Ns L m) (hv : m x = some v) (h : Q v s)
    (hk : scope.kind = .function := by rfl) (hl : (envOfC name scope L a cd).kindOf x = some .local := by rfl) (hd : (x == ("__debug__" : Str)) = false := by decide) :
    wpAny M A (eval (.Name x pos) (envOfC name scope L a cd)) Q E s := wpAny_Name (wpAny_loadName_local hk hl hn hv h) hd
/-- what __init__ leaves of a fresh exception at x -/
structure InitEndP (h h' : Heap) (x C dx t1 : Addr) (v : Value) : Prop where
  keep : ∀ b o, b ≠ x → h.get? b = some o → h'.get? b = some o
  obj : h'.get? x = some { cls := .ref C, dict := some dx, data := .fields #[.ref t1, .none, .none, .none, .bool false, .none] }
  dbig : h.objs.size ≤ dx
  dne : dx ≠ x
  ns : h'.Ns1 dx (fun y => if y = "place" then some v else none)
/-- a made Low -/
structure OwnMadeP (h h' : Heap) (e C d : Addr) (v : Value) : Prop where
  keep : ∀ b o, h.get? b = some o → h'.get? b = some o
  new : h.objs.size ≤ e
  obj : ∃ oe vs, h'.get? e = some oe ∧ oe.cls = .ref C ∧ oe.dict = some d ∧ oe.data = .fields vs ∧ vs[1]? = some .none
  dbig : h.objs.size ≤ d
  dne : d ≠ e
  ns : h'.Ns1 d (fun y => if y = "place" then some v else none)
section
variable {prog : Program} {w : World} {A : Around} {E : Value → Shared → Prop} {R : Result → Shared → Prop} {s : Shared} {K : Frag} {mg : Str → Option Value} {cx qx : Str} {C fI : Addr}
theorem low_initP (T : LowTxtP K mg cx qx C fI) {x t0 : Addr} {v : Value} (X : K.In s.heap) (hlim : s.heap.NoLimit) (hx : s.heap.get? x = some (excO C t0)) (hnx : K.lookup x = none) (hroom : A.depth < recursionLimit)
    (hq : ∀ h' tk dx, InitEndP s.heap h' x C dx t0 v → R (.ok (.ret .none)) { s with heap := h', toks := tk }) :
    codeAny (model prog w) A (.call (.ref fI) ⟨[.ref x, v], []⟩) R s := by
  obtain ⟨oc, od, doc, pm, an, cdv, ct, osl, p1, p2, q1, q2, q3, q4, ho, hcd⟩ := T.fn
  obtain ⟨nm, q, N, bs, bm, sn, sub, ab, col, dd, k0, k1, k2, k3, k5, hC, hbm⟩ := T.cls
  have hcl : clsIn K C = some { name := nm, bases := bs, mro := .ref C :: bm, ns := N, qualname := q, hasDict := true, slotNames := sn, subclasses := sub, abstract := ab, collection := col, hasDel := false } := by unfold clsIn; rw [hC] <;> rfl
  refine Att.call_fn (binds := [("self", .ref x), ("place", v)]) X hlim ho hcd hroom (BindsTo.of_eq (by first | rfl | with_unfolding_all rfl)) (by first | rfl | decide | with_unfolding_all rfl) (fun s₁ IC => ?_) rfl rfl rfl
  obtain ⟨h₁, tk₁, rfl⟩ := IC.toInCall.same
  have k : ∀ b o, s.heap.get? b = some o → h₁.get? b = some o := IC.toInCall.keep
  have hn := IC.toInCall.ns
  have hxL : s.heap.objs.size ≠ x := Nat.ne_of_gt (Heap.lt_size hx)
  have X₁ : K.In h₁ := X.keeps k
  have hx₁ := k _ _ hx
  -- self.by = by
  show wpAny _ _ (execs _ _) _ _ _
  refine wpAny_execs_cons (plainObj_wpAny_Assign_Attribute ?_)
  refine ldCP (v := v) hn (by first | rfl | with_unfolding_all rfl | kernel_rfl) (ldCP (v := .ref x) hn (by first | rfl | with_unfolding_all rfl | kernel_rfl) ?_)
  refine set_plain X₁ (ox := excO C t0) (od := none) ⟨hx₁, rfl, rfl, trivial⟩ T.sa ?_
  refine exc_osa X₁ hx₁ hcl (show refsVE (.ref C :: bm) = true from hbm) rfl T.noN (fun h₃ tk₃ dx k₃ dn dne hx₃ hn₃ => ?_)
  show wpAny _ _ (execs _ _) _ _ _
  have z : s.heap.objs.size < h₁.objs.size := hn.lt
  exact wpAny_execs_nil (hq h₃ tk₃ dx ⟨fun b o hb e => k₃ b o hb (k b o e), hx₃, Nat.le_of_lt (Nat.lt_of_lt_of_le z dn), dne, hn₃⟩)
theorem low_madeP (T : LowTxtP K mg cx qx C fI) {v : Value} (X : K.In s.heap) (hlim : s.heap.NoLimit) (hroom : A.depth + 1 < recursionLimit)
    (hq : ∀ h' tk e d, OwnMadeP s.heap h' e C d v → R (.ok (.ret (.ref e))) { s with heap := h', toks := tk }) :
    codeAny (model prog w) A (.call (.ref C) ⟨[v], []⟩) R s := by
  obtain ⟨nm, q, N, bs, bm, sn, sub, ab, col, dd, k0, k1, k2, k3, k5, hC, hbm⟩ := T.cls
  obtain ⟨hp, g, dr, tk, os⟩ := s
  have k : ∀ b o, hp.get? b = some o → ((hp.push (kdv_tup [v])).push (excO C hp.objs.size)).get? b = some o := fun b o e => Heap.get?_push_of_some _ (Heap.get?_push_of_some _ e)
  have hget : ((hp.push (kdv_tup [v])).push (excO C hp.objs.size)).get? (hp.objs.size + 1) = some (excO C hp.objs.size) := by heap_get
  have hnx : K.lookup (hp.objs.size + 1) = none := by
    cases e : K.lookup (hp.objs.size + 1) with
    | none => rfl
    | some o =>
      have z : hp.get? (hp.objs.size + 1) = some o := X _ _ e
      exact absurd (Nat.lt_of_succ_lt (Heap.lt_size z)) (Nat.lt_irrefl _)
  refine call_own F.excBase_ValueError (fun X => refsVE_contains X bm hbm) (X _ _ hC) (looks_findIn X T.iC) (fun self => bind_fn X self T.tC) (one_sizeP v) ?_
  refine low_initP (s := ⟨(hp.push (kdv_tup [v])).push (excO C hp.objs.size), g, dr, tk, os⟩) T (X.keeps k) (hlim.keeps k) hget hnx ?_ fun h' tk' dx ⟨k', hx, dn, dne, hns⟩ => ?_
  · show A.depth + 1 < recursionLimit
    exact hroom
  · have old : ∀ b o, hp.get? b = some o → h'.get? b = some o := fun b o e => k' b o (Nat.ne_of_lt (Nat.lt_succ_of_lt (Heap.lt_size e))) (k b o e)
    have z : hp.objs.size + 1 + 1 ≤ dx := by
      first
        | (simpa only [Heap.size_push] using dn)
        | exact dn
        | (have q := dn; rw [Heap.size_push, Heap.size_push] at q; exact q)
    exact ⟨rfl, hq h' tk' (hp.objs.size + 1) dx ⟨old, Nat.le_succ _, ⟨_, _, hx, rfl, rfl, rfl, rfl⟩, Nat.le_trans (Nat.le_trans (Nat.le_succ _) (Nat.le_succ _)) z, dne, hns⟩⟩
end
end LowXP
end PySem
namespace L2
open PySem PySem.Spec PyProof.Rows
theorem relO_lowP {v : V} {v' : Value} (r : RelV v v') (f : Str) : RelO (List.lookup f [(("place" : Str), v)]) (if f = "place" then some v' else none) := by
  by_cases hw : f = "place"
  · subst hw
    rw [if_pos rfl]
    have q : List.lookup ("place" : Str) [(("place" : Str), v)] = some v := by simp [List.lookup]
    rw [q]
    exact r
  · rw [if_neg hw]
    have qw : (f == ("place" : Str)) = false := by simpa using hw
    have q2 : List.lookup f [(("place" : Str), v)] = none := by simp [List.lookup, qw]
    rw [q2]
    trivial
section
variable {X : Cx} {cx qx : Str} {C fI : Addr}
/-- Low(e) -/
def tMkLowP (C : Addr) (ta : TA) : St → Hp → XK → Prop := fun σ H Q => ta σ H fun vs H1 => ∃ v, vs = [v] ∧ ∀ d, H1 d = none → Q (.ref C) (some d) (upd H1 d (.xd [(("place" : Str), v)]))
theorem pmk_lowP {a : Expr} {ta : TA} {p pos : Pos} {k : Nat} (T : PySem.LowXP.LowTxtP X.K X.mg cx qx C fI) (hr : Room k X.A) (ha : PA X [a] ta) (hg : Gl X cx) (hdb : (cx == ("__debug__" : Str)) = false := by decide)
    (he : starEach (a :: []) X.env = (false, eval a X.env) :: starEach [] X.env := by rfl) (hpl : (backTo pos (starEach [] X.env)).any (·.1) = false := by rfl) :
    PMk X (.Call (.Name cx p) [a] [] pos) (tMkLowP C ta) := by
  intro pins s σ H Q I h
  refine wpAny_Call_Name_kw (ld_glob I hg T.gC ?_ hdb)
  refine PySem.W.callWith_K (h₀ := X.base) I.ok.mod.kin T.kC (thn (ha.run pos pins s σ H _ I h) fun us s1 hh => ?_) he hpl
  obtain ⟨vs, H1, I1, r1, v, ev, q1⟩ := hh
  subst ev
  refine ⟨I1.kIn, ?_⟩
  cases r1 with
  | cons rv rn =>
    rename_i v' us'
    cases rn
    show wpAny _ _ (call (.ref C) [v']) _ _ _
    have hlim := I1.nolimit
    obtain ⟨hp, g, dr, tk, os⟩ := s1
    refine wpAny_call (PySem.LowXP.low_madeP T I1.kIn hlim (by have := hr.dp; omega) fun h' tk' e d M => ?_)
    show MkP X pins σ Q (.ref e) ⟨h', g, dr, tk', os⟩
    obtain ⟨oe, fv, hoe, hc, hd, hdat, h1⟩ := M.obj
    have hns := M.ns
    obtain ⟨G', g1, g2⟩ := restrict h' fun b => decide (b ≠ e)
    have gk : ∀ b, b ≠ e → G'.get? b = h'.get? b := fun b hb => g1 b (decide_eq_true hb)
    have ge : G'.get? e = none := g2 e (by simp)
    have old : ∀ b o, hp.get? b = some o → G'.get? b = some o := fun b o q => (gk b (Nat.ne_of_lt (Nat.lt_of_lt_of_le (Heap.lt_size q) M.new))).trans (M.keep b o q)
    have ob : ObjOk X.prog X.w (upd H1 d (.xd [(("place" : Str), v)])) G' d (.xd [(("place" : Str), v)]) :=
      ⟨_, hns.at (fun o q => (gk d M.dne).trans q), fun f => relO_lowP rv f⟩
    have J : Inv X pins σ (upd H1 d (.xd [(("place" : Str), v)])) ⟨G', g, dr, tk', os⟩ := I1.laid (t' := tk') old M.dbig ob
    refine ⟨e, oe, fv, ⟨G', g, dr, tk', os⟩, _, .ref C, some d, rfl, J, fun b o q => ?_, ge, hoe, ⟨hc, hd⟩, hdat, h1, ?_, rfl, I1.bare, raises_own T.exC T.tyC, q1 d (I1.hok.fresh M.dbig)⟩
    · by_cases hb : b = e
      · have q' : G'.get? b = some o := q
        rw [hb, ge] at q'; cases q'
      · exact (gk b hb).symm.trans q
    · rw [upd_ne (Ne.symm M.dne)]
      exact I1.hok.fresh M.new
/-- raise Low(e) -/
def tRaiseLowP (C : Addr) (W : WX) (ta : TA) : TS := fun _ σ H => tMkLowP C ta σ H fun cls d H' => W cls d σ H'
theorem ps_raiseLowP {a : Expr} {ta : TA} {W : WX} {p pos pos2 : Pos} {k : Nat} (hc : X.calm = true) (T : PySem.LowXP.LowTxtP X.K X.mg cx qx C fI) (hr : Room k X.A) (tk : Takes X W) (ha : PA X [a] ta) (hg : Gl X cx) (hdb : (cx == ("__debug__" : Str)) = false := by decide)
    (he : starEach (a :: []) X.env = (false, eval a X.env) :: starEach [] X.env := by rfl) (hpl : (backTo pos (starEach [] X.env)).any (·.1) = false := by rfl) :
    PS X (.Raise (some (.Call (.Name cx p) [a] [] pos)) none pos2) (tRaiseLowP C W ta) := ps_raise hc tk (pmk_lowP T hr ha hg hdb he hpl)
/-- low.by, low the exception that the suite holds (at a; its class cls, its dict d) -/
def tByLowP (C : Addr) (a : Addr) (cls : Value) (d : Option Addr) (te : TE) : TE := fun σ H Q => te σ H fun x H1 => x = .ref a ∧ cls = .ref C ∧ ∃ (dd : Addr) (v : V), d = some dd ∧ H1 dd = some (.xd [(("place" : Str), v)]) ∧ Q v H1
theorem pe_byLowP {a : Addr} {oe : Obj} {cls : Value} {d : Option Addr} {pn : List (Addr × Obj)} {e : Expr} {te : TE} {pos : Pos} (T : PySem.LowXP.LowTxtP X.K X.mg cx qx C fI) (hz : Zc cls d oe) (hf : ∃ vs, oe.data = .fields vs) (he : PE (X.suite a ((a, oe) :: pn)) e te)
    (hb : attributeBase e "place" X.env (eval e X.env) = eval e X.env := by rfl) :
    PE (X.suite a ((a, oe) :: pn)) (.Attribute e "place" pos) (tByLowP C a cls d te) := by
  refine ⟨fun pins s σ H Q I h => ?_⟩
  refine attr_of hb (thn (he.run pins s σ H _ I h) fun u s1 hh => ?_)
  obtain ⟨x, H1, I1, rx, ex, ec, dd, v, ed, ea, q⟩ := hh
  subst ex
  obtain rfl : u = Value.ref a := rx
  subst ec
  subst ed
  obtain ⟨ha, _⟩ := I1.pin (a, oe) (List.mem_append_left _ List.mem_cons_self)
  obtain ⟨vs, hd⟩ := hf
  have hx : ObjOk X.prog X.w H1 s1.heap dd (.xd [(("place" : Str), v)]) := I1.hok dd _ ea
  obtain ⟨mA, hns, hr⟩ := hx
  obtain ⟨od, ho, hl⟩ := lookIn_ns hns
  have l : List.lookup ("place" : Str) [(("place" : Str), v)] = some v := by simp [List.lookup]
  obtain ⟨u, hu, ru⟩ := RelO.some_of (v := v) (o := mA "place") (by rw [← l]; exact hr "place")
  have J : PySem.W.InstAt s1.heap a oe C (some od) := ⟨ha, hz.1, by unfold PySem.W.notCls; rw [hd] <;> rfl, by rw [hz.2]; exact ho⟩
  exact HandSPX.exc_get I1.kIn J T.ga T.gg T.exC (PySem.W.findObj_own T.hdC T.noN rfl (by rw [hl, hu])) (handed_of ru) ⟨v, H1, I1.tok _, ru, q⟩
end
end L2

set_option Elab.async false
set_option linter.all false
set_option maxRecDepth 100000
set_option maxHeartbeats 2000000
namespace PySem
namespace LowXN
open PySem.W PySem.Calls PyProof.Rows PySem.HandSPX
/-! ### the text of __init__ -/
def iA (p1 p2 : Pos) : Arguments := { posonlyargs := [], args := [{ arg := "self", annotation := none, pos := p1 }, { arg := "name", annotation := none, pos := p2 }], vararg := none, kwonlyargs := [], kw_defaults := [], kwarg := none, defaults := [] }
def iB (q1 q2 q3 q4 : Pos) : List Stmt := [.Assign [.Attribute (.Name "self" q1) "name" q2] (.Name "name" q3) q4]
def iS : Scope := { kind := .function, names := [(PySem.Str.ofString "self", .local), (PySem.Str.ofString "name", .local)], isGenerator := false, isCoroutine := false, more := [] }
/-- what the written part says of Low, at C, and of its __init__, at fI -/
structure LowTxtN (K : Frag) (mg : Str → Option Value) (cx qx : Str) (C fI : Addr) : Prop where
  gC : mg cx = some (.ref C)
  cls : ∃ nm q N bs bm sn sub ab col dd k0 k1 k2 k3 k5, K.lookup C = some (excClassObj nm q C N bs bm true sn sub ab col dd k0 k1 k2 k3 k5 "ValueError.__new__") ∧ refsVE bm = true
  sa : findIn K (.ref C) "__setattr__" = some (some (.builtin "object.__setattr__"))
  ga : findIn K (.ref C) "__getattribute__" = some (some (.builtin "BaseException.__getattribute__"))
  gg : findIn K (.ref C) "__getattr__" = some none
  noN : findIn K (.ref C) "name" = some none
  iC : findIn K (.ref C) "__init__" = some (some (.ref fI))
  tC : typeIn K (.ref fI) = some (.type "function")
  kC : keepIn K (.ref C) = true
  exC : subIn K (.ref C) (.type "BaseException") = some true
  tyC : typeIn K (.ref C) = some (.type "type")
  hdC : hasDictIn K C = true
  te : exmOne K (.ref C) (.ref C) = some true
  fn : ∃ (oc : Value) (od : Option Addr) (doc pm : Value) (an : Option Addr) (cdv ct : Value) (osl : Array (Option Value)) (p1 p2 q1 q2 q3 q4 : Pos),
    K.lookup fI = some ⟨oc, od, .func (fnOf "__init__" qx (iA p1 p2) (iB q1 q2 q3 q4) iS .none .none doc pm an cdv ct), osl⟩ ∧ codeIn K cdv qx = true
theorem one_sizeN (v : Value) : [v].length ≤ sizeLine := by
  rw [sizeLine_eq]
  exact (by decide : 1 ≤ 16777216)
theorem kept_butN {K : Frag} {h h' : Heap} {x : Addr} (X : K.In h) (hx : K.lookup x = none) (k : ∀ b o, b ≠ x → h.get? b = some o → h'.get? b = some o) : K.In h' := fun a o e =>
  k a o (fun z => by rw [z, hx] at e; cases e) (X a o e)
theorem ldCN {M : Model} {s : Shared} {name : Str} {scope : Scope} {L a : Addr} {cd : Value} {m : Str → Option Value} {x : Str} {pos : Pos} {v : Value} {Q : Value → Shared → Prop} {A : Around} {E : Value → Shared → Prop} (hn : s.heap.Ns L m) (hv : m x = some v) (h : Q v s)
    (hk : scope.kind = .function := by rfl) (hl : (envOfC name scope L a cd).kindOf x = some .local := by rfl) (hd : (x == ("__debug__" : Str)) = false := by decide) :
    wpAny M A (eval (.Name x pos) (envOfC name scope L a cd)) Q E s := wpAny_Name (wpAny_loadName_local hk hl hn hv h) hd
/-- what __init__ leaves of a fresh exception at x -/
structure InitEndN (h h' : Heap) (x C dx t1 : Addr) (v : Value) : Prop where
  keep : ∀ b o, b ≠ x → h.get? b = some o → h'.get? b = some o
  obj : h'.get? x = some { cls := .ref C, dict := some dx, data := .fields #[.ref t1, .none, .none, .none, .bool false, .none] }
  dbig : h.objs.size ≤ dx
  dne : dx ≠ x
  ns : h'.Ns1 dx (fun y => if y = "name" then some v else none)
/-- a made Low -/
structure OwnMadeN (h h' : Heap) (e C d : Addr) (v : Value) : Prop where
  keep : ∀ b o, h.get? b = some o → h'.get? b = some o
  new : h.objs.size ≤ e
  obj : ∃ oe vs, h'.get? e = some oe ∧ oe.cls = .ref C ∧ oe.dict = some d ∧ oe.data = .fields vs ∧ vs[1]? = some .none
  dbig : h.objs.size ≤ d
  dne : d ≠ e
  ns : h'.Ns1 d (fun y => if y = "name" then some v else none)
section
variable {prog : Program} {w : World} {A : Around} {E : Value → Shared → Prop} {R : Result → Shared → Prop} {s : Shared} {K : Frag} {mg : Str → Option Value} {cx qx : Str} {C fI : Addr}
theorem low_initN (T : LowTxtN K mg cx qx C fI) {x t0 : Addr} {v : Value} (X : K.In s.heap) (hlim : s.heap.NoLimit) (hx : s.heap.get? x = some (excO C t0)) (hnx : K.lookup x = none) (hroom : A.depth < recursionLimit)
    (hq : ∀ h' tk dx, InitEndN s.heap h' x C dx t0 v → R (.ok (.ret .none)) { s with heap := h', toks := tk }) :
    codeAny (model prog w) A (.call (.ref fI) ⟨[.ref x, v], []⟩) R s := by
  obtain ⟨oc, od, doc, pm, an, cdv, ct, osl, p1, p2, q1, q2, q3, q4, ho, hcd⟩ := T.fn
  obtain ⟨nm, q, N, bs, bm, sn, sub, ab, col, dd, k0, k1, k2, k3, k5, hC, hbm⟩ := T.cls
  have hcl : clsIn K C = some { name := nm, bases := bs, mro := .ref C :: bm, ns := N, qualname := q, hasDict := true, slotNames := sn, subclasses := sub, abstract := ab, collection := col, hasDel := false } := by unfold clsIn; rw [hC] <;> rfl
  refine Att.call_fn (binds := [("self", .ref x), ("name", v)]) X hlim ho hcd hroom (BindsTo.of_eq (by first | rfl | with_unfolding_all rfl)) (by first | rfl | decide | with_unfolding_all rfl) (fun s₁ IC => ?_) rfl rfl rfl
  obtain ⟨h₁, tk₁, rfl⟩ := IC.toInCall.same
  have k : ∀ b o, s.heap.get? b = some o → h₁.get? b = some o := IC.toInCall.keep
  have hn := IC.toInCall.ns
  have hxL : s.heap.objs.size ≠ x := Nat.ne_of_gt (Heap.lt_size hx)
  have X₁ : K.In h₁ := X.keeps k
  have hx₁ := k _ _ hx
  -- self.by = by
  show wpAny _ _ (execs _ _) _ _ _
  refine wpAny_execs_cons (plainObj_wpAny_Assign_Attribute ?_)
  refine ldCN (v := v) hn (by first | rfl | with_unfolding_all rfl | kernel_rfl) (ldCN (v := .ref x) hn (by first | rfl | with_unfolding_all rfl | kernel_rfl) ?_)
  refine set_plain X₁ (ox := excO C t0) (od := none) ⟨hx₁, rfl, rfl, trivial⟩ T.sa ?_
  refine exc_osa X₁ hx₁ hcl (show refsVE (.ref C :: bm) = true from hbm) rfl T.noN (fun h₃ tk₃ dx k₃ dn dne hx₃ hn₃ => ?_)
  show wpAny _ _ (execs _ _) _ _ _
  have z : s.heap.objs.size < h₁.objs.size := hn.lt
  exact wpAny_execs_nil (hq h₃ tk₃ dx ⟨fun b o hb e => k₃ b o hb (k b o e), hx₃, Nat.le_of_lt (Nat.lt_of_lt_of_le z dn), dne, hn₃⟩)
theorem low_madeN (T : LowTxtN K mg cx qx C fI) {v : Value} (X : K.In s.heap) (hlim : s.heap.NoLimit) (hroom : A.depth + 1 < recursionLimit)
    (hq : ∀ h' tk e d, OwnMadeN s.heap h' e C d v → R (.ok (.ret (.ref e))) { s with heap := h', toks := tk }) :
    codeAny (model prog w) A (.call (.ref C) ⟨[v], []⟩) R s := by
  obtain ⟨nm, q, N, bs, bm, sn, sub, ab, col, dd, k0, k1, k2, k3, k5, hC, hbm⟩ := T.cls
  obtain ⟨hp, g, dr, tk, os⟩ := s
  have k : ∀ b o, hp.get? b = some o → ((hp.push (kdv_tup [v])).push (excO C hp.objs.size)).get? b = some o := fun b o e => Heap.get?_push_of_some _ (Heap.get?_push_of_some _ e)
  have hget : ((hp.push (kdv_tup [v])).push (excO C hp.objs.size)).get? (hp.objs.size + 1) = some (excO C hp.objs.size) := by heap_get
  have hnx : K.lookup (hp.objs.size + 1) = none := by
    cases e : K.lookup (hp.objs.size + 1) with
    | none => rfl
    | some o =>
      have z : hp.get? (hp.objs.size + 1) = some o := X _ _ e
      exact absurd (Nat.lt_of_succ_lt (Heap.lt_size z)) (Nat.lt_irrefl _)
  refine call_own F.excBase_ValueError (fun X => refsVE_contains X bm hbm) (X _ _ hC) (looks_findIn X T.iC) (fun self => bind_fn X self T.tC) (one_sizeN v) ?_
  refine low_initN (s := ⟨(hp.push (kdv_tup [v])).push (excO C hp.objs.size), g, dr, tk, os⟩) T (X.keeps k) (hlim.keeps k) hget hnx ?_ fun h' tk' dx ⟨k', hx, dn, dne, hns⟩ => ?_
  · show A.depth + 1 < recursionLimit
    exact hroom
  · have old : ∀ b o, hp.get? b = some o → h'.get? b = some o := fun b o e => k' b o (Nat.ne_of_lt (Nat.lt_succ_of_lt (Heap.lt_size e))) (k b o e)
    have z : hp.objs.size + 1 + 1 ≤ dx := by
      first
        | (simpa only [Heap.size_push] using dn)
        | exact dn
        | (have q := dn; rw [Heap.size_push, Heap.size_push] at q; exact q)
    exact ⟨rfl, hq h' tk' (hp.objs.size + 1) dx ⟨old, Nat.le_succ _, ⟨_, _, hx, rfl, rfl, rfl, rfl⟩, Nat.le_trans (Nat.le_trans (Nat.le_succ _) (Nat.le_succ _)) z, dne, hns⟩⟩
end
end LowXN
end PySem
namespace L2
open PySem PySem.Spec PyProof.Rows
theorem relO_lowN {v : V} {v' : Value} (r : RelV v v') (f : Str) : RelO (List.lookup f [(("name" : Str), v)]) (if f = "name" then some v' else none) := by
  by_cases hw : f = "name"
  · subst hw
    rw [if_pos rfl]
    have q : List.lookup ("name" : Str) [(("name" : Str), v)] = some v := by simp [List.lookup]
    rw [q]
    exact r
  · rw [if_neg hw]
    have qw : (f == ("name" : Str)) = false := by simpa using hw
    have q2 : List.lookup f [(("name" : Str), v)] = none := by simp [List.lookup, qw]
    rw [q2]
    trivial
section
variable {X : Cx} {cx qx : Str} {C fI : Addr}
/-- Low(e) -/
def tMkLowN (C : Addr) (ta : TA) : St → Hp → XK → Prop := fun σ H Q => ta σ H fun vs H1 => ∃ v, vs = [v] ∧ ∀ d, H1 d = none → Q (.ref C) (some d) (upd H1 d (.xd [(("name" : Str), v)]))
theorem pmk_lowN {a : Expr} {ta : TA} {p pos : Pos} {k : Nat} (T : PySem.LowXN.LowTxtN X.K X.mg cx qx C fI) (hr : Room k X.A) (ha : PA X [a] ta) (hg : Gl X cx) (hdb : (cx == ("__debug__" : Str)) = false := by decide)
    (he : starEach (a :: []) X.env = (false, eval a X.env) :: starEach [] X.env := by rfl) (hpl : (backTo pos (starEach [] X.env)).any (·.1) = false := by rfl) :
    PMk X (.Call (.Name cx p) [a] [] pos) (tMkLowN C ta) := by
  intro pins s σ H Q I h
  refine wpAny_Call_Name_kw (ld_glob I hg T.gC ?_ hdb)
  refine PySem.W.callWith_K (h₀ := X.base) I.ok.mod.kin T.kC (thn (ha.run pos pins s σ H _ I h) fun us s1 hh => ?_) he hpl
  obtain ⟨vs, H1, I1, r1, v, ev, q1⟩ := hh
  subst ev
  refine ⟨I1.kIn, ?_⟩
  cases r1 with
  | cons rv rn =>
    rename_i v' us'
    cases rn
    show wpAny _ _ (call (.ref C) [v']) _ _ _
    have hlim := I1.nolimit
    obtain ⟨hp, g, dr, tk, os⟩ := s1
    refine wpAny_call (PySem.LowXN.low_madeN T I1.kIn hlim (by have := hr.dp; omega) fun h' tk' e d M => ?_)
    show MkP X pins σ Q (.ref e) ⟨h', g, dr, tk', os⟩
    obtain ⟨oe, fv, hoe, hc, hd, hdat, h1⟩ := M.obj
    have hns := M.ns
    obtain ⟨G', g1, g2⟩ := restrict h' fun b => decide (b ≠ e)
    have gk : ∀ b, b ≠ e → G'.get? b = h'.get? b := fun b hb => g1 b (decide_eq_true hb)
    have ge : G'.get? e = none := g2 e (by simp)
    have old : ∀ b o, hp.get? b = some o → G'.get? b = some o := fun b o q => (gk b (Nat.ne_of_lt (Nat.lt_of_lt_of_le (Heap.lt_size q) M.new))).trans (M.keep b o q)
    have ob : ObjOk X.prog X.w (upd H1 d (.xd [(("name" : Str), v)])) G' d (.xd [(("name" : Str), v)]) :=
      ⟨_, hns.at (fun o q => (gk d M.dne).trans q), fun f => relO_lowN rv f⟩
    have J : Inv X pins σ (upd H1 d (.xd [(("name" : Str), v)])) ⟨G', g, dr, tk', os⟩ := I1.laid (t' := tk') old M.dbig ob
    refine ⟨e, oe, fv, ⟨G', g, dr, tk', os⟩, _, .ref C, some d, rfl, J, fun b o q => ?_, ge, hoe, ⟨hc, hd⟩, hdat, h1, ?_, rfl, I1.bare, raises_own T.exC T.tyC, q1 d (I1.hok.fresh M.dbig)⟩
    · by_cases hb : b = e
      · have q' : G'.get? b = some o := q
        rw [hb, ge] at q'; cases q'
      · exact (gk b hb).symm.trans q
    · rw [upd_ne (Ne.symm M.dne)]
      exact I1.hok.fresh M.new
/-- raise Low(e) -/
def tRaiseLowN (C : Addr) (W : WX) (ta : TA) : TS := fun _ σ H => tMkLowN C ta σ H fun cls d H' => W cls d σ H'
theorem ps_raiseLowN {a : Expr} {ta : TA} {W : WX} {p pos pos2 : Pos} {k : Nat} (hc : X.calm = true) (T : PySem.LowXN.LowTxtN X.K X.mg cx qx C fI) (hr : Room k X.A) (tk : Takes X W) (ha : PA X [a] ta) (hg : Gl X cx) (hdb : (cx == ("__debug__" : Str)) = false := by decide)
    (he : starEach (a :: []) X.env = (false, eval a X.env) :: starEach [] X.env := by rfl) (hpl : (backTo pos (starEach [] X.env)).any (·.1) = false := by rfl) :
    PS X (.Raise (some (.Call (.Name cx p) [a] [] pos)) none pos2) (tRaiseLowN C W ta) := ps_raise hc tk (pmk_lowN T hr ha hg hdb he hpl)
/-- low.by, low the exception that the suite holds (at a; its class cls, its dict d) -/
def tByLowN (C : Addr) (a : Addr) (cls : Value) (d : Option Addr) (te : TE) : TE := fun σ H Q => te σ H fun x H1 => x = .ref a ∧ cls = .ref C ∧ ∃ (dd : Addr) (v : V), d = some dd ∧ H1 dd = some (.xd [(("name" : Str), v)]) ∧ Q v H1
theorem pe_byLowN {a : Addr} {oe : Obj} {cls : Value} {d : Option Addr} {pn : List (Addr × Obj)} {e : Expr} {te : TE} {pos : Pos} (T : PySem.LowXN.LowTxtN X.K X.mg cx qx C fI) (hz : Zc cls d oe) (hf : ∃ vs, oe.data = .fields vs) (he : PE (X.suite a ((a, oe) :: pn)) e te)
    (hb : attributeBase e "name" X.env (eval e X.env) = eval e X.env := by rfl) :
    PE (X.suite a ((a, oe) :: pn)) (.Attribute e "name" pos) (tByLowN C a cls d te) := by
  refine ⟨fun pins s σ H Q I h => ?_⟩
  refine attr_of hb (thn (he.run pins s σ H _ I h) fun u s1 hh => ?_)
  obtain ⟨x, H1, I1, rx, ex, ec, dd, v, ed, ea, q⟩ := hh
  subst ex
  obtain rfl : u = Value.ref a := rx
  subst ec
  subst ed
  obtain ⟨ha, _⟩ := I1.pin (a, oe) (List.mem_append_left _ List.mem_cons_self)
  obtain ⟨vs, hd⟩ := hf
  have hx : ObjOk X.prog X.w H1 s1.heap dd (.xd [(("name" : Str), v)]) := I1.hok dd _ ea
  obtain ⟨mA, hns, hr⟩ := hx
  obtain ⟨od, ho, hl⟩ := lookIn_ns hns
  have l : List.lookup ("name" : Str) [(("name" : Str), v)] = some v := by simp [List.lookup]
  obtain ⟨u, hu, ru⟩ := RelO.some_of (v := v) (o := mA "name") (by rw [← l]; exact hr "name")
  have J : PySem.W.InstAt s1.heap a oe C (some od) := ⟨ha, hz.1, by unfold PySem.W.notCls; rw [hd] <;> rfl, by rw [hz.2]; exact ho⟩
  exact HandSPX.exc_get I1.kIn J T.ga T.gg T.exC (PySem.W.findObj_own T.hdC T.noN rfl (by rw [hl, hu])) (handed_of ru) ⟨v, H1, I1.tok _, ru, q⟩
end
end L2

set_option Elab.async false
set_option linter.all false
set_option maxRecDepth 100000
set_option maxHeartbeats 1000000
namespace Sv
open PySem L2 PyProof.Rows
/-! ## errors with the field place, name -/
/-- an own class of errors with the one field place -/
structure ExP (K : PySem.W.Frag) (mg : Str → Option Value) (cx : Str) : Prop where
  ex : ∃ (qx : Str) (C fI : Addr), PySem.LowXP.LowTxtP K mg cx qx C fI
section
variable {X : Cx} {W : WX} {a : Expr} {ga : M (List Dat)} {p pos pos2 : Pos} {cx : Str} {k : Nat}
theorem ds_raiseP (T : ExP X.K X.mg cx) (hc : X.calm = true) (hr : RoomG k X.A) (tk : Takes X W) (ha : DA X W [a] ga) (hg : Gl X cx) (hdb : (cx == ("__debug__" : Str)) = false := by decide)
    (he : starEach (a :: []) X.env = (false, eval a X.env) :: starEach [] X.env := by rfl) (hpl : (backTo pos (starEach [] X.env)).any (·.1) = false := by rfl) :
    DS X W (.Raise (some (.Call (.Name cx p) [a] [] pos)) none pos2) (raiseO cx "place" ga) := by
  obtain ⟨qx, C, fI, T⟩ := T.ex
  refine PS.imp (ps_raiseLowP hc T hr.1 tk ha hg hdb he hpl) fun D σ H ⟨z, H0, ρ, r, q⟩ => ⟨z, H0, ρ, r, (RunS.part q).mono fun ds H1 G1 ρ1 r1 s1 q1 vs hv => ?_⟩
  match ds, vs, hv, q1 with
  | [d], [v], .cons h1 .nil, q1 =>
    refine ⟨v, rfl, fun dx hdx => ?_⟩
    exact q1 (.ref C) (some dx) σ _ G1 (r1.new' _ hdx) (Same.refl _) ⟨C, T.gC, rfl, [("place", v)], upd_same, rfl, .cons h1 .nil⟩
end
/-- an own class of errors with the one field name -/
structure ExN (K : PySem.W.Frag) (mg : Str → Option Value) (cx : Str) : Prop where
  ex : ∃ (qx : Str) (C fI : Addr), PySem.LowXN.LowTxtN K mg cx qx C fI
section
variable {X : Cx} {W : WX} {a : Expr} {ga : M (List Dat)} {p pos pos2 : Pos} {cx : Str} {k : Nat}
theorem ds_raiseN (T : ExN X.K X.mg cx) (hc : X.calm = true) (hr : RoomG k X.A) (tk : Takes X W) (ha : DA X W [a] ga) (hg : Gl X cx) (hdb : (cx == ("__debug__" : Str)) = false := by decide)
    (he : starEach (a :: []) X.env = (false, eval a X.env) :: starEach [] X.env := by rfl) (hpl : (backTo pos (starEach [] X.env)).any (·.1) = false := by rfl) :
    DS X W (.Raise (some (.Call (.Name cx p) [a] [] pos)) none pos2) (raiseO cx "name" ga) := by
  obtain ⟨qx, C, fI, T⟩ := T.ex
  refine PS.imp (ps_raiseLowN hc T hr.1 tk ha hg hdb he hpl) fun D σ H ⟨z, H0, ρ, r, q⟩ => ⟨z, H0, ρ, r, (RunS.part q).mono fun ds H1 G1 ρ1 r1 s1 q1 vs hv => ?_⟩
  match ds, vs, hv, q1 with
  | [d], [v], .cons h1 .nil, q1 =>
    refine ⟨v, rfl, fun dx hdx => ?_⟩
    exact q1 (.ref C) (some dx) σ _ G1 (r1.new' _ hdx) (Same.refl _) ⟨C, T.gC, rfl, [("name", v)], upd_same, rfl, .cons h1 .nil⟩
end
/-! ## __init__: a store -/
section
variable {X : Cx} {W : WX} {e : Expr} {f : M Dat} {pos pos' p0 : Pos} {cn fl y : Str} {sts : List Stmt} {steps : List IStep}
theorem di_stE (c : CF X.K cn fl) (he : DE X W e f) (k : DI X W cn sts steps) (hN : X.N[0]? = some y) (hv : Vis X.env.scope y) (hd : (y == ("__debug__" : Str)) = false)
    (hcd : (y == ("__classdict__" : Str)) = false) (hs : swapsWith e (some (.Attribute (.Name y p0) fl pos')) pos.line X.env = pure false) : DI X W cn (.Assign [.Attribute (.Name y p0) fl pos'] e pos :: sts) (.st fl f :: steps) := di_st c he k hN hv hd hcd hs
theorem di_plE (he : DE X W e f) (k : DI X W cn sts steps) (hs : swapsWith e none pos.line X.env = pure false) : DI X W cn (.Expr e pos :: sts) (.pl f :: steps) := di_pl he k hs
end
end Sv

set_option Elab.async false
set_option linter.all false
set_option maxRecDepth 100000
set_option maxHeartbeats 1000000
namespace Sv
open PySem L2 PyProof.Rows
/-! ## a walk through a list or a tuple -/
section
variable {X : Cx} {W : WX} {e : Expr} {f : M Dat} {t : Tg} {tg : Expr}
theorem di_seq (he : DE X W e f) : DIt X W t tg e (f.un1L items) :=
  ⟨fun pins s σ H R I ⟨z, H0, ρ, r, q⟩ => (pi_seq he).run pins s σ H R I (by
    unfold M.un1L M.bnd at q
    cases ef : f ρ with
    | stuck => rw [ef] at q; exact q.elim
    | err cn fs ρ' =>
      rw [ef] at q
      refine .inl ⟨z, H0, ρ, r, ?_⟩
      rw [ef]
      exact q
    | ok d ρ' =>
      rw [ef] at q
      have q : Run (cc X W) z σ H0 (M.lift (items d) ρ') fun ds H1 G1 _ => ∀ J, Src X.K t G1 ds J → R J H1 := q
      obtain ⟨ds, ei, q2⟩ := Run.lift q
      cases d with
      | tup es =>
        cases ei
        refine .inl ⟨z, H0, ρ, r, ?_⟩
        rw [ef]
        intro H1 G1 r1 s1 v hv
        cases hv with
        | @tup a vs _ h1 h2 =>
          refine ⟨a, rfl, ⟨_, sameT r1.sub h1.sq⟩, q2 H1 G1 r1 s1 _ ⟨_, _, by rw [← h2.length]; exact walk_tup (xs := vs), fun H s => sameT s h1.sq, fun i v H H' d sm y hd => ?_⟩⟩
          obtain ⟨eH, ev⟩ := y
          obtain ⟨d', h3, h4⟩ := h2.getV ev
          rw [hd] at h3; cases h3
          exact ⟨.inl eH, gt_rep h4⟩
      | lst es =>
        cases ei
        refine .inr ⟨z, H0, ρ, r, ?_⟩
        rw [ef]
        intro H1 G1 r1 s1 v hv
        cases hv with
        | @lst a vs _ h1 h2 =>
          refine ⟨a, rfl, ⟨_, .inl (sameRd r1.sub h1)⟩, q2 H1 G1 r1 s1 _ ⟨_, _, by rw [← h2.length]; exact walk_list (xs := vs), fun H s => (Or.inl (sameRd s h1) : SqL X.K H a vs), fun i v H H' d sm y hd => ?_⟩⟩
          obtain ⟨eH, ev⟩ := y
          obtain ⟨d', h3, h4⟩ := h2.getV ev
          rw [hd] at h3; cases h3
          exact ⟨.inl eH, gt_rep h4⟩
      | _ => cases ei)⟩
end
/-! ## two loops in one comprehension -/
def lcL2 (t : Tg) (src : M (List Dat)) (t1 : Tg) (g : M Dat) : List Dat → List Dat → En → R (List Dat)
  | [], acc, ρ => .ok acc ρ
  | d :: ds, acc, ρ => match setT t d ρ with
    | none => .stuck
    | some ρ1 => match src ρ1 with
      | .ok es ρ2 => (match lcL t1 tYesM g es acc (unS t1.slots ρ2) with
        | .ok acc' ρ3 => lcL2 t src t1 g ds acc' (unS (t.slots ++ t1.slots) ρ3)
        | _ => .stuck)
      | _ => .stuck
def lcI2 (t : Tg) (src : M (List Dat)) (t1 : Tg) (g : M Dat) (ds : List Dat) : M (List Dat) := fun ρ => if (t.slots ++ t1.slots).all (isUn ρ) = true then lcL2 t src t1 g ds [] (unS (t.slots ++ t1.slots) ρ) else .stuck
def M.lcS2 (s : M (List Dat)) (t : Tg) (src : M (List Dat)) (t1 : Tg) (g : M Dat) : M (List Dat) := s.bnd fun ds => lcI2 t src t1 g ds
section
variable {c : Cc} {x : Fx} {σ : L2.St} {t t1 : Tg} {src : M (List Dat)} {g : M Dat} {Q : VK} {D : Addr} {ds : List Dat}
abbrev KQ (c : Cc) (x : Fx) (σ : L2.St) (Q : VK) : List Dat → Hp → Hp → En → Prop := fun es H' H1 ρ' => ∀ p, NewAt c.K x σ H' H1 ρ' p es → Q (.ref p) H'
def Lc2Inv (c : Cc) (x : Fx) (σ : L2.St) (t : Tg) (src : M (List Dat)) (t1 : Tg) (g : M Dat) (Q : VK) (G0 : Hp) (D : Addr) (ds : List Dat) (i : Nat) (H : Hp) : Prop :=
  ∃ (G : Hp) (ρ : En) (acc : List Dat) (av : List V), Rel c.K (x.add D (.lst av)) (L2.wipe σ (t.slots ++ t1.slots)) H G ρ ∧ Same G0 G ∧ RepA c.K G av acc ∧
    Run c x σ G (lcL2 t src t1 g (ds.drop i) acc ρ) (KQ c x σ Q)
theorem Lc2Inv.nw {G0 : Hp} {i : Nat} {H H' : Hp} (n : Nw H H') (h : Lc2Inv c x σ t src t1 g Q G0 D ds i H) : Lc2Inv c x σ t src t1 g Q G0 D ds i H' := by
  obtain ⟨G, ρ, acc, av, r, s, ra, q⟩ := h
  exact ⟨G, ρ, acc, av, n.rel r, s, ra, q⟩
/-- within a turn of the outer loop: es.drop j is still to be run, then k -/
def InInv (c : Cc) (x : Fx) (σ2 : L2.St) (t1 : Tg) (g : M Dat) (k : Hp → List Dat → En → Prop) (G0 : Hp) (D : Addr) (es : List Dat) (j : Nat) (H : Hp) : Prop :=
  ∃ (G : Hp) (ρ : En) (acc : List Dat) (av : List V), Rel c.K (x.add D (.lst av)) (L2.wipe σ2 t1.slots) H G ρ ∧ Same G0 G ∧ RepA c.K G av acc ∧
    (match lcL t1 tYesM g (es.drop j) acc ρ with | .ok acc' ρ3 => k G acc' ρ3 | _ => False)
theorem InInv.nw {σ2 : L2.St} {k : Hp → List Dat → En → Prop} {G0 : Hp} {es : List Dat} {j : Nat} {H H' : Hp} (n : Nw H H') (h : InInv c x σ2 t1 g k G0 D es j H) : InInv c x σ2 t1 g k G0 D es j H' := by
  obtain ⟨G, ρ, acc, av, r, s, ra, q⟩ := h
  exact ⟨G, ρ, acc, av, n.rel r, s, ra, q⟩
theorem in_turn {c0 : Cc} (hK : c0.K = c.K) {σ2 : L2.St} {k : Hp → List Dat → En → Prop} (hk : ∀ G G' acc ρ, Same G G' → k G acc ρ → k G' acc ρ) {G0 : Hp} {es : List Dat} {j : Nat} {d : Dat} {v : V} {H : Hp} (hd : es[j]? = some d) (hv : GT c.K t1 d v G0 H) (nD : ∀ u, (D, u) ∉ x.rs) (hio : ∀ j ∈ t1.slots, x.io j = none)
    (h : InInv c x σ2 t1 g k G0 D es j H) :
    gT c.K t1 v (L2.wipe σ2 t1.slots) H fun σ3 H5 => L2.wipe σ3 t1.slots = L2.wipe σ2 t1.slots ∧ tDT c0 tYesM σ3 H5 fun b H6 =>
      if b = true then tD c0 g σ3 H6 fun y H7 => ∃ acc, H7 D = some (.lst acc) ∧ acc.length < sizeLine ∧ InInv c x σ2 t1 g k G0 D es (j + 1) (upd H7 D (.lst (acc ++ [y]))) else InInv c x σ2 t1 g k G0 D es (j + 1) H6 := by
  obtain ⟨G, ρ, acc, av, r, s, ra, q⟩ := h
  obtain ⟨hl, e⟩ := List.getElem?_eq_some_iff.mp hd
  rw [List.drop_eq_getElem_cons hl, e] at q
  unfold lcL at q
  cases q1 : setT t1 d ρ with
  | none => rw [q1] at q; exact q.elim
  | some ρ1 =>
    rw [q1] at q; try dsimp only at q
    refine hv _ G ρ ρ1 _ _ r s q1 fun σ3 r3 w => ⟨w.trans (wipe_wipe _ _), x.add D (.lst av), G, ρ1, hK ▸ r3, ?_⟩
    have w3 : L2.wipe σ3 t1.slots = L2.wipe σ2 t1.slots := w.trans (wipe_wipe _ _)
    intro H6 G6 r6 s6
    rw [hK] at r6
    rw [if_pos rfl]
    refine ⟨x.add D (.lst av), G6, ρ1, hK ▸ r6, ?_⟩
    have q : (match (match g ρ1 with
        | .ok y ρ3 => if acc.length < 1000000 then lcL t1 tYesM g (es.drop (j + 1)) (acc ++ [y]) (unS t1.slots ρ3) else .stuck
        | _ => .stuck) with | .ok acc' ρ3 => k G acc' ρ3 | _ => False) := q
    cases q3 : g ρ1 with
    | stuck => rw [q3] at q; exact q.elim
    | err cn fs ρ' => rw [q3] at q; exact q.elim
    | ok y ρ3 =>
      rw [q3] at q; try dsimp only at q
      intro H7 G7 r7 s7 yv hy
      rw [hK] at r7 hy
      obtain ⟨p1, p2, p3, p4⟩ := r7.at
      split at q
      · rename_i acc' ρ4 eq
        split at eq
        · rename_i hz
          have s67 := s6.trans s7
          refine ⟨av, p1, Nat.lt_of_lt_of_le (by rw [ra.length]; exact hz) (by decide), G7, unS t1.slots ρ3, acc ++ [y], av ++ [yv], ?_, s.trans s67, (ra.mono s67).app (.cons hy .nil), ?_⟩
          · have r8 : Rel c.K (x.add D (.lst (av ++ [yv]))) σ3 (upd H7 D (.lst (av ++ [yv]))) G7 ρ3 := r7.rupd nD
            exact w3 ▸ r8.wipe fun j hj => hio j hj
          · rw [eq]
            exact hk _ _ _ _ s67 q
        · cases eq
      · exact q.elim
theorem wipe_app (σ : L2.St) : ∀ (us vs : List Nat), L2.wipe σ (us ++ vs) = L2.wipe (L2.wipe σ vs) us
  | [], _ => rfl
  | u :: us, vs => by
    show (L2.wipe σ (us ++ vs)).set u none = (L2.wipe (L2.wipe σ vs) us).set u none
    rw [wipe_app σ us vs]
theorem wipe_sub (σ : L2.St) (us vs : List Nat) : L2.wipe (L2.wipe σ vs) (us ++ vs) = L2.wipe σ (us ++ vs) := by
  rw [wipe_app, wipe_wipe, ← wipe_app]
theorem set_wipe (σ : L2.St) (i : Nat) : ∀ us : List Nat, (L2.wipe σ us).set i none = L2.wipe (σ.set i none) us
  | [] => rfl
  | u :: us => by
    show ((L2.wipe σ us).set u none).set i none = (L2.wipe (σ.set i none) us).set u none
    rw [← set_wipe σ i us]
    by_cases h : u = i
    · subst h; rfl
    · exact List.set_comm _ _ h
theorem wipe_comm (σ : L2.St) (vs : List Nat) : ∀ us : List Nat, L2.wipe (L2.wipe σ vs) us = L2.wipe (L2.wipe σ us) vs
  | [] => rfl
  | u :: us => by
    show (L2.wipe (L2.wipe σ vs) us).set u none = L2.wipe ((L2.wipe σ us).set u none) vs
    rw [wipe_comm σ vs us, set_wipe]
theorem wipe_turn {σ σ2 : L2.St} {us vs : List Nat} (w : L2.wipe σ2 us = L2.wipe (L2.wipe σ (us ++ vs)) us) : L2.wipe σ2 (us ++ vs) = L2.wipe σ (us ++ vs) := by
  have e : L2.wipe (L2.wipe σ (us ++ vs)) us = L2.wipe σ (us ++ vs) := by rw [wipe_app, wipe_wipe]
  rw [e] at w
  rw [wipe_app σ2, wipe_comm, w, wipe_app, wipe_comm, wipe_wipe]
end
section
variable {X : Cx} {W : WX} {tg iter elt tg1 iter1 : Expr} {t t1 : Tg} {s src : M (List Dat)} {pos : Pos} {scope : Scope} {own : List (Str × Nat)} {g : M Dat}
theorem dn_lc2 (hc : X.calm = true) (hN : X.N.Nodup) (hi : DIt X W t tg iter s) (ok : BlkOk X.N X.env.scope scope own) (hown : own.map (·.2) = t.slots ++ t1.slots)
    (hg : ∀ (s : Shared) (H : Hp) (C : Addr) (cl : List (Str × Addr)) (fp : List Addr), PG (X.blk s H scope (compEnvC scope cl C X.env) fp) tg (gT X.K t)) (hi1 : ∀ (s : Shared) (H : Hp) (C : Addr) (cl : List (Str × Addr)) (fp : List Addr), DIt (X.blk s H scope (compEnvC scope cl C X.env) fp) W0 t1 tg1 iter1 src)
    (hg1 : ∀ (s : Shared) (H : Hp) (C : Addr) (cl : List (Str × Addr)) (fp : List Addr), PG (X.blk s H scope (compEnvC scope cl C X.env) fp) tg1 (gT X.K t1)) (he : ∀ (s : Shared) (H : Hp) (C : Addr) (cl : List (Str × Addr)) (fp : List Addr), DE (X.blk s H scope (compEnvC scope cl C X.env) fp) W0 elt g)
    (hs : ∀ x, foldedSetIterable iter X.env x = pure x := by intro _; rfl) (hs1 : ∀ env x, foldedSetIterable iter1 env x = pure x := by intro _ _; rfl) :
    DN X W (.ListComp elt [⟨tg, iter, [], 0⟩, ⟨tg1, iter1, [], 0⟩] scope pos) (s.lcS2 t src t1 g) :=
  PE.imp (pe_lc2 (wi1 := fun σ H R => ∃ (z : Fx) (H0 : Hp) (ρ : En), Rel X.K z σ H H0 ρ ∧ Run (cc X W0) z σ H0 (src ρ) fun ds H1 G1 _ => ∀ J, Src X.K t1 G1 ds J → R J H1) (tt := tDT (cc X W0) tYesM) (tt1 := tDT (cc X W0) tYesM) (te := tD (cc X W0) g) (vs1 := t1.slots) hc hN hi ok (fun i h => by rw [hown]; exact List.mem_append_right _ h) hg (fun _ _ _ _ _ => dts_nil) hi1 hg1 (fun _ _ _ _ _ => dts_nil) he hs hs1) fun σ H Q ⟨z, H0, ρ, r, q⟩ => by
    rw [hown]
    refine ⟨z, H0, ρ, r, (Run.bnd q).mono fun ds H1 G1 ρ1 r1 s1 q1 J ⟨P, Y, w, h1, h2⟩ D hD => ?_⟩
    dsimp only at q1
    unfold lcI2 at q1
    split at q1
    · rename_i hu
      rw [List.all_eq_true] at hu
      have hio : ∀ j ∈ t.slots ++ t1.slots, z.io j = none := fun j hj => r1.noio fun ds e => by rw [isUn_eq (hu j hj)] at e; cases e
      have nD := r1.nors hD
      have r0 : Rel X.K (z.add D (.lst [])) σ (upd H1 D (.lst [])) G1 ρ1 := r1.start hD
      refine ⟨fun i m H => m = ds.length - i ∧ i ≤ ds.length ∧ Lc2Inv (cc X W) z σ t src t1 g Q G1 D ds i H, ⟨_, rfl, Nat.zero_le _, G1, _, [], [], r0.wipe hio, Same.refl _, .nil, q1⟩, ?_⟩
      rintro i m H ⟨rfl, hi, p⟩
      have sm : Same G1 H := by
        obtain ⟨G, _, _, _, r2, s2, _⟩ := p
        exact s2.trans r2.sub
      by_cases hlt : i < ds.length
      · refine .inr ⟨w.goes i H hlt (h1 H sm), Lc2Inv (cc X W) z σ t src t1 g Q G1 D ds (i + 1), fun H' p' => ⟨ds.length - (i + 1), by omega, rfl, hlt, p'⟩, fun v H' y => ?_⟩
        obtain ⟨nw, gt⟩ := h2 i v H H' _ sm (w.yields i H v H' hlt (h1 H sm) y) (List.getElem?_eq_getElem hlt)
        obtain ⟨G, ρa, acc, av, r2, s2, ra, q2⟩ := Lc2Inv.nw nw p
        rw [List.drop_eq_getElem_cons hlt] at q2
        unfold lcL2 at q2
        cases e1 : setT t ds[i] ρa with
        | none => rw [e1] at q2; exact q2.elim
        | some ρb =>
          rw [e1] at q2; try dsimp only at q2
          refine gt _ G ρa ρb _ _ r2 s2 e1 fun σ2 r3 w2 => ⟨wipe_turn w2, z.add D (.lst av), G, ρb, r3, ?_⟩
          intro H3 G3 r4 s4
          show if true = true then _ else _
          rw [if_pos rfl]
          refine ⟨z.add D (.lst av), G3, ρb, r4, ?_⟩
          cases e2 : src ρb with
          | stuck => rw [e2] at q2; exact q2.elim
          | err cn fs ρ' => rw [e2] at q2; exact q2.elim
          | ok es ρc =>
            rw [e2] at q2; try dsimp only at q2
            intro H4 G4 r5 s5 J1 ⟨P1, Y1, w1, g1, g2⟩
            have hk : ∀ (Ga Gb : Hp) (a : List Dat) (ρ : En), Same Ga Gb → Run (cc X W) z σ Ga (lcL2 t src t1 g (ds.drop (i + 1)) a (unS (t.slots ++ t1.slots) ρ)) (KQ (cc X W) z σ Q) → Run (cc X W) z σ Gb (lcL2 t src t1 g (ds.drop (i + 1)) a (unS (t.slots ++ t1.slots) ρ)) (KQ (cc X W) z σ Q) := fun Ga Gb a ρ s q => Run.up q s
            have hio1 : ∀ j ∈ t1.slots, z.io j = none := fun j hj => hio j (List.mem_append_right _ hj)
            refine ⟨fun j m H => m = es.length - j ∧ j ≤ es.length ∧ InInv (cc X W) z σ2 t1 g (fun G a ρ => Run (cc X W) z σ G (lcL2 t src t1 g (ds.drop (i + 1)) a (unS (t.slots ++ t1.slots) ρ)) (KQ (cc X W) z σ Q)) G4 D es j H, ⟨_, rfl, Nat.zero_le _, G4, _, acc, av, r5.wipe hio1, Same.refl _, ra.mono (s4.trans s5), ?_⟩, ?_⟩
            · cases e3 : lcL t1 tYesM g es acc (unS t1.slots ρc) with
              | stuck => rw [e3] at q2; exact q2.elim
              | err cn fs ρ' => rw [e3] at q2; exact q2.elim
              | ok acc' ρd =>
                rw [e3] at q2
                show match lcL t1 tYesM g es acc (unS t1.slots ρc) with | .ok acc' ρ3 => _ | _ => False
                rw [e3]
                exact hk _ _ _ _ (s4.trans s5) q2
            · rintro j m2 Hj ⟨rfl, hj, pj⟩
              have smj : Same G4 Hj := by
                obtain ⟨G, _, _, _, r6, s6, _⟩ := pj
                exact s6.trans r6.sub
              by_cases hlj : j < es.length
              · refine .inr ⟨w1.goes j Hj hlj (g1 Hj smj), _, fun H' p' => ⟨es.length - (j + 1), by omega, rfl, hlj, p'⟩, fun v H' y => ?_⟩
                obtain ⟨nw1, gt1⟩ := g2 j v Hj H' _ smj (w1.yields j Hj v H' hlj (g1 Hj smj) y) (List.getElem?_eq_getElem hlj)
                exact in_turn (c := cc X W) (c0 := cc X W0) rfl hk (List.getElem?_eq_getElem hlj) gt1 nD hio1 (InInv.nw nw1 pj)
              · obtain rfl : j = es.length := by omega
                refine .inl ⟨w1.stops Hj (g1 Hj smj), ?_⟩
                obtain ⟨G, ρj, accj, avj, r6, s6, ra6, q6⟩ := pj
                rw [List.drop_length] at q6
                have r7 := r6.wipe hio
                rw [wipe_sub, wipe_turn w2] at r7
                exact ⟨G, _, accj, avj, r7, s2.trans (s4.trans (s5.trans s6)), ra6, q6⟩
      · obtain rfl : i = ds.length := by omega
        refine .inl ⟨w.stops H (h1 H sm), ?_⟩
        obtain ⟨G, ρa, acc, av, r2, s2, ra, q2⟩ := p
        rw [List.drop_length] at q2
        have r3 : Rel X.K (z.add D (.lst av)) σ H G ρa := r2.weak (wipe_length σ _).symm fun j v e => (wipe_some e).1
        obtain ⟨p1, p2, p3, p4⟩ := r3.at
        exact q2 H G r3.drop (Same.refl _) D ⟨p3, p2, p4, nD, av, p1, ra⟩
    · exact q1.elim
end
end Sv

set_option Elab.async false
set_option linter.all false
set_option maxRecDepth 100000
set_option maxHeartbeats 1000000
namespace Sv
open PySem L2 PyProof.Rows
/-! ## raise C(), C without fields -/
structure Ex0 (K : PySem.W.Frag) (mg : Str → Option Value) (cx : Str) : Prop where
  ex : ∃ (C : Addr) (bm : List Value) (B nid iid : String), ExcBaseFacts B nid iid bm ∧ PySem.W.excIn K C bm nid = true ∧ mg cx = some (.ref C) ∧ PySem.W.keepIn K (.ref C) = true ∧ PySem.W.subIn K (.ref C) (.type "BaseException") = some true ∧ PySem.W.typeIn K (.ref C) = some (.type "type")
section
variable {X : Cx} {W : WX} {e a b o : Expr} {f g h : M Dat} {ga : M (List Dat)} {p pos pos2 apos cpos : Pos} {cx : Str} {k : Nat}
def raise0 (cx : Str) : En → O := fun ρ => .err cx [] ρ
theorem ds_raise0 (T : Ex0 X.K X.mg cx) (hc : X.calm = true) (tk : Takes X W) (hg : Gl X cx) (hdb : (cx == ("__debug__" : Str)) = false := by decide) : DS X W (.Raise (some (.Call (.Name cx p) [] [] pos)) none pos2) (raise0 cx) := by
  obtain ⟨C, bm, B, nid, iid, F, q, gC, kC, exC, tyC⟩ := T.ex
  have mk : PMk X (.Call (.Name cx p) [] [] pos) (fun _ H Q => Q (.ref C) none H) := fun pins s σ H Q I h => by
    refine wpAny_Call_Name_kw (ld_glob I hg gC (PySem.W.callWith_K0 I.kIn kC ?_) hdb)
    obtain ⟨bm', N, nm, qn, bs, hdct, sn, sub, ab, col, dd, k0, k1, k2, k3, k5, mN, hC, hN, hni, T'⟩ := exc_obj I.kIn q
    exact wpAny_call_exc_subT F T' hC hN hni (fun h' e hm => mk_of I hm (raises_own exC tyC) h (I.hok.gone hm.new)) (Nat.zero_le _)
  exact PS.imp (ps_raise hc tk mk) fun D σ H ⟨z, H0, ρ, r, q⟩ => q (.ref C) none σ H H0 r (Same.refl _) ⟨C, gC, rfl, rfl⟩
/-! ## slices of lists and tuples -/
def rSlF (K : PySem.W.Frag) : V → Option Int → Option Int → Hp → VK → Prop := fun x lo hi H Q => ∃ (a : Addr) (xs : List V), x = .ref a ∧ SqT K H a xs ∧ (HT.sIx xs.length 0 lo = 0 ∧ HT.sIx xs.length xs.length hi = xs.length → Q (.ref a) H) ∧
  (¬ (HT.sIx xs.length 0 lo = 0 ∧ HT.sIx xs.length xs.length hi = xs.length) → ∀ (p : Addr) (o : Obj), H p = none → o.dict = none → Q (.ref p) (upd H p (.frz o (.tup (cutV xs lo hi)))))
theorem sl_tupF : SlR X (rSlF X.K) := by
  intro pins s σ H x v vl vu lo hi sl Q I rx hs pl pu ⟨a, xs, ex, hx, q1, q2⟩
  subst ex
  obtain rfl : v = .ref a := rx
  obtain ⟨its, r, ht, hz⟩ := I.tuple hx
  have len : its.toArray.size = xs.length := by rw [List.size_toArray]; exact r.length.symm
  refine ⟨"tuple", _, slot_tuple_getitem.lookup, ht.typeIs, ?_⟩
  by_cases hw : HT.sIx xs.length 0 lo = 0 ∧ HT.sIx xs.length xs.length hi = xs.length
  · exact getItem_tuple_whole ht hs pl pu (by rw [len]; exact hw) ⟨.ref a, H, I, rfl, q1 hw⟩
  · refine HT.getItem_tuple_cut ht hs pl pu (by rw [len]; exact hw) ?_ (by rw [len]; exact hz)
    rw [len]
    exact ⟨.ref s.heap.objs.size, _, tupO_laid (t' := s.toks) I (fun b ob z => Heap.get?_push_of_some _ z) (Nat.le_refl _) (Heap.get?_push_size _ rfl) ((r.drop _).take _) (Nat.le_trans (cutV_length xs lo hi) hz), rfl, q2 hw _ _ (I.hok.fresh (Nat.le_refl _)) rfl⟩
def cutL (ds : List Dat) (lo hi : Option Int) : List Dat := (ds.drop (HT.sIx ds.length 0 lo)).take (HT.sIx ds.length ds.length hi - HT.sIx ds.length 0 lo)
def cutAD (d : Dat) (lo hi : Option Int) : Option Dat := match d with
  | .lst ds => some (.lst (cutL ds lo hi))
  | .tup ds => some (.tup (cutL ds lo hi))
  | _ => none
def M.cutA (f : M Dat) (lo hi : Option (M Dat)) : M Dat := f.bnd fun d => (M.part lo).bnd fun i => (M.part hi).bnd fun j => M.lift (cutAD d i j)
theorem de_cutA {lo hi : Option Expr} {gl gh : Option (M Dat)} {p2 : Pos} (he : DE X W e f) (hl : DO X W lo (M.part gl)) (hh : DO X W hi (M.part gh)) : DE X W (.Subscript e (.Slice lo hi none p2) pos) (f.cutA gl gh) :=
  PE.imp (pe_slice (SlR.or sl_list sl_tupF) he hl hh) fun σ H Q ⟨z, H0, ρ, r, q⟩ => part r q fun d v H1 G1 ρ1 r1 s1 hv q1 => ⟨z, G1, ρ1, r1, (Run.bnd q1).mono fun i H2 G2 ρ2 r2 s2 q2 => ⟨z, G2, ρ2, r2, (Run.bnd q2).mono fun j H3 G3 ρ3 r3 s3 q3 => by
    obtain ⟨dz, e, q4⟩ := Run.lift q3
    cases d with
    | lst ds =>
      cases e
      cases hv with
      | @lst ad vs _ h1 h2 =>
        refine .inl ⟨ad, vs, rfl, .inl (sameRd ((s2.trans s3).trans r3.sub) h1), fun p hp => ?_⟩
        have g := Grow.new (o := .lst (cutV vs i j)) r3.sub hp
        refine q4 _ _ (g.rel r3) g.s _ (Rep.newL (r3.sub.free hp) ?_)
        unfold cutV
        rw [h2.length]
        exact ((h2.mono (s2.trans s3)).drop).take
    | tup ds =>
      cases e
      cases hv with
      | @tup ad vs _ h1 h2 =>
        refine .inr ⟨ad, vs, rfl, sameT ((s2.trans s3).trans r3.sub) h1.sq, fun w => ?_, fun w p o hp hd => ?_⟩
        · refine q4 _ _ r3 (Same.refl _) _ (.tup (h1.mono (s2.trans s3)) ?_)
          rw [h2.length] at w
          have e : cutL ds i j = ds := by unfold cutL; rw [w.1, w.2, List.drop_zero, Nat.sub_zero, List.take_length]
          rw [e]
          exact h2.mono (s2.trans s3)
        · have g := Grow.new (o := .frz o (.tup (cutV vs i j))) r3.sub hp
          refine q4 _ _ (g.rel r3) g.s _ (Rep.newT (r3.sub.free hp) hd ?_)
          unfold cutV cutL
          rw [h2.length]
          exact ((h2.mono (s2.trans s3)).drop).take
    | _ => cases e⟩⟩
/-! ## d.get(k, x) -/
def datKey : Dat → Option Key
  | .int i => some (.inl i)
  | .str x => some (.inr x)
  | _ => none
def findD : List Key → List Dat → Key → Option Dat
  | k :: ks, d :: ds, x => if k = x then some d else findD ks ds x
  | _, _, _ => none
theorem findD_at {K : PySem.W.Frag} {H : Hp} {x : Key} : ∀ {kvs : List (Key × V)} {ds : List Dat}, RepA K H (kvs.map (·.2)) ds → (valV kvs x = none ∧ findD (kvs.map (·.1)) ds x = none) ∨ ∃ v d, valV kvs x = some v ∧ findD (kvs.map (·.1)) ds x = some d ∧ Rep K H v d
  | [], _, .nil => .inl ⟨rfl, rfl⟩
  | kv :: kvs, d :: ds, .cons h1 h2 => by
    unfold valV
    rw [List.find?_cons]
    show _ ∨ ∃ v e, _ ∧ (if kv.1 = x then some d else findD (kvs.map (·.1)) ds x) = some e ∧ _
    by_cases h : kv.1 = x
    · rw [decide_eq_true h, if_pos h]
      exact .inr ⟨kv.2, d, rfl, rfl, h1⟩
    · rw [decide_eq_false h, if_neg h]
      rcases findD_at (x := x) h2 with ⟨e1, e2⟩ | r
      · refine .inl ⟨e1, ?_⟩
        show (if kv.1 = x then some d else findD (kvs.map (·.1)) ds x) = none
        rw [if_neg h]; exact e2
      · exact .inr r
def M.get2 (f g h : M Dat) : M Dat := f.bnd fun d => match d with
  | .dct ks ds => g.bnd fun y => h.bnd fun z => M.lift (match datKey y with
    | some k => some ((findD ks ds k).getD z)
    | none => none)
  | _ => fun _ => .stuck
theorem datKey_rep {K : PySem.W.Frag} {H : Hp} {y : Dat} {v : V} {k : Key} (e : datKey y = some k) (h : Rep K H v y) : v = kV k := by
  cases y with
  | int i => cases e; cases h; rfl
  | str x => cases e; cases h; rfl
  | _ => cases e
theorem de_get2 (hu : X.A.units + 1 < cLine) (ho : DE X W o f) (he : DE X W a g) (hf : DE X W b h) (m : M2 X o "get" apos a b cpos := by exact ⟨rfl, rfl, rfl, rfl⟩) : DE X W (.Call (.Attribute o "get" apos) [a, b] [] cpos) (f.get2 g h) :=
  PE.imp (pe_dget2 hu ho he hf m) fun σ H Q ⟨z, H0, ρ, r, q⟩ => part r q fun d v H1 G1 ρ1 r1 s1 hv q => by
    cases d with
    | dct ks ds =>
      cases hv with
      | @dct ad ob kvs _ _ h1 h2 h3 =>
        refine ⟨ad, rfl, .inl ⟨kvs, .inr ⟨ob, r1.sub _ _ h1⟩⟩, part r1 q fun y w H2 G2 ρ2 r2 s2 hw q2 => part r2 q2 fun x u H3 G3 ρ3 r3 s3 hx q3 => ?_⟩
        obtain ⟨dz, e, q4⟩ := Run.lift q3
        cases ek : datKey y with
        | none => rw [ek] at e; cases e
        | some k =>
          rw [ek] at e
          cases e
          have q4 := q4 H3 G3 r3 (Same.refl _)
          refine ⟨valV kvs k, .inl ⟨kvs, k, .inr ⟨ob, r3.sub _ _ (s3 _ _ (s2 _ _ h1))⟩, datKey_rep ek (hw.mono s3), rfl⟩, ?_⟩
          rcases findD_at (x := k) h3 with ⟨e1, e2⟩ | ⟨v, d, e1, e2, hr⟩
          · rw [h2] at e2
            rw [e2] at q4
            rw [e1]
            exact q4 _ hx
          · rw [h2] at e2
            rw [e2] at q4
            rw [e1]
            exact q4 _ (hr.mono (s2.trans s3))
    | _ => exact q.elim
end
end Sv

set_option Elab.async false
set_option linter.all false
set_option maxRecDepth 100000
set_option maxHeartbeats 1000000
namespace Sv
open PySem L2 PyProof.Rows
/-! ## sorted(d), the keys texts -/
def leS (a b : Str) : Prop := a.cps.toList ≤ b.cps.toList
theorem leS_of {a b : Str} (h : Spec.ltCps b.cps.toList a.cps.toList = false) : leS a b := by
  rw [ltCps_eq] at h
  exact List.not_lt.mp (of_decide_eq_false h)
theorem rising_pw : ∀ {ys : List Str} {p : Str}, risingS p ys = true → (p :: ys).Pairwise leS
  | [], p, _ => List.pairwise_singleton _ _
  | y :: ys, p, h => by
    have h : (!Spec.ltCps y.cps.toList p.cps.toList && risingS y ys) = true := h
    rw [Bool.and_eq_true] at h
    have r := rising_pw h.2
    have l : leS p y := leS_of (by simpa using h.1)
    refine List.pairwise_cons.mpr ⟨fun z hz => ?_, r⟩
    rcases List.mem_cons.mp hz with e | e
    · rw [e]; exact l
    · exact List.le_trans l ((List.pairwise_cons.mp r).1 z e)
theorem sorted_pw : ∀ {ys : List Str}, sortedS ys = true → ys.Pairwise leS
  | [], _ => List.Pairwise.nil
  | y :: ys, h => rising_pw h
def insS (k : Str) : List Str → List Str
  | [] => [k]
  | n :: ns => if Spec.ltCps n.cps.toList k.cps.toList = true then n :: insS k ns else k :: n :: ns
def srtS : List Str → List Str
  | [] => []
  | n :: ns => insS n (srtS ns)
theorem insS_perm (k : Str) : ∀ ns : List Str, (insS k ns).Perm (k :: ns)
  | [] => .refl _
  | n :: ns => by
    unfold insS
    split
    · exact ((insS_perm k ns).cons n).trans (List.Perm.swap k n ns)
    · exact .refl _
theorem srtS_perm : ∀ ns : List Str, (srtS ns).Perm ns
  | [] => .refl _
  | n :: ns => (insS_perm n _).trans ((srtS_perm ns).cons n)
theorem insS_pw {k : Str} : ∀ {ns : List Str}, ns.Pairwise leS → (insS k ns).Pairwise leS
  | [], _ => List.pairwise_singleton _ _
  | n :: ns, h => by
    obtain ⟨h1, h2⟩ := List.pairwise_cons.mp h
    unfold insS
    split
    · rename_i l
      rw [ltCps_eq] at l
      refine List.pairwise_cons.mpr ⟨fun z hz => ?_, insS_pw h2⟩
      rcases List.mem_cons.mp ((insS_perm k ns).mem_iff.mp hz) with e | e
      · rw [e]; exact List.le_of_lt (of_decide_eq_true l)
      · exact h1 z e
    · rename_i l
      have l : leS k n := leS_of (by simpa using l)
      refine List.pairwise_cons.mpr ⟨fun z hz => ?_, h⟩
      rcases List.mem_cons.mp hz with e | e
      · rw [e]; exact l
      · exact List.le_trans l (h1 z e)
theorem srtS_pw : ∀ ns : List Str, (srtS ns).Pairwise leS
  | [] => List.Pairwise.nil
  | n :: ns => insS_pw (srtS_pw ns)
theorem srtS_eq {ys ks : List Str} (p : ys.Perm ks) (h : sortedS ys = true) : ys = srtS ks :=
  List.Perm.eq_of_pairwise (le := leS) (fun a b _ _ h1 h2 => by
    have e := List.le_antisymm h1 h2
    obtain ⟨⟨a⟩⟩ := a
    obtain ⟨⟨b⟩⟩ := b
    simp only at e
    rw [e]) (sorted_pw h) (srtS_pw ks) (p.trans (srtS_perm ks).symm)
def strKs : List Key → Option (List Str)
  | [] => some []
  | .inr x :: ks => match strKs ks with
    | some xs => some (x :: xs)
    | none => none
  | .inl _ :: _ => none
theorem strKs_eq : ∀ {ks : List Key} {xs : List Str}, strKs ks = some xs → ks = xs.map Sum.inr
  | [], _, e => by cases e; rfl
  | .inr x :: ks, xs, e => by
    unfold strKs at e
    cases q : strKs ks with
    | none => rw [q] at e; cases e
    | some ys => rw [q] at e; cases e; rw [strKs_eq q]; rfl
  | .inl _ :: _, _, e => by cases e
def sortD : List Dat → Option (List Dat)
  | [.dct ks _] => match strKs ks with
    | some xs => if xs.length < 64 then some ((srtS xs).map .str) else none
    | none => none
  | _ => none
theorem rep_strL {K : PySem.W.Frag} {H : Hp} : ∀ ns : List Str, RepA K H (ns.map V.str) (ns.map Dat.str)
  | [] => .nil
  | n :: ns => .cons (.str n) (rep_strL ns)
section
variable {X : Cx} {W : WX} {e a b o : Expr} {f g h : M Dat} {ga : M (List Dat)} {p pos pos2 apos cpos : Pos} {k : Nat}
theorem dn_sortD (hc : X.calm = true) (hg : Gl X "sorted") (hm : X.mg "sorted" = none) (ha : DA X W [e] ga) (he : starEach [e] X.env = (false, eval e X.env) :: starEach [] X.env := by rfl) : DN X W (.Call (.Name "sorted" p) [e] [] pos) (ga.bl sortD) :=
  PE.imp (pe_callB (call_sortedD hc) hg hm boot_sorted ha (by decide) (by decide) he) fun σ H Q ⟨z, H0, ρ, r, q⟩ => partA r q fun ds vs H1 G1 ρ1 r1 s1 hx q1 => by
    obtain ⟨es, e1, q2⟩ := Run.lift q1
    unfold sortD at e1
    split at e1
    · split at e1
      · rename_i ks _ xs ek
        split at e1
        · rename_i hl
          cases e1
          match vs, hx with
          | [v], .cons hv .nil =>
            cases hv with
            | @dct ad ob kvs _ _ h1 h2 h3 =>
              refine ⟨ad, kvs, xs, rfl, .inr ⟨ob, r1.sub _ _ h1⟩, h2.trans (strKs_eq ek), hl, fun ys l hp hs hl2 => ?_⟩
              rw [srtS_eq hp hs]
              obtain ⟨r2, n⟩ := newAt_upd r1 hl2 (rep_strL (K := X.K) (H := G1) (srtS xs))
              exact q2 _ G1 r2 (Same.refl _) l n
        · cases e1
      · cases e1
    · cases e1
/-! ## d[k] -/
def dixD (d e : Dat) : Option Dat := match d, datKey e with
  | .dct ks ds, some k => findD ks ds k
  | _, _ => none
theorem de_dix (hu : X.A.units + 1 < cLine) (ho : DE X W o f) (he : DE X W a g) (hs : NoSl a := by exact fun _ _ => rfl) : DE X W (.Subscript o a pos) (f.bin g dixD) :=
  PE.imp (pe_dget hu ho he hs) fun σ H Q ⟨z, H0, ρ, r, q⟩ => part r q fun d v H1 G1 ρ1 r1 s1 hv q1 => part r1 q1 fun y w H2 G2 ρ2 r2 s2 hw q2 => by
    obtain ⟨dz, e, q3⟩ := Run.lift q2
    unfold dixD at e
    split at e
    · rename_i ks ds k ek
      cases hv with
      | @dct ad ob kvs _ _ h1 h2 h3 =>
        rcases findD_at (x := k) h3 with ⟨e1, e2⟩ | ⟨v, d, e1, e2, hr⟩
        · rw [h2, e] at e2; cases e2
        · rw [h2, e] at e2
          cases e2
          exact ⟨ad, v, rfl, .inl ⟨kvs, k, .inr ⟨ob, r2.sub _ _ (s2 _ _ h1)⟩, datKey_rep ek hw, e1.symm⟩, q3 H2 G2 r2 (Same.refl _) _ (hr.mono s2)⟩
    · cases e
end
end Sv

set_option Elab.async false
set_option linter.all false
set_option maxRecDepth 100000
set_option maxHeartbeats 1000000
namespace Sv
open PySem L2 PyProof.Rows
section
variable {X : Cx} {W : WX} {elt tg iter : Expr} {ifs : List Expr} {scope : Scope} {own : List (Str × Nat)} {t : Tg} {tt : M Bool} {g : M Dat} {src : M (List Dat)} {pos : Pos}
/-- y = [.. for .. in a walk], y a plain local -/
theorem ds_setLcI (i : Nat) {spos : Pos} {y : Str} {py : Pos} (hc : X.calm = true) (hN : X.N.Nodup) (hy : X.N[i]? = some y) (hyl : X.env.scope.names.lookup y = some .local)
    (hsw : swapsWith (.ListComp elt [⟨tg, iter, ifs, 0⟩] scope pos) (some (.Name y py)) spos.line X.env = pure true) (hi : DIt X W t tg iter src) (ok : BlkOk X.N X.env.scope scope own) (hown : own.map (·.2) = t.slots)
    (hg : ∀ (s : Shared) (H : Hp) (C : Addr) (cl : List (Str × Addr)) (fp : List Addr), PG (X.blk s H scope (compEnvC scope cl C X.env) fp) tg (gT X.K t)) (ht : ∀ (s : Shared) (H : Hp) (C : Addr) (cl : List (Str × Addr)) (fp : List Addr), DTs (X.blk s H scope (compEnvC scope cl C X.env) fp) W0 ifs tt)
    (he : ∀ (s : Shared) (H : Hp) (C : Addr) (cl : List (Str × Addr)) (fp : List Addr), DE (X.blk s H scope (compEnvC scope cl C X.env) fp) W0 elt g) (hs : ∀ x, foldedSetIterable iter X.env x = pure x := by intro _; rfl) :
    DS X W (.Assign [.Name y py] (.ListComp elt [⟨tg, iter, ifs, 0⟩] scope pos) spos) (setNO (src.lcS t tt g) i) :=
  PS.imp (ps_setLc (tt := tDT (cc X W0) tt) (te := tD (cc X W0) g) hc hN hy hyl hsw hi ok hg ht he hs) fun Dn σ H ⟨z, H0, ρ, r, q⟩ => by
    rw [hown]
    have key : ∀ (Q : VK), tN (cc X W) (src.lcS t tt g) σ H Q → tLc (fun σ H R => ∃ (z : Fx) (H0 : Hp) (ρ : En), Rel X.K z σ H H0 ρ ∧ Run (cc X W) z σ H0 (src ρ) fun ds H1 G1 _ => ∀ J, Src X.K t G1 ds J → R J H1) (gT X.K t) (tDT (cc X W0) tt) (tD (cc X W0) g) t.slots σ H Q := fun Q ⟨z, H0, ρ, r, q⟩ => by
      refine ⟨z, H0, ρ, r, (Run.bnd q).mono fun ds H1 G1 ρ1 r1 s1 q1 J ⟨P, Y, w, h1, h2⟩ D hD => ?_⟩
      obtain ⟨nD, hio, st⟩ := lc_start (c := cc X W) r1 hD q1
      refine lc_it w (fun i H => LcInv (cc X W) z σ t tt g Q G1 D ds i H) st (fun i H2 _ wv => ?_) (fun i v H2 H3 hi wv y => ?_) fun H2 wv => lc_end (Nat.le_refl _) nD wv
      · obtain ⟨G, ρ2, acc, av, r2, s2, _⟩ := wv
        exact h1 H2 (s2.trans r2.sub)
      · have sm : Same G1 H2 := by
          obtain ⟨G, ρ2, acc, av, r2, s2, _⟩ := wv
          exact s2.trans r2.sub
        obtain ⟨nw, gt⟩ := h2 i v H2 H3 _ sm y (List.getElem?_eq_getElem hi)
        exact lc_turnG (c := cc X W) (c0 := cc X W0) rfl (List.getElem?_eq_getElem hi) gt nD hio (LcInv.nw nw wv)
    exact key (fun x H1 => gName i x σ H1 Dn.nx) ⟨z, H0, ρ, r, (RunS.part (σ := σ) q).mono fun ds H1 G1 ρ1 r1 s1 q1 p n => setN_run r1 n q1⟩
end
end Sv

set_option Elab.async false
set_option linter.all false
set_option maxRecDepth 100000
set_option maxHeartbeats 1000000
namespace Sv
open PySem L2 PyProof.Rows
/-! ## {k: v, ..} -/
def RepP (K : PySem.W.Frag) (H : Hp) (ps : List (V × V)) (as : List (Dat × Dat)) : Prop := RepA K H (ps.map (·.1)) (as.map (·.1)) ∧ RepA K H (ps.map (·.2)) (as.map (·.2))
def DPs (X : Cx) (W : WX) (pos : Pos) (keys : List (Option Expr)) (values : List Expr) (g : M (List (Dat × Dat))) : Prop := ∃ trs, PPs X pos keys values trs ∧ ∀ (z : Fx) (σ : L2.St) (H H0 : Hp) (ρ : En) (Q : List (V × V) → Hp → Prop), Rel X.K z σ H H0 ρ →
  Run (cc X W) z σ H0 (g ρ) (fun as H' H1 _ => ∀ ps, RepP X.K H1 ps as → Q ps H') → tPairs trs σ H Q
def M.consP (f h : M Dat) (g : M (List (Dat × Dat))) : M (List (Dat × Dat)) := f.bnd fun a => h.bnd fun b => g.bnd fun r => M.ret ((a, b) :: r)
def dKs : List (Dat × Dat) → Option (List Key)
  | [] => some []
  | (a, _) :: r => match datKey a, dKs r with
    | some k, some ks => if ks.any (fun j => decide (j = k)) = true then none else some (k :: ks)
    | _, _ => none
def dispD (as : List (Dat × Dat)) : Option Dat := match dKs as with
  | some ks => if ks.length ≤ 15 then some (.dct ks (as.map (·.2))) else none
  | none => none
theorem dKs_at {K : PySem.W.Frag} {H : Hp} : ∀ {as : List (Dat × Dat)} {ks : List Key} {ps : List (V × V)}, dKs as = some ks → RepP K H ps as → ∃ kvs : List (Key × V), ps = kvs.map (fun kv => (kV kv.1, kv.2)) ∧ kvs.map (·.1) = ks ∧ ks.Nodup ∧ RepA K H (kvs.map (·.2)) (as.map (·.2))
  | [], _, [], e, _ => by cases e; exact ⟨[], rfl, rfl, List.nodup_nil, .nil⟩
  | [], _, _ :: _, _, h => by cases h.1
  | _ :: _, _, [], _, h => by cases h.1
  | (a, b) :: as, ks, (x, y) :: ps, e, ⟨.cons h1 h2, .cons h3 h4⟩ => by
    unfold dKs at e
    cases ea : datKey a with
    | none => rw [ea] at e; cases e
    | some k =>
      cases er : dKs as with
      | none => rw [ea, er] at e; cases e
      | some ks' =>
        rw [ea, er] at e
        dsimp only at e
        split at e
        · cases e
        · rename_i nk
          cases e
          obtain ⟨kvs, e1, e2, e3, e4⟩ := dKs_at er ⟨h2, h4⟩
          refine ⟨(k, y) :: kvs, by rw [List.map_cons, ← e1, show x = kV k from datKey_rep ea h1], by rw [List.map_cons, e2], List.nodup_cons.mpr ⟨fun hm => nk (List.any_eq_true.mpr ⟨k, hm, decide_eq_true rfl⟩), e3⟩, .cons h3 e4⟩
theorem merge_new : ∀ {kvs acc : List (Key × V)}, (kvs.map (·.1)).Nodup → (∀ kv ∈ kvs, ∀ ac ∈ acc, ac.1 ≠ kv.1) → mergeK acc kvs = acc ++ kvs
  | [], acc, _, _ => (List.append_nil acc).symm
  | kv :: kvs, acc, hn, h => by
    obtain ⟨n1, n2⟩ := List.nodup_cons.mp hn
    show mergeK (putK acc kv.1 kv.2) kvs = _
    have e : putK acc kv.1 kv.2 = acc ++ [(kv.1, kv.2)] := by
      unfold putK
      rw [if_neg]
      intro z
      obtain ⟨ac, h1, h2⟩ := List.any_eq_true.mp z
      exact h kv List.mem_cons_self ac h1 (of_decide_eq_true h2)
    rw [e, merge_new n2]
    · rw [List.append_assoc]; rfl
    · intro x hx ac hac
      rcases List.mem_append.mp hac with m | m
      · exact h x (List.mem_cons_of_mem _ hx) ac m
      · rw [List.mem_singleton] at m
        subst m
        intro z
        have z : kv.1 = x.1 := z
        exact n1 (by show kv.1 ∈ _; rw [z]; exact List.mem_map_of_mem (f := (·.1)) hx)
theorem Rel.knowO {K : PySem.W.Frag} {x : Fx} {σ : L2.St} {H H0 : Hp} {ρ : En} {p : Addr} {o : HO} (r : Rel K (x.add p o) σ H H0 ρ) (nr : ∀ u, (p, u) ∉ x.rs) : Rel K x σ H (upd H0 p o) ρ ∧ Same H0 (upd H0 p o) ∧ H0 p = none := by
  obtain ⟨p1, p2, p3, p4⟩ := r.at
  obtain ⟨a, b⟩ := r.drop.knowI p1 p2 p3 p4 nr
  exact ⟨a, b, p2⟩
section
variable {X : Cx} {W : WX} {k v : Expr} {f h : M Dat} {g : M (List (Dat × Dat))} {pos : Pos} {ks : List (Option Expr)} {vs : List Expr}
theorem dps_nil : DPs X W pos [] [] (M.ret []) := ⟨[], pps_nil, fun z σ H H0 ρ Q r q => q H H0 r (Same.refl _) [] ⟨.nil, .nil⟩⟩
theorem dps_cons (hk : DE X W k f) (hv : DE X W v h) (hr : DPs X W pos ks vs g) : DPs X W pos (some k :: ks) (v :: vs) (M.consP f h g) := by
  obtain ⟨trs, hp, key⟩ := hr
  exact ⟨_, pps_cons hk hv hp, fun z σ H H0 ρ Q r q => part r q fun a x H1 G1 ρ1 r1 s1 hx q1 => part r1 q1 fun b y H2 G2 ρ2 r2 s2 hy q2 =>
    key z σ H2 G2 ρ2 _ r2 ((Run.bnd q2).mono fun as H3 G3 ρ3 r3 s3 q3 ps hp => q3 H3 G3 r3 (Same.refl _) ((x, y) :: ps) ⟨.cons (hx.mono (s2.trans s3)) hp.1, .cons (hy.mono s3) hp.2⟩)⟩
theorem de_disp (h : DPs X W pos ks vs g) (hall : ks.all (·.isSome) = true := by rfl) (hl : ks.length = vs.length := by rfl) (h0 : ks ≠ [] := by exact List.cons_ne_nil _ _) (h15 : ks.length ≤ 15 := by decide) : DE X W (.Dict ks vs pos) (g.bnd fun as => M.lift (dispD as)) := by
  obtain ⟨trs, hp, key⟩ := h
  refine PE.imp (pe_lockD (pe_disp hp hall hl h0 h15)) fun σ H Q ⟨z, H0, ρ, r, q⟩ => fun p hp => key (z.add p (.dK [])) σ _ H0 ρ _ (r.start hp) ?_
  have nr := r.nors hp
  have q := Run.bnd q
  have fin : ∀ (as : List (Dat × Dat)) (H' G' : Hp) (ρ' : En), Rel X.K (z.add p (.dK [])) σ H' G' ρ' → Same H0 G' → Run (cc X W) z σ G' (M.lift (dispD as) ρ') (fun d H1 G1 _ => ∀ v, Rep X.K G1 v d → Q v H1) → ∀ ps, RepP X.K G' ps as →
      H' p = some (.dK []) ∧ ∃ kvs : List (Key × V), ps = kvs.map (fun kv => (kV kv.1, kv.2)) ∧ kvs.length ≤ 15 ∧ ∃ (p' : Addr) (kvs' : List (Key × V)) (G : Hp), V.ref p = .ref p' ∧ upd H' p (.dK (mergeK [] kvs)) = upd G p' (.dK kvs') ∧ ∀ o, Q (V.ref p) (upd G p' (.frz o (.dK kvs'))) := fun as H' G' ρ' r' s' q' ps hps => by
    refine ⟨r'.at.1, ?_⟩
    obtain ⟨d, e, q2⟩ := Run.lift q'
    unfold dispD at e
    cases ek : dKs as with
    | none => rw [ek] at e; cases e
    | some kk =>
      rw [ek] at e
      dsimp only at e
      split at e
      · rename_i hz
        cases e
        obtain ⟨kvs, e1, e2, e3, e4⟩ := dKs_at ek hps
        have em : mergeK [] kvs = kvs := merge_new (acc := []) (by rw [e2]; exact e3) (fun _ _ _ z => nomatch z)
        refine ⟨kvs, e1, by rw [← List.length_map (f := (·.1)), e2]; exact hz, p, mergeK [] kvs, H', rfl, rfl, fun o => ?_⟩
        rw [em]
        obtain ⟨r3, s3, n3⟩ := (r'.rupd nr (o' := .frz o (.dK kvs))).knowO nr
        exact q2 _ _ r3 s3 _ (Rep.newD n3 e2 e4)
      · cases e
  cases eg : g ρ with
  | stuck => rw [eg] at q; exact q.elim
  | err cn fs ρ' => rw [eg] at q; exact fun cls d H' H1 r' s' x' => q cls d H' H1 r'.drop s' x'
  | ok as ρ' => rw [eg] at q; exact fun H' H1 r' s' ps hps => fin as H' H1 ρ' r' s' (q H' H1 r'.drop s') ps hps
end
end Sv

set_option Elab.async false
set_option linter.all false
set_option maxRecDepth 100000
set_option maxHeartbeats 1000000
namespace Sv
open PySem L2 PySem.Spec PyProof.Rows
/-! ## a + b by an own __add__, both of one class -/
section
variable {X : Cx} {W : WX} {a b : Expr} {ta tb : TE} {pos : Pos} {f g : M Dat} {c : CXT} {j k : Nat} {fa C : Addr} {fd : FuncData} {ps : List Str} {sp : L2.Sp} {E : L2.St → XK} {cn : Str} {G : List Dat → O}
theorem pe_addI (ha : PE X a ta) (hb : PE X b tb) (hs : PySem.W.findIn X.K (.ref C) "__add__" = some (some (.ref fa))) (hf : PySem.W.isFn X.K (.ref fa) = true) (hc : PySem.W.selfFirst X.K C = true) (F : FnG X.prog X.w X.K X.mg X.base c k fa fd ps sp) (hr : RoomG k X.A) (hbd : Binds X.K fd ps []) (hx : ∀ σ, PassesAt c X σ (E σ)) :
    PE X (.BinOp a .Add b pos) (fun σ H Q => ta σ H fun x H1 => tb σ H1 fun y H2 => ∃ (p q dx dy : Addr) (fs gs : List (Str × V)), x = .ref p ∧ y = .ref q ∧ H2 p = some (.ins C dx fs) ∧ H2 q = some (.ins C dy gs) ∧ sp [x, y] H2 Q (E σ)) :=
  ⟨fun pins s σ H Q I h => wpAny_BinOp (binT ha hb I h fun v u s2 x y H2 I2 rx ry ⟨p, q, dx, dy, fs, gs, ex, ey, h1, h2, hq⟩ => by
    subst ex ey
    obtain rfl : v = .ref p := rx
    obtain rfl : u = .ref q := ry
    obtain ⟨mA, J, _⟩ := ins_get I2.hok h1
    obtain ⟨mB, J', _⟩ := ins_get I2.hok h2
    obtain ⟨od, J, _⟩ := J.look
    obtain ⟨od', J', _⟩ := J'.look
    obtain ⟨m, hF⟩ := I2.fr
    have rv : Vals [V.ref p, V.ref q] [Value.ref p, Value.ref q] := .cons rfl (.cons rfl .nil)
    have hl := F.len _ _ _ _ hq
    have bt := hbd s2 [.ref p, .ref q] I2.kIn (by rw [List.append_nil]; exact hl)
    rw [List.append_nil] at bt
    refine PySem.W.binop_K (op := .Add) hF I2.ok.mod.kin J J'.type hc hs hf (wpAny_mono (wpAny_call (runG F hr bt (hx σ) I2 rv hq)) (fun w s' hw => ?_) fun _ _ e => e)
    obtain ⟨z, H', I', rz, e⟩ := hw
    cases w <;> first | exact ⟨z, H', I', rz, e⟩ | (exfalso; cases z <;> first | (cases rz; done) | (obtain ⟨_, rz⟩ := rz; cases rz)))⟩
def M.addI (f g : M Dat) (cn : Str) (G : List Dat → O) : M Dat := f.bnd fun d => g.bnd fun e ρ => if (isCn cn d && isCn cn e) = true then callR (G [d, e]) ρ else .stuck
theorem de_addI (D : MOk X.prog X.w X.K X.mg X.base j "__add__" 1 cn G) (sf : ∃ C, ClsAt X.K cn C ∧ PySem.W.selfFirst X.K C = true) (tk : Takes X W) (hr : RoomG k X.A) (hjk : j ≤ k) (ha : DE X W a f) (hb : DE X W b g) : DE X W (.BinOp a .Add b pos) (M.addI f g cn G) := by
  obtain ⟨C, fa, fd, ps, c1, c2, c3, F, hbd⟩ := D
  obtain ⟨C', s1, s2⟩ := sf
  obtain rfl := ClsAt.eq c1 s1
  refine PE.imp (pe_addI ha hb c3.at_ c3.fn s2 F (hr.mono hjk) hbd (fun σ => passAt tk σ)) fun σ H Q ⟨z, H0, ρ, r, q⟩ => part r q fun d v H1 G1 ρ1 r1 t1 hv q1 => part r1 q1 fun e u H2 G2 ρ2 r2 t2 hu q2 => ?_
  dsimp only at q2
  split at q2
  · rename_i hc
    rw [Bool.and_eq_true] at hc
    have hv := hv.mono t2
    obtain ⟨ad, D1, dx, fvs, fs, ds, ed, ev, h1, h2, h3, h4⟩ := isCn_at hc.1 hv
    obtain ⟨bd, D2, dy, gvs, gs, es, ee, eu, g1, g2, g3, g4⟩ := isCn_at hc.2 hu
    obtain rfl := ClsAt.eq c1 h2
    obtain rfl := ClsAt.eq c1 g2
    subst ev eu
    exact ⟨ad, bd, dx, dy, fvs, gvs, rfl, rfl, r2.sub _ _ h1, r2.sub _ _ g1, G2, _, r2.sub, .cons hv (.cons hu .nil), rfl, out_callR r2 q2⟩
  · exact q2.elim
end
end Sv

set_option Elab.async false
set_option linter.all false
set_option maxRecDepth 100000
set_option maxHeartbeats 1000000
namespace Sv
open PySem L2 PyProof.Rows
/-! ## a dict in the making: found = {}; .. found[k] = v ..; return found -/
abbrev Ent := List (Key × Dat)
def GOk (K : PySem.W.Frag) (H0 : Hp) (kvs : List (Key × V)) (acc : Ent) : Prop := kvs.map (·.1) = acc.map (·.1) ∧ RepA K H0 (kvs.map (·.2)) (acc.map (·.2))
def putE (acc : Ent) (k : Key) (d : Dat) : Ent := if (acc.any fun q => decide (q.1 = k)) = true then acc.map (fun q => if q.1 = k then (q.1, d) else q) else acc ++ [(k, d)]
theorem GOk.mono {K : PySem.W.Frag} {H H' : Hp} {kvs : List (Key × V)} {acc : Ent} (h : GOk K H kvs acc) (s : Same H H') : GOk K H' kvs acc := ⟨h.1, h.2.mono s⟩
theorem GOk.any {K : PySem.W.Frag} {H : Hp} {k : Key} : ∀ {kvs : List (Key × V)} {acc : Ent}, GOk K H kvs acc → (kvs.any fun q => decide (q.1 = k)) = acc.any fun q => decide (q.1 = k)
  | [], [], _ => rfl
  | [], _ :: _, h => by cases h.1
  | _ :: _, [], h => by cases h.1
  | kv :: kvs, q :: acc, ⟨h1, h2⟩ => by
    have h1 : kv.1 :: kvs.map (·.1) = q.1 :: acc.map (·.1) := h1
    obtain ⟨e1, e2⟩ := List.cons.inj h1
    cases h2 with
    | cons _ h2 => rw [List.any_cons, List.any_cons, e1, GOk.any ⟨e2, h2⟩]
theorem GOk.map {K : PySem.W.Frag} {H : Hp} {k : Key} {v : V} {d : Dat} (hv : Rep K H v d) : ∀ {kvs : List (Key × V)} {acc : Ent}, GOk K H kvs acc → GOk K H (kvs.map fun q => if q.1 = k then (q.1, v) else q) (acc.map fun q => if q.1 = k then (q.1, d) else q)
  | [], [], _ => ⟨rfl, .nil⟩
  | [], _ :: _, h => by cases h.1
  | _ :: _, [], h => by cases h.1
  | kv :: kvs, q :: acc, ⟨h1, h2⟩ => by
    have h1 : kv.1 :: kvs.map (·.1) = q.1 :: acc.map (·.1) := h1
    obtain ⟨e1, e2⟩ := List.cons.inj h1
    cases h2 with
    | cons h3 h2 =>
      obtain ⟨i1, i2⟩ := GOk.map hv (k := k) (GOk.mk' e2 h2)
      by_cases h : q.1 = k
      · refine ⟨?_, ?_⟩
        · rw [List.map_cons, List.map_cons, List.map_cons, List.map_cons, if_pos (e1.trans h), if_pos h, i1]
          show kv.1 :: _ = q.1 :: _
          rw [e1]
        · rw [List.map_cons, List.map_cons, List.map_cons, List.map_cons, if_pos (e1.trans h), if_pos h]
          exact .cons hv i2
      · refine ⟨?_, ?_⟩
        · rw [List.map_cons, List.map_cons, List.map_cons, List.map_cons, if_neg (fun z => h (e1.symm.trans z)), if_neg h, i1, e1]
        · rw [List.map_cons, List.map_cons, List.map_cons, List.map_cons, if_neg (fun z => h (e1.symm.trans z)), if_neg h]
          exact .cons h3 i2
where GOk.mk' {K : PySem.W.Frag} {H : Hp} {kvs : List (Key × V)} {acc : Ent} (a : kvs.map (·.1) = acc.map (·.1)) (b : RepA K H (kvs.map (·.2)) (acc.map (·.2))) : GOk K H kvs acc := ⟨a, b⟩
theorem GOk.put {K : PySem.W.Frag} {H : Hp} {k : Key} {v : V} {d : Dat} {kvs : List (Key × V)} {acc : Ent} (h : GOk K H kvs acc) (hv : Rep K H v d) : GOk K H (putK kvs k v) (putE acc k d) := by
  unfold putK putE
  rw [h.any]
  split
  · exact h.map hv
  · refine ⟨?_, ?_⟩
    · rw [List.map_append, List.map_append, h.1]; rfl
    · rw [List.map_append, List.map_append]; exact h.2.app (.cons hv .nil)
inductive OG where
  | nxt (acc : Ent) (ρ : En) | ret (d : Dat) (ρ : En) | err (cn : Str) (fs : List (Str × Dat)) (ρ : En) | stuck
def RunG (c : Cc) (x : Fx) (i : Nat) (p : Addr) (H0 : Hp) (o : OG) (D : Ends) : Prop := match o with
  | .nxt acc ρ => ∀ σ H H1 kvs, Rel c.K (x.add p (.dK kvs)) σ H H1 ρ → Same H0 H1 → σ[i]? = some (some (.ref p)) → GOk c.K H1 kvs acc → D.nx σ H
  | .ret d ρ => ∀ v σ H H1, Rel c.K x σ H H1 ρ → Same H0 H1 → Rep c.K H1 v d → D.rt v H
  | .err cn fs ρ => ∀ cls d σ H H1 kvs, Rel c.K (x.add p (.dK kvs)) σ H H1 ρ → Same H0 H1 → XAt c H H1 cn fs cls d → c.W cls d σ H
  | .stuck => False
theorem RunG.up {c : Cc} {x : Fx} {i : Nat} {p : Addr} {H0 H0' : Hp} {o : OG} {D : Ends} (h : RunG c x i p H0 o D) (s : Same H0 H0') : RunG c x i p H0' o D := by
  cases o with
  | nxt acc ρ => exact fun σ H H1 kvs r q => h σ H H1 kvs r (s.trans q)
  | ret d ρ => exact fun v σ H H1 r q => h v σ H H1 r (s.trans q)
  | err cn fs ρ => exact fun cls d σ H H1 kvs r q => h cls d σ H H1 kvs r (s.trans q)
  | stuck => exact h
def R.toG {α : Type} (r : R α) (g : α → En → OG) : OG := match r with
  | .ok a ρ => g a ρ
  | .err cn fs ρ => .err cn fs ρ
  | .stuck => .stuck
theorem RunG.part {α : Type} {c : Cc} {x : Fx} {i : Nat} {σ : L2.St} {H0 : Hp} {p : Addr} {kvs : List (Key × V)} {r : R α} {g : α → En → OG} {D : Ends} (h : RunG c x i p H0 (r.toG g) D) : Run c (x.add p (.dK kvs)) σ H0 r (fun a H' H1 ρ' => RunG c x i p H1 (g a ρ') D) := by
  cases r with
  | ok a ρ => exact fun H' H1 q s => RunG.up h s
  | err cn fs ρ => exact fun cls d H' H1 q s x => h cls d _ H' H1 _ q s x
  | stuck => exact h
abbrev FG := Ent → En → OG
def tG (c : Cc) (i : Nat) (φ : FG) : TS := fun D σ H => ∃ (x : Fx) (H0 : Hp) (ρ : En) (p : Addr) (kvs : List (Key × V)) (acc : Ent), Rel c.K (x.add p (.dK kvs)) σ H H0 ρ ∧ (∀ u, (p, u) ∉ x.rs) ∧ σ[i]? = some (some (.ref p)) ∧ GOk c.K H0 kvs acc ∧ RunG c x i p H0 (φ acc ρ) D
def DGS (X : Cx) (W : WX) (i : Nat) (s : Stmt) (φ : FG) : Prop := PS X s (tG (cc X W) i φ)
def DG (X : Cx) (W : WX) (i : Nat) (s : List Stmt) (φ : FG) : Prop := PSs X s (tG (cc X W) i φ)
def seqG (φ ψ : FG) : FG := fun acc ρ => match φ acc ρ with
  | .nxt acc' ρ' => ψ acc' ρ'
  | o => o
section
variable {X : Cx} {W : WX} {i : Nat} {st : Stmt} {sts sts2 : List Stmt} {φ ψ : FG} {e b : Expr} {f g : M Dat} {pos pos' p0 py : Pos} {y : Str}
theorem dg_nil : DG X W i [] .nxt := PSs.imp pss_nil fun D σ H ⟨x, H0, ρ, p, kvs, acc, r, nx, s0, ok, q⟩ => q σ H H0 kvs r (Same.refl _) s0 ok
theorem dg_cons (h : DGS X W i st φ) (k : DG X W i sts ψ) : DG X W i (st :: sts) (seqG φ ψ) :=
  PSs.imp (pss_cons h k) fun D σ H ⟨x, H0, ρ, p, kvs, acc, r, nx, s0, ok, q⟩ => by
    refine ⟨x, H0, ρ, p, kvs, acc, r, nx, s0, ok, ?_⟩
    unfold seqG at q
    cases e : φ acc ρ with
    | nxt acc' ρ' => rw [e] at q; exact fun σ' H' H1 kvs' r' s' z ok' => ⟨x, H1, ρ', p, kvs', acc', r', nx, z, ok', RunG.up q s'⟩
    | ret d ρ' => rw [e] at q; exact q
    | err cn fs ρ' => rw [e] at q; exact q
    | stuck => rw [e] at q; exact q.elim
def ifG (c : M Bool) (φ ψ : FG) : FG := fun acc ρ => (c ρ).toG fun b ρ' => if b = true then φ acc ρ' else ψ acc ρ'
theorem dg_if {c : Expr} {fc : M Bool} (hc : DT X W c fc) (ha : DG X W i sts φ) (hb : DG X W i sts2 ψ) : DGS X W i (.If c sts sts2 pos) (ifG fc φ ψ) :=
  PS.imp (ps_if hc ha hb) fun D σ H ⟨x, H0, ρ, p, kvs, acc, r, nx, s0, ok, q⟩ => by
    refine ⟨_, H0, ρ, r, (RunG.part q).mono fun b H1 G1 ρ1 r1 s1 q1 => ?_⟩
    cases b with
    | true => exact ⟨x, G1, ρ1, p, kvs, acc, r1, nx, s0, ok.mono s1, q1⟩
    | false => exact ⟨x, G1, ρ1, p, kvs, acc, r1, nx, s0, ok.mono s1, q1⟩
/-- found[b] = e -/
def putG (f g : M Dat) : FG := fun acc ρ => ((f.bnd fun d => g.bnd fun k => M.ret (d, k)) ρ).toG fun dk ρ' => match datKey dk.2 with
  | some k => if acc.length < 1000 then .nxt (putE acc k dk.1) ρ' else .stuck
  | none => .stuck
theorem dg_put (hu : X.A.units + 1 < cLine) (he : DE X W e f) (hb : DE X W b g) (hN : X.N[i]? = some y) (hv : Vis X.env.scope y) (hd : (y == ("__debug__" : Str)) = false) (hcd : (y == ("__classdict__" : Str)) = false)
    (hs : swapsWith e (some (.Subscript (.Name y py) b pos')) pos.line X.env = pure false) : DGS X W i (.Assign [.Subscript (.Name y py) b pos'] e pos) (putG f g) :=
  PS.imp (ps_dput hu (pe_var hN hv hd hcd) hb he hs) fun D σ H ⟨x, H0, ρ, p, kvs, acc, r, nx, s0, ok, q⟩ => by
    have q := RunG.part (σ := σ) (kvs := kvs) q
    refine part r (g := fun d => g.bnd fun k => M.ret (d, k)) q fun d v H1 G1 ρ1 r1 s1 hv q1 => ⟨_, s0, part r1 q1 fun k w H2 G2 ρ2 r2 s2 hw q2 => ?_⟩
    have q3 := q2 H2 G2 r2 (Same.refl _)
    dsimp only at q3
    cases ek : datKey k with
    | none => rw [ek] at q3; exact q3.elim
    | some key =>
      rw [ek] at q3
      dsimp only at q3
      split at q3
      · rename_i hl
        have ew : w = kV key := datKey_rep ek hw
        subst ew
        have lk : kvs.length = acc.length := by simpa using congrArg List.length ok.1
        refine ⟨p, _, rfl, DPut.k r2.at.1 (Nat.lt_of_lt_of_le (by omega : kvs.length < 1000) (by decide)), ?_⟩
        exact q3 σ _ G2 (putK kvs key v) (r2.rupd nx) (Same.refl _) s0 ((ok.mono (s1.trans s2)).put (hv.mono s2))
      · exact q3.elim
/-- return found -/
def retG : FG := fun acc ρ => .ret (.dct (acc.map (·.1)) (acc.map (·.2))) ρ
theorem dg_ret (hN : X.N[i]? = some y) (hv : Vis X.env.scope y) (hd : (y == ("__debug__" : Str)) = false) (hcd : (y == ("__classdict__" : Str)) = false) : DGS X W i (.Return (some (.Name y py)) pos) retG := by
  have lk : PE X (.Name y py) (fun σ H Q => ∃ (p : Addr) (kvs : List (Key × V)), σ[i]? = some (some (.ref p)) ∧ H p = some (.dK kvs) ∧ ∀ o, Q (.ref p) (upd H p (.frz o (.dK kvs)))) :=
    ⟨fun pins s σ H Q I ⟨p, kvs, h1, h2, q⟩ => thn ((pe_var hN hv hd hcd).run pins s σ H (fun v H' => v = .ref p ∧ H' = H) I ⟨_, h1, rfl, rfl⟩) fun v s1 ⟨x, H1, I1, r1, ex, eH⟩ => by
      subst ex eH
      obtain ⟨o, J⟩ := I1.lock h2 True.intro
      exact ⟨.ref p, _, J, r1, q o⟩⟩
  refine PS.imp (ps_ret lk) fun D σ H ⟨x, H0, ρ, p, kvs, acc, r, nx, s0, ok, q⟩ => ⟨p, kvs, s0, r.at.1, fun o => ?_⟩
  obtain ⟨r3, s3, n3⟩ := (r.rupd nx (o' := .frz o (.dK kvs))).knowO nx
  exact q _ σ _ _ r3 s3 (Rep.newD n3 ok.1 ok.2)
end
end Sv

set_option Elab.async false
set_option linter.all false
set_option maxRecDepth 100000
set_option maxHeartbeats 1000000
namespace Sv
open PySem L2 PyProof.Rows
/-! ## loops while a dict is made; its begin -/
def forG (t : Tg) (ψ : FG) : List Dat → FG
  | [], acc, ρ => .nxt acc ρ
  | d :: ds, acc, ρ => match setT t d ρ with
    | none => .stuck
    | some ρ1 => match ψ acc ρ1 with
      | .nxt acc' ρ2 => forG t ψ ds acc' ρ2
      | o => o
def forIG (src : M (List Dat)) (t : Tg) (ψ : FG) : FG := fun acc ρ => (src ρ).toG fun ds ρ' => forG t ψ ds acc ρ'
theorem wipe_get {σ : L2.St} {j : Nat} : ∀ {vs : List Nat}, j ∉ vs → (L2.wipe σ vs)[j]? = σ[j]?
  | [], _ => rfl
  | v :: vs, h => by
    show ((L2.wipe σ vs).set v none)[j]? = _
    rw [List.getElem?_set_ne (fun e => h (by rw [e]; exact List.mem_cons_self))]
    exact wipe_get fun z => h (List.mem_cons_of_mem _ z)
section
variable {X : Cx} {W : WX} {i : Nat} {sts : List Stmt} {φ ψ : FG} {tg iter : Expr} {t : Tg} {src : M (List Dat)} {pos pos' p0 py : Pos} {y : Str}
theorem dg_for (hp : PassesOwn (model X.prog X.w) X.A X.env X.xe) (hc : X.calm = true) (hi : DIt X W t tg iter src) (hg : PG X tg (gT X.K t)) (hb : DG X W i sts ψ) (hit : i ∉ t.slots)
    (hs : ∀ x, foldedSetIterable iter X.env x = pure x := by intro _; rfl) : DGS X W i (.For tg iter sts [] pos) (forIG src t ψ) :=
  PS.imp (ps_for hp hc hi hg hb hs) fun D σ H ⟨x, H0, ρ, p, kvs, acc, r, nx, s0, ok, q⟩ => by
    refine ⟨_, H0, ρ, r, (RunG.part q).mono fun ds H1 G1 ρ1 r1 s1 q1 J ⟨P, Y, w, h1, h2⟩ => ?_⟩
    refine for_it w (fun n σ H => ∃ G ρ2 kv2 ac2, Rel X.K (x.add p (.dK kv2)) σ H G ρ2 ∧ Same G1 G ∧ σ[i]? = some (some (.ref p)) ∧ GOk X.K G kv2 ac2 ∧ RunG (cc X W) x i p G (forG t ψ (ds.drop n) ac2 ρ2) D) ⟨G1, ρ1, kvs, acc, r1, Same.refl _, s0, ok.mono s1, q1⟩
      (fun n σ' H2 _ ⟨G, ρ2, _, _, r2, s2, _⟩ => h1 H2 (s2.trans r2.sub)) (fun n v σ' H2 H3 hn ⟨G, ρ2, kv2, ac2, r2, s2, z2, ok2, q2⟩ yy => ?_) fun σ' H2 ⟨G, ρ2, kv2, ac2, r2, s2, z2, ok2, q2⟩ => ?_
    · obtain ⟨nw, gt⟩ := h2 n v H2 H3 _ (s2.trans r2.sub) yy (List.getElem?_eq_getElem hn)
      rw [List.drop_eq_getElem_cons hn] at q2
      unfold forG at q2
      cases e1 : setT t ds[n] ρ2 with
      | none => rw [e1] at q2; exact q2.elim
      | some ρ3 =>
        rw [e1] at q2; try dsimp only at q2
        refine gt _ G ρ2 ρ3 _ _ (nw.rel r2) s2 e1 fun σ3 r3 w3 => ⟨x, G, ρ3, p, kv2, ac2, r3, nx, ?_, ok2, ?_⟩
        · rw [← wipe_get (σ := σ3) hit, w3, wipe_get hit]; exact z2
        · cases e2 : ψ ac2 ρ3 with
          | nxt ac3 ρ4 => rw [e2] at q2; exact fun σ4 H4 G4 kv4 r4 s4 z4 ok4 => ⟨G4, ρ4, kv4, ac3, r4, s2.trans s4, z4, ok4, RunG.up q2 s4⟩
          | ret d ρ4 => rw [e2] at q2; exact q2
          | err cn fs ρ4 => rw [e2] at q2; exact q2
          | stuck => rw [e2] at q2; exact q2.elim
    · rw [List.drop_length] at q2
      exact q2 σ' H2 G kv2 r2 (Same.refl _) z2 ok2
/-- found = {}, and what follows it to the end of the def -/
def beginG (i : Nat) (φ : FG) : En → O := fun ρ => match ρ[i]? with
  | some (.ino _) => .stuck
  | none => .stuck
  | some _ => match φ [] (ρ.set i .un) with
    | .ret d ρ' => .ret d ρ'
    | .err cn fs ρ' => .err cn fs ρ'
    | _ => .stuck
theorem db_dict (i : Nat) (hN : X.N.Nodup) (hi : X.N[i]? = some y) (hx : Loc X.env.scope y) (k : DG X W i sts φ) (hs : swapsWith (.Dict [] [] p0) (some (.Name y pos')) pos.line X.env = pure false := by rfl) (hf : X.fn y = true ∨ X.env.scope.names.lookup y = some .local := by first | exact .inl rfl | exact .inr rfl | assumption) :
    DB X W (.Assign [.Name y pos'] (.Dict [] [] p0) pos :: sts) (beginG i φ) :=
  PSs.imp (pss_cons (ps_set hN hi hx pe_dnewK hs hf) k) fun D σ H ⟨x, H0, ρ, r, q⟩ => fun p hp => by
    unfold beginG at q
    have nx := r.nors hp
    have r0 : Rel X.K (x.add p (.dK [])) σ (upd H p (.dK [])) H0 ρ := r.start hp
    have go : ∀ (ni : ∀ ds, ρ[i]? ≠ some (.ino ds)), i < σ.length → RunS (cc X W) x H0 (match φ [] (ρ.set i .un) with | .ret d ρ' => .ret d ρ' | .err cn fs ρ' => .err cn fs ρ' | _ => .stuck) D → tG (cc X W) i φ D (σ.set i (some (.ref p))) (upd H p (.dK [])) := fun ni hl q => by
      refine ⟨x, H0, _, p, [], [], r0.setu ni, nx, List.getElem?_set_self hl, ⟨rfl, .nil⟩, ?_⟩
      cases e : φ [] (ρ.set i .un) with
      | nxt acc ρ' => rw [e] at q; exact q.elim
      | ret d ρ' => rw [e] at q; exact q
      | err cn fs ρ' => rw [e] at q; exact fun cls d σ H H1 kvs r s xa => q cls d σ H H1 r.drop s xa
      | stuck => rw [e] at q; exact q.elim
    have fin : ∀ {sl : Sl}, ρ[i]? = some sl → (∀ ds, sl ≠ .ino ds) → RunS (cc X W) x H0 (match φ [] (ρ.set i .un) with | .ret d ρ' => .ret d ρ' | .err cn fs ρ' => .err cn fs ρ' | _ => .stuck) D → tG (cc X W) i φ D (σ.set i (some (.ref p))) (upd H p (.dK [])) := fun {sl} e n q => go (fun ds z => by rw [e] at z; cases z; exact n ds rfl) (by rw [← r.len]; exact (List.getElem?_eq_some_iff.mp e).1) q
    show tG (cc X W) i φ D (σ.set i (some (.ref p))) (upd H p (.dK []))
    cases e : ρ[i]? with
    | none => rw [e] at q; exact q.elim
    | some sl =>
      rw [e] at q
      cases sl with
      | ino ds => exact q.elim
      | un => exact fin e (fun ds z => nomatch z) q
      | val d => exact fin e (fun ds z => nomatch z) q
      | own ds => exact fin e (fun ds z => nomatch z) q
/-! ### for over a text -/
def strS (d : Dat) : Option (List Dat) := match d with
  | .str x => some (x.cps.toList.map fun c => .str ⟨#[c]⟩)
  | _ => none
theorem di_str {e : Expr} {f : M Dat} (he : DE X W e f) : DIt X W t tg e (f.un1L strS) :=
  ⟨fun pins s σ H R I ⟨z, H0, ρ, r, q⟩ => (pi_str he).run pins s σ H R I (part r q fun d v H1 G1 ρ1 r1 s1 hv q1 => by
    obtain ⟨ds, e1, q2⟩ := Run.lift q1
    unfold strS at e1
    cases d with
    | str x =>
      cases e1
      cases hv
      refine ⟨x, rfl, q2 H1 G1 r1 (Same.refl _) _ ⟨_, _, by rw [List.length_map, Array.length_toList]; exact walk_str, fun _ _ => True.intro, fun i v H H' d sm y hd => ?_⟩⟩
      obtain ⟨eH, c, ec, ev⟩ := y
      subst eH ev
      have ec : x.cps.toList[i]? = some c := by rw [Array.getElem?_toList]; exact ec
      rw [List.getElem?_map, ec] at hd
      cases hd
      exact ⟨.inl rfl, gt_rep (.str _)⟩
    | _ => cases e1)⟩
end
end Sv

set_option Elab.async false
set_option linter.all false
set_option maxRecDepth 100000
set_option maxHeartbeats 1000000
namespace Sv
open PySem L2 PyProof.Rows
/-! ## a range as a walk -/
section
variable {X : Cx} {W : WX} {a b tg : Expr} {t : Tg} {ga : M (List Dat)} {p pos : Pos}
theorem src_range {K : PySem.W.Frag} {G1 : Hp} {lo : Int} {n : Nat} : Src K t G1 (rgL lo n) (Itr lo n) :=
  ⟨_, _, by rw [rgL_len]; exact walk_range, fun _ _ => True.intro, fun i v H H' d sm y hd => by
    obtain ⟨eH, ev⟩ := y
    have hi : i < n := by
      have := (List.getElem?_eq_some_iff.mp hd).1
      rwa [rgL_len] at this
    rw [rgL_get hi] at hd
    cases hd
    subst eH ev
    exact ⟨.inl rfl, gt_rep (.int _)⟩⟩
theorem di_rg1 (hgl : Gl X "range") (hm : X.mg "range" = none) (ha : DA X W [a] ga) (hs1 : starEach [a] X.env = [(false, eval a X.env)] := by rfl) : DIt X W t tg (.Call (.Name "range" p) [a] [] pos) (ga.bl rg1) :=
  ⟨fun pins s σ H R I ⟨z, H0, ρ, r, q⟩ => (pi_range1 hgl hm ha hs1).run pins s σ H R I ⟨z, H0, ρ, r, (Run.bnd q).mono fun as H1 G1 ρ1 r1 s1 q1 vs hv => by
    obtain ⟨ds, e, q2⟩ := Run.lift q1
    unfold rg1 at e
    split at e
    · split at e
      · rename_i n hn
        have hn := inR_le hn
        cases e
        cases hv with
        | cons h1 h2 =>
          cases h1; cases h2
          exact ⟨n, rfl, by omega, by omega, q2 H1 G1 r1 (Same.refl _) _ src_range⟩
      · cases e
    · cases e⟩⟩
theorem di_rg2 (hgl : Gl X "range") (hm : X.mg "range" = none) (ha : DA X W [a, b] ga) (hs1 : starEach [a, b] X.env = [(false, eval a X.env), (false, eval b X.env)] := by rfl) (hs2 : starEach [b] X.env = [(false, eval b X.env)] := by rfl) : DIt X W t tg (.Call (.Name "range" p) [a, b] [] pos) (ga.bl rg2) :=
  ⟨fun pins s σ H R I ⟨z, H0, ρ, r, q⟩ => (pi_range2 hgl hm ha hs1 hs2).run pins s σ H R I ⟨z, H0, ρ, r, (Run.bnd q).mono fun as H1 G1 ρ1 r1 s1 q1 vs hv => by
    obtain ⟨ds, e, q2⟩ := Run.lift q1
    unfold rg2 at e
    split at e
    · split at e
      · rename_i m n hn
        have hn1 := inR_le hn.1
        have hn2 := inR_le hn.2
        cases e
        cases hv with
        | cons h1 h2 =>
          cases h1
          cases h2 with
          | cons h3 h4 =>
            cases h3; cases h4
            exact ⟨m, n, rfl, ⟨by omega, by omega, by omega, by omega⟩, q2 H1 G1 r1 (Same.refl _) _ src_range⟩
      · cases e
    · cases e⟩⟩
end
end Sv

set_option Elab.async false
set_option linter.all false
set_option maxRecDepth 100000
set_option maxHeartbeats 1000000
namespace Sv
open PySem L2 PyProof.Rows
/-! ## == by an own __eq__, where it says True -/
section
variable {P : Program} {w : World} {K : PySem.W.Frag} {mg : Str → Option Value} {base : Heap} {cn qual m : Str} {st : Stmt} {j k n : Nat} {N ps : List Str} {body : En → O} {G : List Dat → O}
/-- a def that asks for no more than room -/
theorem fn_pureR {x : Str} {f : Addr} {fd : FuncData} (F : Fun K x qual st f fd) (S : FnScope N ps (defScope st))
    (hb : ∀ (cdv : Value) (A : Around) (outer : List Env) (s : Shared) (H : Hp) (E : XK), Room k (A.deeper (PyProof.Rows.envOfC qual (defScope st) s.heap.objs.size f cdv)) → DB (cxOf (L2.CX P w) P w K mg base N qual (defScope st) f cdv A outer s H E) (WE0 E) (defBody st) body) :
    FnOk P w K mg base (L2.CX P w) (k + 1) f fd ps (spP K mg ps.length fun ds => body (startE N.length (ds.map .val))) := by
  have hpn : ps.length ≤ N.length := by
    have e := congrArg List.length S.pre
    rw [List.length_take] at e
    omega
  refine F.okX S (fun vs H Q E h => ?_) (fun cdv A outer s H vs Q E hr h => ⟨_, hb cdv A outer s H E hr, ?_⟩)
  · obtain ⟨H0, ds, _, h1, h2, _⟩ := h
    rw [h1.length, h2]
  · obtain ⟨H0, ds, s0, h1, h2, q⟩ := h
    refine ⟨fxP H H0, H0, _, rel_startP s0 h1 (by omega), ?_⟩
    have q : OutP K mg H H0 (body (startE N.length (ds.map .val))) Q E := q
    revert q
    generalize body (startE N.length (ds.map .val)) = o
    intro q
    cases o with
    | nxt ρ => exact fun σ H' H1 r s => q H' H1 (r.growP s)
    | ret d ρ => exact fun v σ H' H1 r s hv => q v H' H1 (r.growP s) hv
    | new es ρ => exact fun p σ H' H1 r s he h0 l => q p H' H1 (r.growP s) he h0 l
    | err cn fs ρ => exact fun cls d σ H' H1 r s x => q cls d H' H1 (r.growP s) (x.cast rfl rfl)
    | brk ρ => exact q.elim
    | ctn ρ => exact q.elim
    | stuck => exact q.elim
def tru : O → Bool
  | .ret (.bl b) _ => b
  | _ => false
/-- the two instances, and the own == says True of them -/
def REq (K : PySem.W.Frag) (G : List Dat → O) (a b : Addr) (H : Hp) : Prop := ∃ (H0 : Hp) (d e : Dat), Same H0 H ∧ Rep K H0 (.ref a) d ∧ Rep K H0 (.ref b) e ∧ tru (G [d, e]) = true
theorem REq.mono {a b : Addr} {H H' : Hp} (x : Ext H H') (h : REq K G a b H) : REq K G a b H' := by
  obtain ⟨H0, d, e, s, h1, h2, h3⟩ := h
  exact ⟨H0, d, e, fun c o q => x c o (s c o q), h1, h2, h3⟩
/-- the class cn has this __eq__ -/
def EqOk (P : Program) (w : World) (K : PySem.W.Frag) (mg : Str → Option Value) (base : Heap) (k : Nat) (cn : Str) (G : List Dat → O) : Prop := ∃ (C f : Addr) (fd : FuncData) (ps : List Str), ClsAt K cn C ∧ PySem.W.findIn K (.ref C) "__eq__" = some (some (.ref f)) ∧ PySem.W.isFn K (.ref f) = true ∧ FnOk P w K mg base (L2.CX P w) k f fd ps (spEq (REq K G)) ∧ Binds K fd ps []
theorem eq_mk (S : SdM K cn "__eq__" qual st) (bn : Bn "__eq__" qual st ps) (sc : FnScope N ps (defScope st)) (hl : ps.length = 2) (hb : ∀ (f : Addr) (cdv : Value) (A : Around) (outer : List Env) (s : Shared) (H : Hp) (E : XK), Room k (A.deeper (PyProof.Rows.envOfC qual (defScope st) s.heap.objs.size f cdv)) → DB (cxOf (L2.CX P w) P w K mg base N qual (defScope st) f cdv A outer s H E) (WE0 E) (defBody st) body) :
    EqOk P w K mg base (k + 1) cn (fun ds => body (startE N.length (ds.map .val))) := by
  obtain ⟨C, f, fd, c1, c2, c3, F⟩ := S
  have ok := fn_pureR (mg := mg) (base := base) F sc (hb f)
  refine ⟨C, f, fd, ps, c1, c3.at_, c3.fn, ⟨fun vs H Q E h => ?_, fun A out s H ar us vs Q E hr e0 hbt hv h => ok.run A out s H ar us vs Q E hr e0 hbt hv ?_⟩, F.binds bn⟩
  · obtain ⟨a, b, e, _, _⟩ := h
    rw [e, hl]; rfl
  · obtain ⟨a, b, ev, ⟨H0, d, e, s, h1, h2, h3⟩, q⟩ := h
    subst ev
    refine ⟨H0, [d, e], s, .cons h1 (.cons h2 .nil), by rw [hl]; rfl, ?_⟩
    revert h3
    show tru (body (startE N.length [.val d, .val e])) = true → OutP K mg H H0 (body (startE N.length [.val d, .val e])) Q E
    generalize body (startE N.length [.val d, .val e]) = o
    intro h3
    cases o with
    | ret x ρ =>
      cases x with
      | bl b =>
        have h3 : b = true := h3
        subst h3
        exact fun v H' H0' g hv => by cases hv; exact q H' fun c o z => g.k c o z
      | _ => cases h3
    | _ => cases h3
end
section
variable {X : Cx} {W : WX} {a b : Expr} {f g : M Dat} {pos : Pos} {j k n : Nat} {cn : Str} {G : List Dat → O}
theorem pass_no : Passes (L2.CX X.prog X.w) X (fun _ _ _ => False) := fun pins σ H s e s' I hq => by
  obtain ⟨_, _, _, _, _, _, _, _, _, _, _, _, _, z⟩ := hq
theorem eqOk_rc (D : EqOk X.prog X.w X.K X.mg X.base n cn G) : ∃ C, ClsAt X.K cn C ∧ RcG X n (DIns C (REq X.K G)) ∧ EqG X n (DIns C (REq X.K G)) := by
  obtain ⟨C, fa, fd, ps, c1, c2, c3, F, hb⟩ := D
  exact ⟨C, c1, rcG_ins F c2 c3 hb pass_no, eqG_ins F c2 c3 hb pass_no⟩
/-- a == b, two instances of the class cn -/
def eqID (cn : Str) (G : List Dat → O) (d e : Dat) : Option Dat := if (isCn cn d && isCn cn e && tru (G [d, e])) = true then some (.bl true) else none
theorem ins_eq {K : PySem.W.Frag} {H H0 : Hp} {C : Addr} {x y : V} {d e : Dat} (s : Same H0 H) (c1 : ClsAt K cn C) (hx : Rep K H0 x d) (hy : Rep K H0 y e) (h : (isCn cn d && isCn cn e && tru (G [d, e])) = true) : DIns C (REq K G) x y H := by
  rw [Bool.and_eq_true, Bool.and_eq_true] at h
  obtain ⟨⟨i1, i2⟩, t⟩ := h
  obtain ⟨ad, D1, dx, fvs, fs, ds, ed, ev, h1, h2, h3, h4⟩ := isCn_at i1 hx
  obtain ⟨bd, D2, dy, gvs, gs, es, ee, eu, g1, g2, g3, g4⟩ := isCn_at i2 hy
  obtain rfl := ClsAt.eq c1 h2
  obtain rfl := ClsAt.eq c1 g2
  subst ev eu
  exact ⟨ad, bd, dx, dy, fvs, gvs, rfl, rfl, s _ _ h1, s _ _ g1, H0, d, e, s, hx, hy, t⟩
theorem snd_eqI {C : Addr} (c1 : ClsAt X.K cn C) : Snd2 X.K (rEqG (DIns C (REq X.K G))) (eqID cn G) := fun H H0 x y dx dy dz Q s hx hy e q => by
  unfold eqID at e
  split at e
  · rename_i h
    cases e
    exact ⟨ins_eq s c1 hx hy h, fun H' x => q _ H' H0 ⟨x, Same.refl _, fun c o z => x c o (s c o z), fun _ _ _ z => z⟩ (.bl true)⟩
  · cases e
theorem de_eqI (D : EqOk X.prog X.w X.K X.mg X.base j cn G) (hr : Room k X.A) (hjk : j ≤ k) (ha : DE X W a f) (hb : DE X W b g) : DE X W (.Compare a [.Eq] [b] pos) (f.bin g (eqID cn G)) := by
  obtain ⟨C, c1, h1, _⟩ := eqOk_rc D
  exact de_cmp (op_eqG h1 (hr.mono hjk)) (snd_eqI c1) ha hb (nomark _)
/-- a == b, two tuples of instances of the class cn -/
def eqTs (cn : Str) (G : List Dat → O) : List Dat → List Dat → Bool
  | [], [] => true
  | d :: ds, e :: es => isCn cn d && isCn cn e && tru (G [d, e]) && eqTs cn G ds es
  | _, _ => false
def eqTD (cn : Str) (G : List Dat → O) (d e : Dat) : Option Dat := match d, e with
  | .tup ds, .tup es => if eqTs cn G ds es = true then some (.bl true) else none
  | _, _ => none
theorem prs_eq {K : PySem.W.Frag} {H H0 : Hp} {C : Addr} (s : Same H0 H) (c1 : ClsAt K cn C) : ∀ {ds es : List Dat} {vs us : List V}, RepA K H0 vs ds → RepA K H0 us es → eqTs cn G ds es = true → Prs (DIns C (REq K G)) vs us H
  | [], [], _, _, .nil, .nil, _ => Prs.nil
  | [], _ :: _, _, _, _, _, h => by cases h
  | _ :: _, [], _, _, _, _, h => by cases h
  | d :: ds, e :: es, _, _, .cons h1 h2, .cons g1 g2, h => by
    have h : (isCn cn d && isCn cn e && tru (G [d, e]) && eqTs cn G ds es) = true := h
    rw [Bool.and_eq_true] at h
    exact Prs.cons (ins_eq s c1 h1 g1 h.1) (prs_eq s c1 h2 g2 h.2)
theorem de_eqT (D : EqOk X.prog X.w X.K X.mg X.base j cn G) (hr : Room k X.A) (hjk : j + 1 ≤ k) (ha : DE X W a f) (hb : DE X W b g) : DE X W (.Compare a [.Eq] [b] pos) (f.bin g (eqTD cn G)) := by
  obtain ⟨C, c1, _, h2⟩ := eqOk_rc D
  have mon : Mon (DIns C (REq X.K G)) := mon_ins fun a b H H' x h => REq.mono x h
  refine de_cmp (op_eqG (rcG_tup mon h2) (hr.mono hjk)) (fun H H0 x y dx dy dz Q s hx hy e q => ?_) ha hb (nomark _)
  unfold eqTD at e
  split at e
  · split at e
    · rename_i h
      cases e
      cases hx with
      | @tup p vs _ h1 h3 =>
        cases hy with
        | @tup q' us _ g1 g3 => exact ⟨⟨p, q', vs, us, rfl, rfl, sameT s h1.sq, sameT s g1.sq, prs_eq s c1 h3 g3 h⟩, fun H' x => q _ H' H0 ⟨x, Same.refl _, fun c o z => x c o (s c o z), fun _ _ _ z => z⟩ (.bl true)⟩
    · cases e
  · cases e
end
end Sv

set_option Elab.async false
set_option linter.all false
set_option maxRecDepth 100000
set_option maxHeartbeats 1000000
namespace Sv
open PySem L2 PyProof.Rows
/-! ## == of two dicts, where it says True: the same keys in one order, values of plain data -/
def EqPD (K : PySem.W.Frag) (H : Hp) (x y : V) : Prop := ∃ d e, Dp K H x d ∧ Dp K H y e ∧ SeqAt.shaped d = true ∧ SeqAt.shaped e = true ∧ PyData.eqv d e = true
def rEqDK (K : PySem.W.Frag) : R2 := fun x y H Q => ∃ (a b : Addr) (oa ob : Obj) (ks ls : List (Key × V)), x = .ref a ∧ y = .ref b ∧ H a = some (.frz oa (.dK ks)) ∧ H b = some (.frz ob (.dK ls)) ∧ ks.length = ls.length ∧ (∀ p ∈ ks, ∃ u, valV ls p.1 = some u ∧ EqPD K H p.2 u) ∧ Q (.bl true) H
theorem op_eqDK {X : Cx} (hu : X.A.units + 65 < cLine) : OpR X (compareOp .Eq) (rEqDK X.K) := by
  intro pins s σ H x y v u Q I rx ry ⟨a, b, oa, ob, ks, ls, ex, ey, ha, hb, hl, hp, q⟩
  subst ex ey
  obtain rfl : v = .ref a := rx
  obtain rfl : u = .ref b := ry
  obtain ⟨_, _, ya, va, ra, da⟩ := (show ObjOk X.prog X.w H s.heap a (.frz oa (.dK ks)) from I.hok a _ ha)
  obtain ⟨_, _, yb, vb, rb, db⟩ := (show ObjOk X.prog X.w H s.heap b (.frz ob (.dK ls)) from I.hok b _ hb)
  have ih : ∀ x y v u, EqPD X.K H x y → RelV x v → RelV y u → SeqAt.EqP X.prog X.w X.A.in1 s v u true := fun x y v u ⟨d, e, h1, h2, h3, h4, h5⟩ rx ry => by
    obtain ⟨as, r1⟩ := Dp.reads I d x v h1 rx
    obtain ⟨bs, r2⟩ := Dp.reads I e y u h2 ry
    have z := SeqAt.eqAt_reads (prog := X.prog) (w := X.w) d e X.A.in1 s v u as bs r1 r2 (SeqAt.canLay_of_shaped h3) (SeqAt.canLay_of_shaped h4) (SeqAt.room_of_shaped (A := X.A.in1) h3 (by show X.A.units + 1 + 64 < cLine; omega))
    rw [h5] at z
    exact z
  have e : va.length = vb.length := by rw [← ra.length, ← rb.length]; exact hl
  refine PySem.W.rcP_dicts (knd := mixKind X.prog X.w) (r := true) ya yb da db (by omega) (fun _ => hits_run ih rb ra hp) _ _ ?_
  rw [show (va.length == vb.length && true) = true from by rw [e]; simp]
  exact ⟨.bl true, H, I, rfl, q⟩
def eqVs : List Dat → List Dat → Bool
  | [], [] => true
  | d :: ds, e :: es => okE d && okE e && eqB d e && eqVs ds es
  | _, _ => false
def nodK : List Key → Bool
  | [] => true
  | k :: ks => !(ks.any fun j => decide (j = k)) && nodK ks
def eqKD (d e : Dat) : Option Dat := match d, e with
  | .dct ks ds, .dct ls es => if (decide (ks = ls) && nodK ks && eqVs ds es) = true then some (.bl true) else none
  | _, _ => none
theorem vals_eq {K : PySem.W.Frag} {H : Hp} : ∀ {kvs lvs : List (Key × V)} {ds es : List Dat}, kvs.map (·.1) = lvs.map (·.1) → nodK (kvs.map (·.1)) = true → RepA K H (kvs.map (·.2)) ds → RepA K H (lvs.map (·.2)) es → eqVs ds es = true → ∀ p ∈ kvs, ∃ u, valV lvs p.1 = some u ∧ EqPD K H p.2 u
  | [], _, _, _, _, _, _, _, _, p, hp => nomatch hp
  | _ :: _, [], _, _, h, _, _, _, _, _, _ => by cases h
  | kv :: kvs, lv :: lvs, d :: ds, e :: es, hk, hn, .cons h1 h2, .cons g1 g2, hv, p, hp => by
    have hk : kv.1 :: kvs.map (·.1) = lv.1 :: lvs.map (·.1) := hk
    obtain ⟨k1, k2⟩ := List.cons.inj hk
    have hv : (okE d && okE e && eqB d e && eqVs ds es) = true := hv
    have hn : (!((kvs.map (·.1)).any fun j => decide (j = kv.1)) && nodK (kvs.map (·.1))) = true := hn
    rw [Bool.and_eq_true] at hv hn
    obtain ⟨v1, v2⟩ := hv
    rw [Bool.and_eq_true, Bool.and_eq_true] at v1
    unfold valV
    rw [List.find?_cons]
    rcases List.mem_cons.mp hp with z | z
    · subst z
      rw [decide_eq_true k1.symm]
      exact ⟨lv.2, rfl, d.py, e.py, Rep.dp (okE_plain v1.1.1) h1, Rep.dp (okE_plain v1.1.2) g1, okE_shaped v1.1.1, okE_shaped v1.1.2, v1.2⟩
    · have ne : ¬ lv.1 = p.1 := fun y => by
        have h := hn.1
        have : ((kvs.map (·.1)).any fun j => decide (j = kv.1)) = true := List.any_eq_true.mpr ⟨p.1, List.mem_map_of_mem (f := (·.1)) z, decide_eq_true (y.symm.trans k1.symm)⟩
        rw [this] at h; cases h
      rw [decide_eq_false ne]
      exact vals_eq k2 hn.2 h2 g2 v2 p z
section
variable {X : Cx} {W : WX} {a b : Expr} {f g : M Dat} {pos : Pos} {k : Nat}
theorem de_eqK (hr : Room k X.A) (ha : DE X W a f) (hb : DE X W b g) : DE X W (.Compare a [.Eq] [b] pos) (f.bin g eqKD) :=
  de_cmp (op_eqDK (by have := hr.un; omega)) (fun H H0 x y dx dy dz Q s hx hy e q => by
    unfold eqKD at e
    split at e
    · split at e
      · rename_i ks ds ls es h
        cases e
        rw [Bool.and_eq_true, Bool.and_eq_true] at h
        have ek := of_decide_eq_true h.1.1
        subst ek
        cases hx with
        | @dct p ob kvs _ _ h1 h2 h3 =>
          cases hy with
          | @dct p' ob' lvs _ _ g1 g2 g3 =>
            exact ⟨p, p', ob, ob', kvs, lvs, rfl, rfl, s _ _ h1, s _ _ g1, by rw [← List.length_map (f := (·.1)), h2, ← g2, List.length_map], vals_eq (h2.trans g2.symm) (by rw [h2]; exact h.1.2) (h3.mono s) (g3.mono s) h.2, q _ H H0 (Grow.refl s) (.bl true)⟩
      · cases e
    · cases e) ha hb (nomark _)
end
end Sv

set_option Elab.async false
set_option linter.all false
set_option maxRecDepth 100000
set_option maxHeartbeats 1000000
namespace Sv
open PySem L2 PyProof.Rows
/-! ## o.m(k = e, ..), keywords alone -/
section
variable {X : Cx} {W : WX} {o : Expr} {c : CXT} {j k : Nat} {fa C : Addr} {fd : FuncData} {ps ks : List Str} {ix : List Nat} {sp : L2.Sp} {E : L2.St → XK} {m cn qual : Str} {ta : TE} {tk : TA} {kws : List Keyword} {pos apos : Pos} {f : M Dat} {gk : M (List Dat)} {G : List Dat → O}
theorem pe_methKG {pl : Sem Bool} (he : PE X o ta) (cl : Cls X.K C) (me : Meth X.K C m fa) (F : FnG X.prog X.w X.K X.mg X.base c k fa fd ps sp) (hr : RoomG k X.A) (hb : KBd X.K fd ps 1 ks ix []) (hx : ∀ σ, PassesAt c X σ (E σ)) (hkw : PK X kws tk)
    (hall : (backToKw pos (keywordEach kws X.env)).all (·.1.isSome) = true) (hks : (backToKw pos (keywordEach kws X.env)).filterMap (·.1) = ks) (hpl : ((backTo pos (starEach [] X.env)).any (·.1) || (backToKw pos (keywordEach kws X.env)).any (·.1.isNone)) = false)
    (ht : eval (.Call (.Attribute o m apos) [] kws pos) X.env = (do
      let ob ← eval o X.env
      standAt apos.atName
      let (fn, first) ← holding [ob] (getMethod ob m pl)
      callWith pos fn first (backTo pos (starEach [] X.env)) (backToKw pos (keywordEach kws X.env)))) :
    PE X (.Call (.Attribute o m apos) [] kws pos) (fun σ H Q => ta σ H fun x H1 => ∃ (a dx : Addr) (fs : List (Str × V)), x = .ref a ∧ H1 a = some (.ins C dx fs) ∧ fs.lookup m = none ∧ tk σ H1 fun zs H2 => zs.length = ks.length ∧ sp (pick ix (x :: zs)) H2 Q (E σ)) := by
  obtain ⟨dsv, rd, to⟩ := hb.ex
  cases rd
  refine ⟨fun pins s σ H Q I h => PySem.W.methodCall_KW (pl := pl) (thn (he.run pins s σ H _ I h) fun u s1 ⟨x, H1, I1, rx, a, dx, fs, ex, ea, l, w2⟩ => ?_) ht⟩
  subst ex
  obtain rfl : u = Value.ref a := rx
  refine getmeth_ok I1 ea cl me l (PySem.W.callWith_KW0 (first := [.ref a]) (h₀ := X.base) I1.ok.mod.kin me.kp hall (thn (hkw.run pos pins s1 σ H1 _ I1 w2) fun ws s2 ⟨zs, H2, I2, r2, lz, w3⟩ => ⟨I2.kIn, ?_⟩) hpl)
  rw [hks]
  have rv : Vals (V.ref a :: zs) (Value.ref a :: ws) := .cons rfl r2
  have bt := to s2 [.ref a] ws I2.kIn rfl (r2.length.symm.trans lz)
  have e1 : ([Value.ref a] ++ ws ++ []) = Value.ref a :: ws := by simp
  rw [e1] at bt
  exact wpAny_call (runG F hr bt (hx σ) I2 (pick_vals rv ix) w3)
/-- the class cn has the method m, called by the keywords ks -/
def MKOk (P : Program) (w : World) (K : PySem.W.Frag) (mg : Str → Option Value) (base : Heap) (k : Nat) (m : Str) (cn : Str) (ks : List Str) (ix : List Nat) (G : List Dat → O) : Prop := ∃ (C f : Addr) (fd : FuncData) (ps : List Str), ClsAt K cn C ∧ Cls K C ∧ Meth K C m f ∧ FnG P w K mg base (L2.CX P w) k f fd ps (spP K mg ps.length G) ∧ KBd K fd ps 1 ks ix [] ∧ ix.length = ps.length ∧ ∀ i ∈ ix, i < 1 + ks.length
theorem mdk_mk {P : Program} {w : World} {K : PySem.W.Frag} {mg : Str → Option Value} {base : Heap} {st : Stmt} {N : List Str} {body : En → O} (S : SdM K cn m qual st) (bd : Bd m qual st ps ks 1 ix) (sc : FnScope N ps (defScope st)) (hix : ix.length = ps.length) (hlt : ∀ i ∈ ix, i < 1 + ks.length) (hb : ∀ (f : Addr) (cdv : Value) (A : Around) (outer : List Env) (s : Shared) (H : Hp) (E : XK), RoomG k (A.deeper (PyProof.Rows.envOfC qual (defScope st) s.heap.objs.size f cdv)) → DB (cxOf (L2.CX P w) P w K mg base N qual (defScope st) f cdv A outer s H E) (WE0 E) (defBody st) body) :
    MKOk P w K mg base (k + 1) m cn ks ix (fun ds => (body (startE N.length (ds.map .val))).pur) := by
  obtain ⟨C, f, fd, c1, c2, c3, F⟩ := S
  refine ⟨C, f, fd, ps, c1, c2, c3, (fn_pure F sc (hb f)).imp fun vs H Q E h => ?_, fun_kbd F bd, hix, hlt⟩
  obtain ⟨H0, ds, h1, h2, h3, h4⟩ := h
  exact ⟨H0, ds, h1, h2, h3, out_pur h4⟩
def M.methK (f : M Dat) (gk : M (List Dat)) (m cn : Str) (ix : List Nat) (G : List Dat → O) : M Dat := f.bnd fun d => match entry m [(cn, G)] d with
  | some _ => gk.bnd fun zs ρ => callR (G (pick ix (d :: zs))) ρ
  | none => fun _ => .stuck
theorem de_methK {pl : Sem Bool} (D : MKOk X.prog X.w X.K X.mg X.base j m cn ks ix G) (tk : Takes X W) (hr : RoomG k X.A) (hjk : j ≤ k) (hn : ∀ ρ ds ρ', gk ρ = .ok ds ρ' → ds.length = ks.length) (he : DE X W o f) (hkw : DK X W kws gk)
    (hall : (backToKw pos (keywordEach kws X.env)).all (·.1.isSome) = true := by rfl) (hks : (backToKw pos (keywordEach kws X.env)).filterMap (·.1) = ks := by rfl) (hpl : ((backTo pos (starEach [] X.env)).any (·.1) || (backToKw pos (keywordEach kws X.env)).any (·.1.isNone)) = false := by rfl)
    (ht : eval (.Call (.Attribute o m apos) [] kws pos) X.env = (do
      let ob ← eval o X.env
      standAt apos.atName
      let (fn, first) ← holding [ob] (getMethod ob m pl)
      callWith pos fn first (backTo pos (starEach [] X.env)) (backToKw pos (keywordEach kws X.env))) := by rfl) : DE X W (.Call (.Attribute o m apos) [] kws pos) (f.methK gk m cn ix G) := by
  obtain ⟨C, fa, fd, ps, c1, c2, c3, F, hb, hix, hlt⟩ := D
  refine PE.imp (pe_methKG he c2 c3 F (hr.mono hjk) hb (fun σ => passAt tk σ) hkw hall hks hpl ht) fun σ H Q ⟨z, H0, ρ, r, q⟩ => part r q fun d v H1 G1 ρ1 r1 s1 hv q1 => ?_
  dsimp only at q1
  cases ee : entry m [(cn, G)] d with
  | none => rw [ee] at q1; exact q1.elim
  | some G' =>
    rw [ee] at q1
    cases d with
    | ins cc fs ds0 =>
      unfold entry at ee
      dsimp only at ee
      split at ee
      · rename_i nm
        have ec : cc = cn := by
          rw [List.lookup_cons] at ee
          cases q : (cc == cn) with
          | true => simpa using q
          | false => rw [q] at ee; cases ee
        subst ec
        cases hv with
        | @ins ad C' dx fvs _ _ _ h1 h2 h3 h4 =>
          obtain rfl := ClsAt.eq c1 h2
          have hvi : Rep X.K G1 (.ref ad) (.ins cc fs ds0) := .ins h1 h2 h3 h4
          refine ⟨ad, dx, fvs, rfl, r1.sub _ _ h1, no_look h3 nm, z, G1, ρ1, r1, ?_⟩
          have hn := hn ρ1
          unfold M.bnd at q1
          dsimp only at q1
          cases eg : gk ρ1 with
          | ok zs ρ2 =>
            rw [eg] at q1
            intro H2 G2 r2 s2 ws hw
            have l := hn zs ρ2 eg
            have rp : RepA X.K G2 (.ref ad :: ws) (.ins cc fs ds0 :: zs) := .cons (hvi.mono s2) hw
            refine ⟨by rw [hw.length, l], G2, _, r2.sub, pick_rep rp ix, ?_, out_callR r2 (Run.up q1 s2)⟩
            rw [pick_len (fun i hi => by rw [List.length_cons, l]; have := hlt i hi; omega)]
            exact hix
          | err cn fs ρ2 => rw [eg] at q1; exact q1
          | stuck => rw [eg] at q1; exact q1
      · cases ee
    | _ => cases ee
end
end Sv

set_option Elab.async false
set_option linter.all false
set_option maxRecDepth 100000
set_option maxHeartbeats 1000000
namespace Sv
open PySem L2 PyProof.Rows
section
variable {X : Cx} {W : WX} {a b c : Expr} {f g h : M Dat} {pos : Pos}
/-- a, b, c = e1, e2, e3 -/
def parO3 (f g h : M Dat) (i j l : Nat) : En → O := fun ρ => ((f.bnd fun x => g.bnd fun y => h.bnd fun z => M.ret (x, y, z)) ρ).toO fun p ρ' => (putS i p.1 ρ').then fun ρ2 => (putS j p.2.1 ρ2).then (putS l p.2.2)
theorem ds_par3 (i j l : Nat) {x y z : Str} {px py pz pt : Pos} {kt k2 pt2} (hc : X.calm = true) (hN : X.N.Nodup) (hi : X.N[i]? = some x) (hj : X.N[j]? = some y) (hl : X.N[l]? = some z) (hij : i ≠ j) (hil : i ≠ l) (hjl : j ≠ l) (hx : X.env.scope.names.lookup x = some .local) (hy : X.env.scope.names.lookup y = some .local) (hz : X.env.scope.names.lookup z = some .local)
    (ha : DE X W a f) (hb : DE X W b g) (hcc : DE X W c h) (hw : swappedStores [.Tuple [.Name x px, .Name y py, .Name z pz] kt pt] (.Tuple [a, b, c] k2 pt2) X.env = pure (some [x, y, z]) := by rfl)
    (hs : swapsWithSole [.Tuple [.Name x px, .Name y py, .Name z pz] kt pt] (.Tuple [a, b, c] k2 pt2) pos.line X.env = pure false := by rfl)
    (hs1 : starEach [a, b, c] X.env = (false, eval a X.env) :: starEach [b, c] X.env := by rfl) (hs2 : starEach [b, c] X.env = (false, eval b X.env) :: starEach [c] X.env := by rfl) (hs3 : starEach [c] X.env = (false, eval c X.env) :: starEach [] X.env := by rfl) :
    DS X W (.Assign [.Tuple [.Name x px, .Name y py, .Name z pz] kt pt] (.Tuple [a, b, c] k2 pt2) pos) (parO3 f g h i j l) :=
  PS.imp (ps_par3 hc hN hi hj hl hij hil hjl hx hy hz (pa_cons ha (pa_cons hb (pa_cons hcc pa_nil hs3) hs2) hs1) hw hs) fun D σ H ⟨w, H0, ρ, r, q⟩ => by
    have q := RunS.part (σ := σ) q
    refine part r q fun d v H1 G1 ρ1 r1 s1 h1 q1 => part r1 q1 fun d2 v2 H2 G2 ρ2 r2 s2 h2 q2 => part r2 q2 fun d3 v3 H3 G3 ρ3 r3 s3 h3 q3 => ?_
    have q4 : RunS (cc X W) w G3 ((putS i d ρ3).then fun ρ2 => (putS j d2 ρ2).then (putS l d3)) D := q3 H3 G3 r3 (Same.refl _)
    obtain ⟨n1, q5⟩ := putS_then q4
    obtain ⟨n2, q6⟩ := putS_then q5
    exact ⟨v, v2, v3, rfl, putS_run ((r3.setv n1 (h1.mono (s2.trans s3))).setv n2 (h2.mono s3)) h3 q6⟩
end
end Sv

set_option Elab.async false
set_option linter.all false
set_option maxRecDepth 100000
set_option maxHeartbeats 1000000
namespace Sv
open PySem L2 PyProof.Rows
/-! ## {None: v} -/
section
variable {X : Cx} {W : WX} {k v : Expr} {f h : M Dat} {g : M (List (Dat × Dat))} {pos : Pos} {ks : List (Option Expr)} {vs : List Expr}
theorem pe_dispN {trs : List (TE × TE)} (h : PPs X pos [some k] [v] trs) : PE X (.Dict [some k] [v] pos) (fun σ H Q => ∀ p, H p = none → tPairs trs σ (upd H p (.dK [])) fun ps H2 => H2 p = some (.dK []) ∧ ∃ y, ps = [(V.non, y)] ∧ ∀ o, NoO o → (p == sysModules) = false → Q (.ref p) (upd H2 p (.ext (NoD p o)))) := by
  refine ⟨fun pins s σ H Q I q => ?_⟩
  have hn := I.hok.fresh (Nat.le_refl s.heap.objs.size)
  have J1 := I.laid (a := s.heap.objs.size) (o := .dK []) (h' := s.heap.push { cls := .type "dict", data := .dict #[] }) (t' := s.toks) (fun _ _ e => Heap.get?_push_of_some _ e) (Nat.le_refl _) (dk_empty s.heap I.big)
  refine wpAny_Dict_walk (knd := leafKind X.prog X.w) rfl rfl (List.cons_ne_nil _ _) (Nat.le_of_ble_eq_true rfl) (thn (h.run pins _ σ _ _ J1 (q _ hn)) fun ws s2 ⟨ps, H2, J2, rel, e, y, ep, q2⟩ => ?_)
  subst ep
  obtain ⟨_, hd, vs0, r0, o0, es0, ep0, g1, g2, g3, g4, g5, _⟩ := dk_of J2.hok e
  cases r0
  cases rel with
  | @cons a b as bs hh tt =>
    cases tt
    obtain ⟨b1, b2⟩ := b
    have e1 : b1 = Value.none := hh.1
    subst e1
    have dd : s2.heap.DictOf (leafKind X.prog X.w) s.heap.objs.size [] := by
      refine ⟨o0, es0, ep0, g1, g2, g3, ?_, ?_, List.nodup_nil⟩
      · generalize eq : es0.toList = l at g5
        cases l with
        | nil =>
          have : es0 = #[] := by obtain ⟨l⟩ := es0; have eq : l = [] := eq; rw [eq]
          subst this
          exact fun _ he => by simp at he
        | cons _ _ => cases g5
      · generalize eq : es0.toList = l at g5
        cases l with
        | nil => exact .nil
        | cons _ _ => cases g5
    refine ⟨[(Leaf.none, b2)], ⟨rfl, rfl, True.intro⟩, dd, fun h' dd' hs => ?_⟩
    obtain ⟨o, es, ep, f1, f2, f3, f4, f5, _⟩ := dd'
    have ho : NoO o := by
      refine ⟨f2, ?_⟩
      have f5 : Pairs (leafKind X.prog X.w) es.toList [(Leaf.none, b2)] := f5
      obtain ⟨l⟩ := es
      cases f5 with
      | @cons en kv0 _ _ x _ t =>
        cases t
        obtain ⟨hh, kk, vv⟩ := en
        have : kk = Value.none := by cases kk <;> first | rfl | exact absurd x Bool.false_ne_true
        subst this
        exact ⟨hh, vv, ep, f3⟩
    refine ⟨.ref s.heap.objs.size, _, ?_, rfl, q2 o ho hd⟩
    exact d_write J2 (by rw [e]; exact True.intro) hs ⟨o, f1⟩ ⟨f1, ⟨o, f1⟩, fun h1 h2 z st => st _ z⟩
def noneD (as : List (Dat × Dat)) : Option Dat := match as with
  | [(.non, _)] => some .dno
  | _ => none
theorem de_dispN (h : DPs X W pos [some k] [v] g) : DE X W (.Dict [some k] [v] pos) (g.bnd fun as => M.lift (noneD as)) := by
  obtain ⟨trs, hp, key⟩ := h
  refine PE.imp (pe_dispN hp) fun σ H Q ⟨z, H0, ρ, r, q⟩ => fun p hp => key (z.add p (.dK [])) σ _ H0 ρ _ (r.start hp) ?_
  have nr := r.nors hp
  have q := Run.bnd q
  have fin : ∀ (as : List (Dat × Dat)) (H' G' : Hp) (ρ' : En), Rel X.K (z.add p (.dK [])) σ H' G' ρ' → Same H0 G' → Run (cc X W) z σ G' (M.lift (noneD as) ρ') (fun d H1 G1 _ => ∀ v, Rep X.K G1 v d → Q v H1) → ∀ ps, RepP X.K G' ps as →
      H' p = some (.dK []) ∧ ∃ y, ps = [(V.non, y)] ∧ ∀ o, NoO o → (p == sysModules) = false → Q (.ref p) (upd H' p (.ext (NoD p o))) := fun as H' G' ρ' r' s' q' ps hps => by
    refine ⟨r'.at.1, ?_⟩
    obtain ⟨d, e, q2⟩ := Run.lift q'
    unfold noneD at e
    split at e
    · cases e
      match ps, hps with
      | [(a, b)], ⟨.cons h1 .nil, _⟩ =>
        cases h1
        refine ⟨b, rfl, fun o ho hs => ?_⟩
        obtain ⟨r3, s3, n3⟩ := (r'.rupd nr (o' := .ext (NoD p o))).knowO nr
        exact q2 _ _ r3 s3 _ (.dno upd_same ho hs)
    · cases e
  cases eg : g ρ with
  | stuck => rw [eg] at q; exact q.elim
  | err cn fs ρ' => rw [eg] at q; exact fun cls d H' H1 r' s' x' => q cls d H' H1 r'.drop s' x'
  | ok as ρ' => rw [eg] at q; exact fun H' H1 r' s' ps hps => fin as H' H1 ρ' r' s' (q H' H1 r'.drop s') ps hps
end
end Sv

set_option Elab.async false
set_option linter.all false
set_option maxRecDepth 100000
set_option maxHeartbeats 2000000
namespace Sv
open PySem L2 PyProof.Rows
/-! ## {**a, **b} -/
section
variable {prog : Program} {w : World} {K : Type} [DecidableEq K] {knd : KeyKind prog w K} {A : Around} {E : Value → Shared → Prop} {s : Shared}
theorem wp_put {d : Addr} {kvs : List (K × Value)} {k : K} {key v : Value} {Q : Unit → Shared → Prop} (hkey : knd.is k key = true) (hm : s.heap.DictOf knd d kvs) (hz : kvs.length ≤ sizeLine)
    (hQ : ∀ h', h'.DictOf knd d (stored kvs k v) → Heap.SameBut d s.heap h' → Q () { s with heap := h' }) : wpAny (model prog w) A (dictPut d (knd.hash k) key v) Q E s := by
  obtain ⟨ob, es, ep, h1, h2, h3, h4, h5, h6⟩ := hm
  have zz : es.size ≤ sizeLine := by
    have e1 := h5.length
    have e2 : es.toList.length = es.size := Array.length_toList
    omega
  have hidx : (es.findIdx? fun e => knd.is k e.key) = kvs.findIdx? fun kv => decide (kv.1 = k) := by
    rw [← h5.findIdx k]
    obtain ⟨l⟩ := es
    simp
  unfold dictPut
  refine wpAny_bind (wpAny_dictFind_of hkey h1 h3 h4 ?_)
  cases hi : es.findIdx? fun e => knd.is k e.key with
  | some i =>
    have hl : (es.toList.findIdx? fun e => knd.is k e.key) = some i := by
      rw [← hi]
      obtain ⟨l⟩ := es
      simp
    have q := h5.modify h6 hl v
    refine wpAny_updateDict h1 h3 (hQ _ ⟨_, _, ep, Heap.get?_update_self _ h1 (Obj.isFreed_of_dict (Obj.data_mapDict h3 _)), h2.mapDict _, Obj.data_mapDict h3 _, h4.modify _ _, ?_, ?_⟩ (Heap.SameBut.update ..))
    · rw [stored, if_pos (any_of_findIdx_some (hidx ▸ hi))]
      obtain ⟨l⟩ := es
      simpa using q
    · rw [stored, if_pos (any_of_findIdx_some (hidx ▸ hi)), keys_map_store]
      exact h6
  | none =>
    have n1 : k ∉ kvs.map (·.1) := not_mem_of_findIdx_none (hidx ▸ hi)
    have n2 : ¬ (kvs.any fun kv => decide (kv.1 = k)) = true := fun z => by
      obtain ⟨kv, m1, m2⟩ := List.any_eq_true.mp z
      exact n1 (List.mem_map.mpr ⟨kv, m1, of_decide_eq_true m2⟩)
    have q := h5.append hkey (knd.hash k) v
    refine wpAny_updateDictKeys (hz := zz) h1 h3 (hQ _ ⟨_, _, ep + 1, Heap.get?_update_self _ h1 (Obj.isFreed_of_dict (Obj.data_mapDictKeys h3 _)), h2.mapDictKeys _, Obj.data_mapDictKeys h3 _, h4.push hkey _, ?_, ?_⟩ (Heap.SameBut.update ..))
    · rw [stored, if_neg n2]
      obtain ⟨l⟩ := es
      simpa using q
    · rw [stored, if_neg n2, List.map_append, List.nodup_append]
      refine ⟨h6, by simp, fun a ha b hb => ?_⟩
      simp only [List.map_cons, List.map_nil, List.mem_singleton] at hb
      subst hb
      exact fun e => n1 (e ▸ ha)
theorem wp_merge {d o : Addr} {kvs more : List (K × Value)} {Q : Unit → Shared → Prop} (hdo : d ≠ o) (hoS : (o == sysModules) = false) (hd : s.heap.DictOf knd d kvs) (ho : s.heap.DictOf knd o more) (hz : kvs.length + more.length ≤ sizeLine)
    (hQ : ∀ h', h'.DictOf knd d (merged kvs more) → Heap.SameBut d s.heap h' → Q () { s with heap := h' }) : wpAny (model prog w) A (mergeMapping d (.ref o) false) Q E s := by
  obtain ⟨od, esd, epd, d1, d2, d3, d4, d5, d6⟩ := id hd
  obtain ⟨oo, eso, epo, o1, o2, o3, o4, o5, o6⟩ := id ho
  have ty : s.TypeIs (.ref o) "dict" := ⟨oo, o1, o2.1⟩
  have hlen : more.length = eso.size := by
    have e1 := o5.length
    have e2 : eso.toList.length = eso.size := Array.length_toList
    omega
  have byV : ∀ e ∈ eso, ∀ b, e.key ≠ .ref b := fun e he b z => by
    obtain ⟨k, k1, _⟩ := o4 e he
    have := knd.byValue k _ k1
    rw [z] at this
    exact nomatch this
  unfold mergeMapping
  refine wpAny_bind (wpAny_isInstance ty isSubtype_dict_dict ?_)
  dsimp only
  rw [if_pos rfl]
  refine wpAny_bind (wpAny_specialOf ty F.slot_dict_iter.lookup (wpAny_bind (wpAny_pure ?_)))
  rw [show ((some (Value.builtin "dict.__iter__") == some (.builtin "dict.__iter__")) : Bool) = true from by simp]
  dsimp only
  rw [if_neg (by rw [hoS]; exact Bool.false_ne_true)]
  have loop : wpAny (model prog w) A (do
      let l ← dictEntries o
      let epoch ← dictEpoch o
      forIn (List.range l.size) PUnit.unit fun i (_ : PUnit) => (do
          let l' ← dictEntries o
          match l'[i]? with
            | some e => do
              holding [e.key, e.val] (dictPut d e.hash e.key e.val)
              let ep' ← dictEpoch o
              if (ep' != epoch) = true then do
                  (unsupported "dict.changed-during-merge" : Sem PUnit)
                  pure (ForInStep.yield PUnit.unit)
                else pure (ForInStep.yield PUnit.unit)
            | _ => do
              (unsupported "dict.changed-during-merge" : Sem PUnit)
              pure (ForInStep.yield PUnit.unit) : Sem (ForInStep PUnit))
      pure ()) Q E s := by
    refine wpAny_bind (wpAny_dictEntries o1 o3 ?_)
    refine wpAny_bind (wpAny_dictEpoch o1 o3 ?_)
    refine wpAny_bind ?_
    refine wpAny_forIn_list _ (fun rest _ t => ∃ h' i, t = { s with heap := h' } ∧ rest = List.range' i (eso.size - i) ∧ i ≤ eso.size ∧ h'.DictOf knd d (merged kvs (more.take i)) ∧ h'.get? o = some oo ∧ Heap.SameBut d s.heap h') _ ?_ ?_ _ _ ⟨s.heap, 0, rfl, by rw [List.range_eq_range']; rfl, Nat.zero_le _, by simpa [merged] using hd, o1, Heap.SameBut.refl _ _⟩
    · intro x rest b t ⟨h', i, et, er, ei, g1, g2, g3⟩
      subst et
      have lt : i < eso.size := by
        rcases Nat.lt_or_ge i eso.size with z | z
        · exact z
        · rw [Nat.sub_eq_zero_of_le z] at er; simp at er
      have e1 : eso.size - i = (eso.size - (i + 1)) + 1 := by omega
      rw [e1, List.range'_succ] at er
      obtain ⟨ex, er⟩ := List.cons.inj er
      subst ex
      refine wpAny_bind (wpAny_dictEntries g2 o3 ?_)
      rw [Array.getElem?_eq_getElem lt]
      obtain ⟨⟨k, v⟩, hkv⟩ : ∃ kv, more[x]? = some kv := ⟨more[x]'(by rw [hlen]; exact lt), List.getElem?_eq_getElem _⟩
      obtain ⟨f1, f2⟩ := o5.get? (e := eso[x]) (by simp [lt]) hkv
      obtain ⟨k', f3, f4⟩ := o4 eso[x] (Array.getElem_mem lt)
      obtain rfl : k' = k := knd.inj _ _ _ f3 f1
      show wpAny _ _ (holding [eso[x].key, eso[x].val] (dictPut d eso[x].hash eso[x].key eso[x].val) >>= _) _ _ _
      rw [f4, f2]
      have z1 : (merged kvs (more.take x)).length ≤ sizeLine := by
        have y1 := merged_length_le kvs (more.take x)
        have y2 : (more.take x).length ≤ more.length := by rw [List.length_take]; omega
        omega
      refine wpAny_bind (wpAny_holding (wp_put f1 g1 z1 fun h2 g4 g5 => ?_))
      have g6 : h2.get? o = some oo := (g5.2 o (Ne.symm hdo)).trans g2
      refine wpAny_bind (wpAny_dictEpoch g6 o3 ?_)
      rw [if_neg (by simp)]
      exact wpAny_pure ⟨h2, x + 1, rfl, er, lt, by rw [merged_take_succ kvs more x (k', v) hkv]; exact g4, g6, g3.trans g5⟩
    · intro b t ⟨h', i, et, er, ei, g1, g2, g3⟩
      subst et
      have en : i = eso.size := by
        rcases Nat.lt_or_ge i eso.size with z | z
        · have e1 : eso.size - i = (eso.size - (i + 1)) + 1 := by omega
          rw [e1, List.range'_succ] at er
          exact nomatch er
        · exact Nat.le_antisymm ei z
      refine wpAny_pure (hQ h' ?_ g3)
      rw [en, ← hlen, List.take_length] at g1
      exact g1
  refine wpAny_bind (wpAny_dictEntries d1 d3 ?_)
  split
  · refine wpAny_bind (wpAny_dictEntries o1 o3 ?_)
    refine wpAny_bind ?_
    refine MeetsSeq2.wpAny_forIn_array _ (fun rest _ t => t = s ∧ ∀ e ∈ rest, e ∈ eso) _ ?_ ?_ _ _ ⟨rfl, fun e he => Array.mem_toList_iff.mp he⟩
    · intro x rest b t ⟨et, er⟩
      subst et
      have hx := byV x (er x List.mem_cons_self)
      cases ek : x.key with
      | ref b => exact absurd ek (hx b)
      | _ => exact wpAny_pure ⟨rfl, fun e he => er e (List.mem_cons_of_mem _ he)⟩
    · intro b t ⟨et, _⟩
      subst et
      exact loop
  · exact loop
end
end Sv

set_option Elab.async false
set_option linter.all false
set_option maxRecDepth 100000
set_option maxHeartbeats 2000000
namespace Sv
open PySem L2 PyProof.Rows
section
variable {X : Cx} {e1 e2 : Expr} {t1 t2 : TE} {pos : Pos}
def tDm (t1 t2 : TE) : TE := fun σ H Q => ∀ p, H p = none → t1 σ (upd H p (.dK [])) fun x H1 => ∃ (a : Addr) (k1 : List (Key × V)), x = .ref a ∧ Rd H1 a (.dK k1) ∧ H1 p = some (.dK []) ∧ a ≠ p ∧ k1.length ≤ 1000 ∧
  t2 σ (upd H1 p (.dK (mergeK [] k1))) fun y H2 => ∃ (b : Addr) (k2 : List (Key × V)), y = .ref b ∧ Rd H2 b (.dK k2) ∧ H2 p = some (.dK (mergeK [] k1)) ∧ b ≠ p ∧ k2.length ≤ 1000 ∧ Q (.ref p) (upd H2 p (.dK (mergeK (mergeK [] k1) k2)))
theorem merge_at {pins : List (Addr × Obj)} {σ : L2.St} {H : Hp} {s : Shared} {p a : Addr} {k0 k1 : List (Key × V)} {Q : Unit → Shared → Prop} {E : Value → Shared → Prop} (I : Inv X pins σ H s) (hp : H p = some (.dK k0)) (ha : Rd H a (.dK k1)) (ne : a ≠ p) (z0 : k0.length ≤ 1000) (z1 : k1.length ≤ 1000)
    (h : ∀ s', Inv X pins σ (upd H p (.dK (mergeK k0 k1))) s' → Q () s') : wpAny (model X.prog X.w) X.A (mergeMapping p (.ref a) false) Q E s := by
  obtain ⟨_, hd, v0, r0, d0⟩ := dk_of I.hok hp
  obtain ⟨_, hs, v1, r1, d1⟩ := dk_rd I.hok ha
  have l0 : k0.length = v0.length := Paired.length r0
  have l1 : k1.length = v1.length := Paired.length r1
  have sz : (2000 : Nat) ≤ sizeLine := by rw [sizeLine_eq]; omega
  refine wp_merge (Ne.symm ne) hs d0 d1 (by omega) fun h' dd sb => h _ ?_
  have he : ∃ q, h'.get? p = some q := let ⟨q, _, _, hq, _⟩ := dd; ⟨q, hq⟩
  have lz := length_mergeK k1 k0
  exact d_write I (by rw [hp]; exact True.intro) sb he (dk_new (by omega) hd (r1.merge r0) dd)
theorem pe_dm (h1 : PE X e1 t1) (h2 : PE X e2 t2) : PE X (.Dict [none, none] [e1, e2] pos) (tDm t1 t2) := by
  refine ⟨fun pins s σ H Q I q => ?_⟩
  have hn := I.hok.fresh (Nat.le_refl s.heap.objs.size)
  have J1 := I.laid (a := s.heap.objs.size) (o := .dK []) (h' := s.heap.push { cls := .type "dict", data := .dict #[] }) (t' := s.toks) (fun _ _ e => Heap.get?_push_of_some _ e) (Nat.le_refl _) (dk_empty s.heap I.big)
  rw [arm_eval_Dict]
  refine wpAny_bind (wpAny_standAt ?_)
  show wpAny _ _ (dictDisplay [(none, do let x ← eval e1 X.env; standAt pos; pure x), (none, do let x ← eval e2 X.env; standAt pos; pure x)]) _ _ _
  unfold dictDisplay
  simp only [List.forIn_cons, List.forIn_nil, List.isEmpty_nil, if_true, pure_bind]
  refine wpAny_bind (wpAny_bind (wpAny_bind (wpAny_alloc (wpAny_bind (wpAny_holding (wpAny_bind (thn (h1.run pins _ σ _ _ J1 (q _ hn)) fun u s1 ⟨x, H1, J2, rx, a, k1, ex, ha, hp, na, z1, q2⟩ => ?_)))))))
  refine wpAny_bind (wpAny_standAt (wpAny_pure ?_))
  subst ex
  obtain rfl : u = Value.ref a := rx
  refine wpAny_bind (wpAny_onRaise (wpAny_tryCatch (wpAny_onRaise (wpAny_holding (merge_at J2 hp ha na (Nat.zero_le _) z1 fun s2 J3 => ?_)))))
  refine wpAny_pure (wpAny_bind (wpAny_bind (wpAny_pure ?_)))
  refine wpAny_bind (wpAny_holding (wpAny_bind (thn (h2.run pins _ σ _ _ J3 q2) fun u s3 ⟨y, H2, J4, ry, b, k2, ey, hb, hp2, nb, z2, q3⟩ => ?_)))
  refine wpAny_bind (wpAny_standAt (wpAny_pure ?_))
  subst ey
  obtain rfl : u = Value.ref b := ry
  have l1 : (mergeK [] k1).length ≤ 1000 := by
    have y1 := length_mergeK k1 []
    rw [List.length_nil] at y1
    omega
  refine wpAny_bind (wpAny_onRaise (wpAny_tryCatch (wpAny_onRaise (wpAny_holding (merge_at J4 hp2 hb nb l1 z2 fun s4 J5 => ?_)))))
  refine wpAny_pure (wpAny_pure ?_)
  refine wpAny_bind ?_
  exact wpAny_pure (wpAny_pure ⟨.ref s.heap.objs.size, _, J5, rfl, q3⟩)
end
end Sv

set_option Elab.async false
set_option linter.all false
set_option maxRecDepth 100000
set_option maxHeartbeats 1000000
namespace Sv
open PySem L2 PyProof.Rows
/-! ## {**a, **b} -/
def putW {α : Type} (kvs : List (Key × α)) (k : Key) (v : α) : List (Key × α) := if (kvs.any fun kv => decide (kv.1 = k)) = true then kvs.map (fun kv => if kv.1 = k then (kv.1, v) else kv) else kvs ++ [(k, v)]
def mergeW {α : Type} (kvs more : List (Key × α)) : List (Key × α) := more.foldl (fun acc kv => putW acc kv.1 kv.2) kvs
inductive KD (K : PySem.W.Frag) (H : Hp) : List (Key × V) → List (Key × Dat) → Prop
  | nil : KD K H [] []
  | cons {k : Key} {v : V} {d : Dat} {l : List (Key × V)} {m : List (Key × Dat)} : Rep K H v d → KD K H l m → KD K H ((k, v) :: l) ((k, d) :: m)
section
variable {K : PySem.W.Frag} {H H' : Hp}
theorem KD.mono (s : Same H H') : ∀ {l : List (Key × V)} {m : List (Key × Dat)}, KD K H l m → KD K H' l m
  | _, _, .nil => .nil
  | _, _, .cons h r => .cons (h.mono s) (r.mono s)
theorem KD.of : ∀ {kvs : List (Key × V)} {ks : List Key} {ds : List Dat}, kvs.map (·.1) = ks → RepA K H (kvs.map (·.2)) ds → KD K H kvs (ks.zip ds)
  | [], _, _, e, h => by subst e; exact .nil
  | (k, v) :: l, _, _, e, h => by
    subst e
    cases h with
    | cons h1 h2 => exact .cons h1 (KD.of rfl h2)
theorem KD.keys : ∀ {l : List (Key × V)} {m : List (Key × Dat)}, KD K H l m → l.map (·.1) = m.map (·.1)
  | _, _, .nil => rfl
  | _, _, .cons h r => by rw [List.map_cons, List.map_cons, r.keys]
theorem KD.vals : ∀ {l : List (Key × V)} {m : List (Key × Dat)}, KD K H l m → RepA K H (l.map (·.2)) (m.map (·.2))
  | _, _, .nil => .nil
  | _, _, .cons h r => .cons h r.vals
theorem KD.any (k : Key) : ∀ {l : List (Key × V)} {m : List (Key × Dat)}, KD K H l m → (l.any fun kv => decide (kv.1 = k)) = (m.any fun kv => decide (kv.1 = k))
  | _, _, .nil => rfl
  | _, _, .cons h r => by rw [List.any_cons, List.any_cons, r.any k]
theorem KD.set (k : Key) {v : V} {d : Dat} (h : Rep K H v d) : ∀ {l : List (Key × V)} {m : List (Key × Dat)}, KD K H l m → KD K H (l.map fun kv => if kv.1 = k then (kv.1, v) else kv) (m.map fun kv => if kv.1 = k then (kv.1, d) else kv)
  | _, _, .nil => .nil
  | _, _, .cons (k := j) h1 r => by
    rw [List.map_cons, List.map_cons]
    by_cases e : j = k
    · rw [if_pos e, if_pos e]; exact .cons h (r.set k h)
    · rw [if_neg e, if_neg e]; exact .cons h1 (r.set k h)
theorem KD.add {k : Key} {v : V} {d : Dat} (h : Rep K H v d) : ∀ {l : List (Key × V)} {m : List (Key × Dat)}, KD K H l m → KD K H (l ++ [(k, v)]) (m ++ [(k, d)])
  | _, _, .nil => .cons h .nil
  | _, _, .cons h1 r => .cons h1 (r.add h)
theorem KD.put (k : Key) {v : V} {d : Dat} (h : Rep K H v d) {l : List (Key × V)} {m : List (Key × Dat)} (r : KD K H l m) : KD K H (putK l k v) (putW m k d) := by
  unfold putK putW
  rw [r.any k]
  by_cases e : (m.any fun kv => decide (kv.1 = k)) = true
  · rw [if_pos e, if_pos e]; exact r.set k h
  · rw [if_neg e, if_neg e]; exact r.add h
theorem KD.merge {l' : List (Key × V)} {m' : List (Key × Dat)} (r' : KD K H l' m') : ∀ {l : List (Key × V)} {m : List (Key × Dat)}, KD K H l m → KD K H (mergeK l l') (mergeW m m') := by
  induction r' with
  | nil => exact fun r => r
  | cons h _ ih => exact fun r => ih (r.put _ h)
theorem KD.length : ∀ {l : List (Key × V)} {m : List (Key × Dat)}, KD K H l m → l.length = m.length
  | _, _, .nil => rfl
  | _, _, .cons h r => by rw [List.length_cons, List.length_cons, r.length]
end
theorem Run.addx {α : Type} {c : Cc} {z : Fx} {p : Addr} {o : HO} {σ : L2.St} {H0 : Hp} {r : R α} {k : α → Hp → Hp → En → Prop} (h : Run c z σ H0 r k) : Run c (z.add p o) σ H0 r k := by
  cases r with
  | ok a ρ' => exact fun H' H1 q e => h H' H1 q.drop e
  | err cn fs ρ' => exact fun cls d H' H1 q e x => h cls d H' H1 q.drop e x
  | stuck => exact h
def dmG (k1 : List Key) (d1 : List Dat) : Dat → Option Dat
  | .dct k2 d2 => if Nat.ble k2.length 1000 = true then some (.dct ((mergeW (mergeW [] (k1.zip d1)) (k2.zip d2)).map (·.1)) ((mergeW (mergeW [] (k1.zip d1)) (k2.zip d2)).map (·.2))) else none
  | _ => none
def M.dm (f g : M Dat) : M Dat := f.bnd fun x => match x with
  | .dct k1 d1 => fun ρ => if Nat.ble k1.length 1000 = true then (g.bnd fun y => M.lift (dmG k1 d1 y)) ρ else .stuck
  | _ => fun _ => .stuck
section
variable {X : Cx} {W : WX} {a b : Expr} {f g : M Dat} {pos : Pos}
theorem de_dm (ha : DE X W a f) (hb : DE X W b g) : DE X W (.Dict [none, none] [a, b] pos) (f.dm g) := by
  refine PE.imp (pe_lockD (pe_dm ha hb)) fun σ H Q ⟨z, H0, ρ, r, q⟩ => fun p hp => ?_
  have nr := r.nors hp
  refine ⟨z.add p (.dK []), H0, ρ, r.start hp, (Run.addx (Run.bnd q)).mono fun d H1 G1 ρ1 r1 s1 q1 v hv => ?_⟩
  cases d with
  | dct k1 d1 =>
    dsimp only at q1
    split at q1
    · rename_i hz1
      have hz1 := Nat.le_of_ble_eq_true hz1
      cases hv with
      | @dct ad ob kvs _ _ h1 h2 h3 =>
        have l1 : kvs.length = k1.length := by rw [← h2, List.length_map]
        refine ⟨ad, kvs, rfl, .inr ⟨ob, r1.sub _ _ h1⟩, r1.at.1, ne_of_none h1 r1.at.2.1, by omega, ?_⟩
        refine ⟨z.add p (.dK (mergeK [] kvs)), G1, ρ1, r1.rupd nr, (Run.addx (Run.bnd q1)).mono fun d H2 G2 ρ2 r2 s2 q2 v hv => ?_⟩
        obtain ⟨dz, e, q3⟩ := Run.lift q2
        cases d with
        | dct k2 d2 =>
          have e : (if Nat.ble k2.length 1000 = true then some (Dat.dct ((mergeW (mergeW [] (k1.zip d1)) (k2.zip d2)).map (·.1)) ((mergeW (mergeW [] (k1.zip d1)) (k2.zip d2)).map (·.2))) else none) = some dz := e
          split at e
          · rename_i hz2
            have hz2 := Nat.le_of_ble_eq_true hz2
            cases e
            cases hv with
            | @dct ad2 ob2 kvs2 _ _ g1 g2 g3 =>
              have l2 : kvs2.length = k2.length := by rw [← g2, List.length_map]
              refine ⟨ad2, kvs2, rfl, .inr ⟨ob2, r2.sub _ _ g1⟩, r2.at.1, ne_of_none g1 r2.at.2.1, by omega, p, _, H2, rfl, rfl, fun o => ?_⟩
              obtain ⟨r3, s3, n3⟩ := (r2.rupd nr (o' := .frz o (.dK (mergeK (mergeK [] kvs) kvs2)))).knowO nr
              have kd : KD X.K G2 (mergeK (mergeK [] kvs) kvs2) (mergeW (mergeW [] (k1.zip d1)) (k2.zip d2)) := (KD.of g2 g3).merge ((KD.of h2 (h3.mono s2)).merge .nil)
              exact q3 _ _ r3 s3 _ (Rep.newD n3 kd.keys kd.vals)
          · cases e
        | _ => cases e
    · exact q1.elim
  | _ => exact q1.elim
end
end Sv

set_option Elab.async false
set_option linter.all false
set_option maxRecDepth 100000
set_option maxHeartbeats 1000000
namespace Sv
open PySem L2 PySem.Spec PyProof.Rows
/-! ## a def that is handed the exception that is being handled -/
structure FnP (P : Program) (w : World) (K : PySem.W.Frag) (mg : Str → Option Value) (base : Heap) (k : Nat) (f : Addr) (fd : FuncData) (ps : List Str) (p : Addr × Obj) (sp : L2.Sp) : Prop where
  len : ∀ vs H Q E, sp vs H Q E → vs.length = ps.length
  run : ∀ (A : Around) (out : List Env) (s : Shared) (H : Hp) (ar : Args) (us : List Value) (vs : List V) (Q : VK), L2H.RoomH k A → L2H.PinOk out H s p → Env0 P w K mg base A out s H → BindsTo s fd ar (ps.zip us) → Vals vs us → sp vs H Q E0 →
    codeAny (model P w) A (.call (.ref f) ar) (CR CX0 out P w H s Q E0) s
section
variable {P : Program} {w : World} {K : PySem.W.Frag} {mg : Str → Option Value} {base : Heap} {k : Nat} {f : Addr} {fd : FuncData} {ps N : List Str} {p : Addr × Obj} {sp : L2.Sp}
theorem Fun.okP {x qual : Str} {st : Stmt} (F : Fun K x qual st f fd) (S : FnScope N ps (defScope st)) (len : ∀ vs H Q E, sp vs H Q E → vs.length = ps.length)
    (hB : ∀ (cdv : Value) (A : Around) (out : List Env) (s : Shared) (H : Hp) (vs : List V) (Q : VK), sp vs H Q E0 → ∃ t, PSs (L2H.cxH CX0 P w K mg base N qual (defScope st) f cdv A out s H E0 p) (defBody st) t ∧ t { nx := fun _ G => Q .non G, rt := Q } (L2.start N vs) H) :
    FnP P w K mg base (k + 1) f fd ps p sp := by
  obtain ⟨oc, od, kV, doc, pm, an, cdv, ct, osl, rfl, lk, hcd⟩ := F.ex
  refine ⟨len, fun A out s H ar us vs Q hr pin e0 hb rv hsp => ?_⟩
  have kin : K.In s.heap := e0.mod.kin.keeps fun b o q => (e0.bs b o q).1
  have nl : s.heap.NoLimit := e0.mod.nolimit.keeps fun b o q => (e0.bs b o q).1
  have pk : ∀ y ∈ ps.zip us, (defScope st).names.lookup y.1 = some .local ∨ ((defScope st).names.lookup y.1 = some .cell ∧ ((cellsFrom (s.heap.objs.size + 1) (defScope st).names []).lookup y.1).isSome = true) := fun y hy => by
    rcases S.par y.1 (List.of_mem_zip (a := y.1) (b := y.2) hy).1 with z | z
    · exact Or.inl z
    · exact Or.inr ⟨z, PySem.W.cellsFrom_some _ _ _ (.inl z)⟩
  refine codeAny_call_function hr.depth (kin _ _ lk) rfl S.co S.gen rfl (PySem.W.codeRec_of kin hcd) (hb _ _ _ _ (wpAny_newFunctionEnv_cells S.kind pk fun env he s1 xn => ?_))
  subst he
  refine ⟨nl.keeps xn.toInCall.keep, codeAny_func ?_⟩
  obtain ⟨t, ht, hq⟩ := hB cdv A out s H vs Q hsp
  have J0 : Inv (L2H.cxH CX0 P w K mg base N qual (defScope st) f cdv A out s H E0 p) [] (L2.start N vs) H s1 := L2H.inv_startH S pin e0 (len vs H Q E0 hsp) rv xn
  refine wpAny_mono (ht.run [] s1 (L2.start N vs) H _ J0 hq) (fun fl s' hs => ?_) fun _ _ z => z
  have done : ∀ {τ : L2.St} {G : Hp} {v : V} {u : Value}, Inv (L2H.cxH CX0 P w K mg base N qual (defScope st) f cdv A out s H E0 p) [] τ G s' → RelV v u → Q v G → CE out P w H s Q u s' := fun {τ G v u} J r q => ⟨v, G, J.os, J.bare, J.base, J.hok, r, q⟩
  cases fl with
  | next => obtain ⟨τ, G, J, q⟩ := hs; exact done (v := .non) (u := .none) J rfl q
  | ret u => obtain ⟨v, τ, G, J, ru, q⟩ := hs; exact done J ru q
  | brk => obtain ⟨_, _, _, q⟩ := hs; exact q.elim
  | cont => obtain ⟨_, _, _, q⟩ := hs; exact q.elim
end
section
variable {X : Cx} {k : Nat} {f : Addr} {fd : FuncData} {ps : List Str} {sp : L2.Sp} {x : Str} {q pos : Pos} {e : Expr} {es : List Expr} {t : TA} {p : Addr × Obj}
theorem pe_callP (F : FnP X.prog X.w X.K X.mg X.base k f fd ps p sp) (hp : p ∈ X.pn) (hr : L2H.RoomH k X.A) (hg : Gl X x) (hm : X.mg x = some (.ref f)) (hk : PySem.W.keepIn X.K (.ref f) = true) (hb : Binds X.K fd ps []) (ha : PA X (e :: es) t) (hdb : (x == ("__debug__" : Str)) = false := by decide)
    (he : starEach (e :: es) X.env = (false, eval e X.env) :: starEach es X.env := by rfl) (hpl : (backTo pos (starEach es X.env)).any (·.1) = false := by rfl) : PE X (.Call (.Name x q) (e :: es) [] pos) (tCallS sp (fun _ => E0) t) := by
  refine ⟨fun pins s σ H Q I h => ?_⟩
  refine wpAny_Call_Name_kw (ld_glob I hg hm ?_ hdb)
  refine PySem.W.callWith_K (h₀ := X.base) I.ok.mod.kin hk (thn (ha.run pos pins s σ H _ I h) fun us s1 ⟨vs, H1, I1, r1, h1⟩ => ⟨I1.kIn, ?_⟩) he hpl
  have b := hb s1 us I1.kIn (by rw [List.append_nil, ← r1.length]; exact F.len _ _ _ _ h1)
  rw [List.append_nil] at b
  obtain ⟨q1, q2, q3, q4, q5⟩ := I1.pin p (List.mem_append_left _ hp)
  have pin : L2H.PinOk X.stack H1 s1 p := ⟨q1, q2, fun hm => (List.mem_cons.mp (I1.stkSub p.1 hm)).elim q3 q4, q5⟩
  refine wpAny_call (codeAny_mono (F.run X.A X.stack s1 H1 ⟨us, []⟩ us vs Q hr pin I1.env0 b r1 h1) fun r s' hq => ?_)
  match r, hq with
  | .error u, hq => exact hq.elim
  | .ok (.ret u), hq => exact I1.after hq
  | .ok .next, hq => exact False.elim hq
  | .ok .brk, hq => exact False.elim hq
  | .ok .cont, hq => exact False.elim hq
end
end Sv

set_option Elab.async false
set_option linter.all false
set_option maxRecDepth 100000
set_option maxHeartbeats 1000000
namespace Sv
open PySem L2 PySem.Spec PyProof.Rows
/-! ## isinstance(error, C), error.f in such a def -/
/-- what the written part says of an own class of errors, as isinstance and the reading of fields ask -/
structure ExK (K : PySem.W.Frag) (C : Addr) (fl : Option Str) : Prop where
  xf : XfC K C
  cl : (PySem.W.clsIn K C).isSome = true
  ca : PySem.W.findIn K (.ref C) "__class__" = some (some (.builtin "object.__class__"))
  mr : PySem.W.mroIn K C (.type "object") = some true
  nf : ∀ f, fl = some f → PySem.W.findIn K (.ref C) f = some none
structure SpOk (K : PySem.W.Frag) : Prop where
  sp : PySem.W.specialIn K (.builtin "object.__class__") "__get__" = some (some (.builtin "getset_descriptor.__get__"))
  tk : PySem.W.takesIn K (.builtin "object.__class__") = some true
/-- the classes (each with its one field, if it has one), and which of them isinstance says yes of -/
def XTab (K : PySem.W.Frag) (mg : Str → Option Value) (cs : List (Str × Option Str)) (tab : List (Str × Str × Bool)) : Prop := SpOk K ∧ (∀ q ∈ cs, ∃ C, mg q.1 = some (.ref C) ∧ ExK K C q.2) ∧
  ∀ q ∈ tab, ∀ C D : Addr, mg q.1 = some (.ref C) → mg q.2.1 = some (.ref D) → PySem.W.kitOne K (.ref C) (.ref D) = some q.2.2
def csAt : List (Str × Option Str) → Str → Option (Option Str)
  | [], _ => none
  | q :: r, x => if q.1 = x then some q.2 else csAt r x
theorem csAt_mem {x : Str} {y : Option Str} : ∀ {cs : List (Str × Option Str)}, csAt cs x = some y → (x, y) ∈ cs
  | [], e => by cases e
  | q :: r, e => by
    unfold csAt at e
    split at e
    · rename_i h
      cases e
      subst h
      exact List.mem_cons_self
    · exact List.mem_cons_of_mem _ (csAt_mem e)
theorem tabAt_mem {x y : Str} {b : Bool} : ∀ {tab : List (Str × Str × Bool)}, tabAt tab x y = some b → (x, y, b) ∈ tab
  | [], e => by cases e
  | q :: r, e => by
    unfold tabAt at e
    split at e
    · rename_i h
      obtain ⟨a, b', c⟩ := q
      obtain ⟨h1, h2⟩ := h
      cases e
      subst h1
      subst h2
      exact List.mem_cons_self
    · exact List.mem_cons_of_mem _ (tabAt_mem e)
def XdAt (H : Hp) (d : Option Addr) : Prop := ∀ dx, d = some dx → ∃ vs, H dx = some (.xd vs)
def rIsX (K : PySem.W.Frag) (p : Addr × Obj) : List V → Hp → VK → Prop := fun xs H Q => ∃ (C D : Addr) (d : Option Addr) (fl : Option Str) (b : Bool), xs = [.ref p.1, .ref D] ∧ Zc (.ref C) d p.2 ∧ XdAt H d ∧ ExK K C fl ∧ SpOk K ∧ PySem.W.kitOne K (.ref C) (.ref D) = some b ∧ Q (.bl b) H
section
variable {X : Cx} {p : Addr × Obj}
theorem inst_at {pins : List (Addr × Obj)} {σ : L2.St} {H : Hp} {s : Shared} {C : Addr} {d : Option Addr} (I : Inv X pins σ H s) (hp : p ∈ X.pn) (hf : ∃ vs, p.2.data = .fields vs) (hz : Zc (.ref C) d p.2) (hd : XdAt H d) : ∃ od, PySem.W.InstAt s.heap p.1 p.2 C od := by
  have ha := (I.pin p (List.mem_append_left _ hp)).1
  obtain ⟨vs, ev⟩ := hf
  cases d with
  | none => exact ⟨none, ha, hz.1, by unfold PySem.W.notCls; rw [ev] <;> rfl, by rw [hz.2]; exact True.intro⟩
  | some dx =>
    obtain ⟨fs, e⟩ := hd dx rfl
    obtain ⟨mA, hns, _⟩ := (show ObjOk X.prog X.w H s.heap dx (.xd fs) from I.hok dx _ e)
    obtain ⟨od, ho, _⟩ := lookIn_ns hns
    exact ⟨some od, ha, hz.1, by unfold PySem.W.notCls; rw [ev] <;> rfl, by rw [hz.2]; exact ho⟩
theorem call_isX (hp : p ∈ X.pn) (hf : ∃ vs, p.2.data = .fields vs) : CallR X (.builtin "isinstance") (rIsX X.K p) := by
  intro pins s σ H xs us Q I r h
  obtain ⟨C, D, d, fl, b, rfl, hz, hd, hk, sp, e, q⟩ := h
  obtain ⟨u1, u2, rfl, r1, r2⟩ := vals2 r
  cases (show u1 = Value.ref p.1 from r1)
  cases (show u2 = Value.ref D from r2)
  obtain ⟨od, J⟩ := inst_at I hp hf hz hd
  exact PySem.W.kia_one (PySem.W.kitx_exc (x := p.1) (ox := p.2) (od := od) hk.cl hk.xf.ga hk.xf.gg hk.xf.exC hk.ca sp.sp sp.tk hk.mr) I.kIn J e (fun z => nomatch z) fun tk => ⟨.bl b, H, I.tok tk, rfl, q⟩
/-- error.f -/
def tXfX (K : PySem.W.Frag) (p : Addr × Obj) (f : Str) (te : TE) : TE := fun σ H Q => te σ H fun x H1 => x = .ref p.1 ∧ ∃ (C dx : Addr) (fs : List (Str × V)) (v : V), Zc (.ref C) (some dx) p.2 ∧ ExK K C (some f) ∧ H1 dx = some (.xd fs) ∧ fs.lookup f = some v ∧ Q v H1
theorem pe_xfX {e : Expr} {te : TE} {f : Str} {pos : Pos} (hp : p ∈ X.pn) (hf : ∃ vs, p.2.data = .fields vs) (he : PE X e te) (hb : attributeBase e f X.env (eval e X.env) = eval e X.env := by rfl) : PE X (.Attribute e f pos) (tXfX X.K p f te) := by
  refine ⟨fun pins s σ H Q I h => attr_of hb (thn (he.run pins s σ H _ I h) fun u s1 hh => ?_)⟩
  obtain ⟨x, H1, J, rx, ex, C, dx, fs, v, hz, hk, ea, l, q⟩ := hh
  subst ex
  obtain rfl : u = Value.ref p.1 := rx
  have ha := (J.pin p (List.mem_append_left _ hp)).1
  obtain ⟨vs, ev⟩ := hf
  obtain ⟨mA, hns, hr⟩ := (show ObjOk X.prog X.w H1 s1.heap dx (.xd fs) from J.hok dx _ ea)
  obtain ⟨od, ho, hl⟩ := lookIn_ns hns
  obtain ⟨u, hu, ru⟩ := RelO.some_of (v := v) (o := mA f) (by rw [← l]; exact hr f)
  have at_ : PySem.W.InstAt s1.heap p.1 p.2 C (some od) := ⟨ha, hz.1, by unfold PySem.W.notCls; rw [ev] <;> rfl, by rw [hz.2]; exact ho⟩
  exact HandSPX.exc_get J.kIn at_ hk.xf.ga hk.xf.gg hk.xf.exC (PySem.W.findObj_own hk.xf.hdC (hk.nf f rfl) rfl (by rw [hl, hu])) (handed_of ru) ⟨v, H1, J.tok _, ru, q⟩
/-! ### the body -/
def tX (K : PySem.W.Frag) (mg : Str → Option Value) (p : Addr × Obj) (g : Str → List (Str × Dat) → O) : TS := fun D σ H => ∃ (H0 : Hp) (cn : Str) (fs : List (Str × Dat)) (cls : Value) (d : Option Addr), Same H0 H ∧ XAt (c0 K mg) H H0 cn fs cls d ∧ Zc cls d p.2 ∧ σ[0]? = some (some (.ref p.1)) ∧ OutP K mg H H0 (g cn fs) D.rt E0
theorem Grow.lay {H H0 : Hp} {q : Addr} {o : HO} (s : Same H0 H) (hq : H q = none) : Grow H (upd H q o) H0 H0 := ⟨fun b u e => by rw [upd_ne (ne_of_none e hq)]; exact e, Same.refl _, fun b u e => by rw [upd_ne (ne_of_none (s _ _ e) hq)]; exact s _ _ e, fun _ _ _ h => h⟩
/-- if isinstance(error, D): return [k, error.f] -/
def ifX (cs : List (Str × Option Str)) (tab : List (Str × Str × Bool)) (dn f k : Str) (g : Str → List (Str × Dat) → O) : Str → List (Str × Dat) → O := fun cn fs => match csAt cs cn, tabAt tab cn dn with
  | some fl, some true => (match fs with
    | [(f', d)] => if fl = some f ∧ f' = f then .new [.str k, d] [] else .stuck
    | _ => .stuck)
  | some _, some false => g cn fs
  | _, _ => .stuck
/-- return [k] if isinstance(error, D) else [m] -/
def endX (cs : List (Str × Option Str)) (tab : List (Str × Str × Bool)) (dn k m : Str) : Str → List (Str × Dat) → O := fun cn fs => match csAt cs cn, tabAt tab cn dn with
  | some _, some true => .new [.str k] []
  | some _, some false => .new [.str m] []
  | _, _ => .stuck
variable {cs : List (Str × Option Str)} {tab : List (Str × Str × Bool)} {dn f k m xn : Str} {D : Addr} {g : Str → List (Str × Dat) → O} {sts : List Stmt} {j j2 : Nat} {p1 p2 p3 p4 p5 p6 p7 p8 p9 p10 : Pos}
theorem isx_pe (hp : p ∈ X.pn) (hf : ∃ vs, p.2.data = .fields vs) (hN : X.N[0]? = some xn) (hv : Vis X.env.scope xn) (hg : Gl X "isinstance") (hm : X.mg "isinstance" = none) (gd : Gl X dn) (md : X.mg dn = some (.ref D)) (hd : (xn == ("__debug__" : Str)) = false) (hcd : (xn == ("__classdict__" : Str)) = false) (hdd : (dn == ("__debug__" : Str)) = false)
    (hs1 : starEach [.Name xn p2, .Name dn p3] X.env = (false, eval (.Name xn p2) X.env) :: starEach [.Name dn p3] X.env := by rfl) (hs2 : starEach [.Name dn p3] X.env = (false, eval (.Name dn p3) X.env) :: starEach [] X.env := by rfl) (hpl : (backTo p4 (starEach [.Name dn p3] X.env)).any (·.1) = false := by rfl) :
    PE X (.Call (.Name "isinstance" p1) [.Name xn p2, .Name dn p3] [] p4) (fun σ H Q => σ[0]? = some (some (.ref p.1)) ∧ rIsX X.K p [.ref p.1, .ref D] H Q) :=
  PE.imp (pe_callB (call_isX hp hf) hg hm (by decide +kernel) (pa_cons (pe_var hN hv hd hcd) (pa_cons (pe_glob gd md (show RelV (.ref D) (.ref D) from rfl) hdd) pa_nil hs2) hs1) (by decide) (by decide) hs1 hpl) fun σ H Q ⟨h1, h2⟩ => ⟨.ref p.1, h1, h2⟩
theorem tab_go {H H0 : Hp} {cn : Str} {fs : List (Str × Dat)} {cls : Value} {d : Option Addr} {fl : Option Str} {b : Bool} (T : XTab X.K X.mg cs tab) (md : X.mg dn = some (.ref D)) (xa : XAt (c0 X.K X.mg) H H0 cn fs cls d) (hz : Zc cls d p.2) (h1 : csAt cs cn = some fl) (h2 : tabAt tab cn dn = some b) :
    ∃ C, cls = .ref C ∧ Zc (.ref C) d p.2 ∧ XdAt H d ∧ ExK X.K C fl ∧ SpOk X.K ∧ PySem.W.kitOne X.K (.ref C) (.ref D) = some b := by
  obtain ⟨C, c1, c2, c3⟩ := xa
  subst c2
  obtain ⟨sp, t1, t2⟩ := T
  obtain ⟨C', k1, k2⟩ := t1 _ (csAt_mem h1)
  have e : C' = C := by
    have z := k1.symm.trans c1
    cases z; rfl
  subst e
  refine ⟨C', rfl, hz, fun dx e => ?_, k2, sp, t2 _ (tabAt_mem h2) C' D c1 md⟩
  subst e
  obtain ⟨vs, v1, _⟩ := c3
  exact ⟨vs, v1⟩
theorem tx_if (hp : p ∈ X.pn) (hf : ∃ vs, p.2.data = .fields vs) (T : XTab X.K X.mg cs tab) (hN : X.N[0]? = some xn) (hv : Vis X.env.scope xn) (hg : Gl X "isinstance") (hm : X.mg "isinstance" = none) (gd : Gl X dn) (md : X.mg dn = some (.ref D)) (hr : PSs X sts (tX X.K X.mg p g)) (hd : (xn == ("__debug__" : Str)) = false := by decide) (hcd : (xn == ("__classdict__" : Str)) = false := by decide) (hdd : (dn == ("__debug__" : Str)) = false := by decide) :
    PSs X (.If (.Call (.Name "isinstance" p1) [.Name xn p2, .Name dn p3] [] p4) [.Return (some (.List [.Constant (.str k) j p5, .Attribute (.Name xn p6) f p7] p8)) p9] [] p10 :: sts) (tX X.K X.mg p (ifX cs tab dn f k g)) := by
  refine PSs.imp (pss_cons (ps_if (pt_val (isx_pe hp hf hN hv hg hm gd md hd hcd hdd)) (pss_one (ps_ret (pe_lst (pa_cons pe_str (pa_cons (pe_xfX hp hf (pe_var hN hv hd hcd)) pa_nil))))) pss_nil) hr) fun E σ H ⟨H0, cn, fs, cls, d, s0, xa, hz, hs, q⟩ => ?_
  unfold ifX at q
  split at q
  · rename_i fl h1 h2
    split at q
    · rename_i f' dd
      split at q
      · rename_i hh
        obtain ⟨e1, e2⟩ := hh
        subst e1
        subst e2
        obtain ⟨C, rfl, z1, z2, z3, z4, z5⟩ := tab_go T md xa hz h1 h2
        obtain ⟨C', c1, c2, c3⟩ := xa
        match d, c3 with
        | some dx, ⟨vs, v1, v2, v3⟩ =>
          match vs, v1, v2, v3 with
          | [(f1, v)], v1, v2, .cons v3 .nil =>
            obtain rfl : f1 = f' := by simpa using v2
            refine ⟨hs, C, D, some dx, _, true, rfl, z1, z2, z3, z4, z5, true, rfl, ?_⟩
            dsimp only
            rw [if_pos rfl]
            refine ⟨_, hs, rfl, C, dx, [(f1, v)], v, z1, z3, v1, by simp [List.lookup], by show 2 ≤ sizeLine; decide, fun a ha => ?_⟩
            exact q a _ H0 (Grow.lay s0 ha) ha (s0.free ha) ⟨_, upd_same, .cons (.str k) (.cons v3 .nil)⟩
        | none, h => cases h
      · exact q.elim
    · exact q.elim
  · rename_i fl h1 h2
    obtain ⟨C, rfl, z1, z2, z3, z4, z5⟩ := tab_go T md xa hz h1 h2
    refine ⟨hs, C, D, d, _, false, rfl, z1, z2, z3, z4, z5, false, rfl, ?_⟩
    dsimp only
    rw [if_neg Bool.false_ne_true]
    exact ⟨H0, cn, fs, _, d, s0, xa, hz, hs, q⟩
  · exact q.elim
theorem tx_end (hp : p ∈ X.pn) (hf : ∃ vs, p.2.data = .fields vs) (T : XTab X.K X.mg cs tab) (hN : X.N[0]? = some xn) (hv : Vis X.env.scope xn) (hg : Gl X "isinstance") (hm : X.mg "isinstance" = none) (gd : Gl X dn) (md : X.mg dn = some (.ref D)) (hd : (xn == ("__debug__" : Str)) = false := by decide) (hcd : (xn == ("__classdict__" : Str)) = false := by decide) (hdd : (dn == ("__debug__" : Str)) = false := by decide) :
    PSs X [.Return (some (.IfExp (.Call (.Name "isinstance" p1) [.Name xn p2, .Name dn p3] [] p4) (.List [.Constant (.str k) j p5] p6) (.List [.Constant (.str m) j2 p7] p8) p9)) p10] (tX X.K X.mg p (endX cs tab dn k m)) := by
  refine PSs.imp (pss_one (ps_ret (pe_ifExp (pt_val (isx_pe hp hf hN hv hg hm gd md hd hcd hdd)) (pe_lst (pa_cons pe_str pa_nil)) (pe_lst (pa_cons pe_str pa_nil))))) fun E σ H ⟨H0, cn, fs, cls, d, s0, xa, hz, hs, q⟩ => ?_
  unfold endX at q
  split at q
  · rename_i fl h1 h2
    obtain ⟨C, rfl, z1, z2, z3, z4, z5⟩ := tab_go T md xa hz h1 h2
    refine ⟨hs, C, D, d, _, true, rfl, z1, z2, z3, z4, z5, true, rfl, ?_⟩
    dsimp only
    rw [if_pos rfl]
    exact ⟨by show 1 ≤ sizeLine; decide, fun a ha => q a _ H0 (Grow.lay s0 ha) ha (s0.free ha) ⟨_, upd_same, .cons (.str k) .nil⟩⟩
  · rename_i fl h1 h2
    obtain ⟨C, rfl, z1, z2, z3, z4, z5⟩ := tab_go T md xa hz h1 h2
    refine ⟨hs, C, D, d, _, false, rfl, z1, z2, z3, z4, z5, false, rfl, ?_⟩
    dsimp only
    rw [if_neg Bool.false_ne_true]
    exact ⟨by show 1 ≤ sizeLine; decide, fun a ha => q a _ H0 (Grow.lay s0 ha) ha (s0.free ha) ⟨_, upd_same, .cons (.str m) .nil⟩⟩
  · exact q.elim
end
end Sv

set_option Elab.async false
set_option linter.all false
set_option maxRecDepth 100000
set_option maxHeartbeats 1000000
namespace Sv
open PySem L2 PySem.Spec PyProof.Rows
/-! ## y = f(error) in a suite -/
def spX (K : PySem.W.Frag) (mg : Str → Option Value) (p : Addr × Obj) (g : Str → List (Str × Dat) → O) : L2.Sp := fun vs H Q E => ∃ (H0 : Hp) (cn : Str) (fs : List (Str × Dat)) (cls : Value) (d : Option Addr), vs = [.ref p.1] ∧ Same H0 H ∧ XAt (c0 K mg) H H0 cn fs cls d ∧ Zc cls d p.2 ∧ OutP K mg H H0 (g cn fs) Q E0
/-- the def x of the text st, which is handed the exception, keeps g -/
structure FdX (P : Program) (w : World) (K : PySem.W.Frag) (mg : Str → Option Value) (base : Heap) (x qual : Str) (st : Stmt) (k : Nat) (y : Str) (g : Str → List (Str × Dat) → O) : Prop where
  ex : ∃ (fa : Addr) (fd : FuncData), Fun K x qual st fa fd ∧ mg x = some (.ref fa) ∧ ∀ p : Addr × Obj, (∃ vs, p.2.data = .fields vs) → FnP P w K mg base k fa fd [y] p (spX K mg p g)
section
variable {P : Program} {w : World} {K : PySem.W.Frag} {mg : Str → Option Value} {base : Heap} {x qual y : Str} {st : Stmt} {k : Nat} {N : List Str} {g : Str → List (Str × Dat) → O}
theorem fdx_mk (S : Sd K mg x qual st) (sc : FnScope N [y] (defScope st)) (hb : ∀ (f : Addr) (cdv : Value) (A : Around) (outer : List Env) (s : Shared) (H : Hp) (p : Addr × Obj), (∃ vs, p.2.data = .fields vs) → PSs (L2H.cxH CX0 P w K mg base N qual (defScope st) f cdv A outer s H E0 p) (defBody st) (tX K mg p g)) :
    FdX P w K mg base x qual st (k + 1) y g := by
  obtain ⟨fa, fd, F, hm⟩ := S.ex
  refine ⟨fa, fd, F, hm, fun p hf => Fun.okP F sc (fun vs H Q E h => ?_) fun cdv A out s H vs Q h => ⟨_, hb fa cdv A out s H p hf, ?_⟩⟩
  · obtain ⟨_, _, _, _, _, e, _⟩ := h
    subst e
    rfl
  · obtain ⟨H0, cn, fs, cls, d, e, s0, xa, hz, q⟩ := h
    subst e
    exact ⟨H0, cn, fs, cls, d, s0, xa, hz, start_get rfl, q⟩
end
def laterO (g : Str → List (Str × Dat) → O) (j : Nat) : Str → List (Str × Dat) → En → O := fun cn fs ρ => match g cn fs with
  | .new ds _ => setNO (M.ret ds) j ρ
  | _ => .stuck
section
variable {X : Cx} {x qual yy n y : Str} {st : Stmt} {k : Nat} {g : Str → List (Str × Dat) → O} {i j : Nat} {py pn p1 pos pos' : Pos}
theorem su_later (D : FdX X.prog X.w X.K X.mg X.base x qual st k yy g) (bn : Bn x qual st [yy]) (hr : RoomG k X.A) (hg : Gl X x) (hN : X.N.Nodup) (hj : X.N[j]? = some y) (hi : X.N[i]? = some n) (hy : X.env.scope.names.lookup y = some .local) (hn : X.env.scope.names.lookup n = some .local)
    (hd : (n == ("__debug__" : Str)) = false := by decide) (hcd : (n == ("__classdict__" : Str)) = false := by decide) (hdb : (x == ("__debug__" : Str)) = false := by decide)
    (hs : ∀ Y : Cx, Y.env = X.env → swapsWith (.Call (.Name x p1) [.Name n pn] [] pos') (some (.Name y py)) pos.line Y.env = pure false := by intro Y h; rw [h]; rfl)
    (he : ∀ Y : Cx, Y.env = X.env → starEach [.Name n pn] Y.env = (false, eval (.Name n pn) Y.env) :: starEach [] Y.env := by intro Y h; rfl) (hpl : ∀ Y : Cx, Y.env = X.env → (backTo pos' (starEach [] Y.env)).any (·.1) = false := by intro Y h; rfl) :
    DSu X (some i) [.Assign [.Name y py] (.Call (.Name x p1) [.Name n pn] [] pos') pos] (laterO g j) := by
  obtain ⟨fa, fd, F, hm, ok⟩ := D.ex
  intro ad oe cls dx pins hz hf
  have hr2 : L2H.RoomH k (X.suite ad ((ad, oe) :: pins)).A := ⟨hr.1.dp, hr.1.un⟩
  refine PSs.imp (pss_one (ps_set (i := j) hN hj (.inl hy) (pe_callP (X := X.suite ad ((ad, oe) :: pins)) (ok (ad, oe) hf) List.mem_cons_self hr2 hg hm F.kp (F.binds bn) (pa_cons (pe_var hi (.inl hn) hd hcd) pa_nil) hdb (he _ rfl) (hpl _ rfl)) (hs _ rfl) (.inr hy))) fun D σ H ⟨z, H0, ρ, cn, fs, r, xa, hio, q⟩ => ?_
  unfold laterO at q
  refine ⟨.ref ad, (hio i rfl).1, H0, cn, fs, cls, dx, rfl, r.sub, xa.cast rfl rfl, hz, ?_⟩
  cases eg : g cn fs with
  | new ds ρ' =>
    rw [eg] at q
    exact fun a H' H0' gr ha h0 l => setN_run (gr.rel r) (new_at r ha h0 l) (RunS.up q gr.s)
  | nxt _ => rw [eg] at q; exact q.elim
  | ret _ _ => rw [eg] at q; exact q.elim
  | brk _ => rw [eg] at q; exact q.elim
  | ctn _ => rw [eg] at q; exact q.elim
  | err _ _ _ => rw [eg] at q; exact q.elim
  | stuck => rw [eg] at q; exact q.elim
/-! ### facts -/
theorem xt_mk {K : PySem.W.Frag} {mg : Str → Option Value} {cs : List (Str × Option Str)} {tab : List (Str × Str × Bool)} (sp : SpOk K) (h1 : ∀ q ∈ cs, ∃ C, mg q.1 = some (.ref C) ∧ ExK K C q.2) (h2 : ∀ q ∈ tab, ∀ C D : Addr, mg q.1 = some (.ref C) → mg q.2.1 = some (.ref D) → PySem.W.kitOne K (.ref C) (.ref D) = some q.2.2) : XTab K mg cs tab := ⟨sp, h1, h2⟩
theorem xc_nil {K : PySem.W.Frag} {mg : Str → Option Value} : ∀ q ∈ ([] : List (Str × Option Str)), ∃ C, mg q.1 = some (.ref C) ∧ ExK K C q.2 := fun _ h => nomatch h
theorem xc_cons {K : PySem.W.Frag} {mg : Str → Option Value} {cs : List (Str × Option Str)} {x : Str} {fl : Option Str} {C : Addr} (hm : mg x = some (.ref C)) (h : ExK K C fl) (r : ∀ q ∈ cs, ∃ C, mg q.1 = some (.ref C) ∧ ExK K C q.2) : ∀ q ∈ (x, fl) :: cs, ∃ C, mg q.1 = some (.ref C) ∧ ExK K C q.2 := fun q hq => by
  rcases List.mem_cons.mp hq with e | e
  · subst e; exact ⟨C, hm, h⟩
  · exact r q e
theorem xt_nil {K : PySem.W.Frag} {mg : Str → Option Value} : ∀ q ∈ ([] : List (Str × Str × Bool)), ∀ C D : Addr, mg q.1 = some (.ref C) → mg q.2.1 = some (.ref D) → PySem.W.kitOne K (.ref C) (.ref D) = some q.2.2 := fun _ h => nomatch h
theorem xt_cons {K : PySem.W.Frag} {mg : Str → Option Value} {tab : List (Str × Str × Bool)} {x y : Str} {b : Bool} {C D : Addr} (h1 : mg x = some (.ref C)) (h2 : mg y = some (.ref D)) (h : PySem.W.kitOne K (.ref C) (.ref D) = some b) (r : ∀ q ∈ tab, ∀ C D : Addr, mg q.1 = some (.ref C) → mg q.2.1 = some (.ref D) → PySem.W.kitOne K (.ref C) (.ref D) = some q.2.2) :
    ∀ q ∈ (x, y, b) :: tab, ∀ C D : Addr, mg q.1 = some (.ref C) → mg q.2.1 = some (.ref D) → PySem.W.kitOne K (.ref C) (.ref D) = some q.2.2 := fun q hq C' D' e1 e2 => by
  rcases List.mem_cons.mp hq with e | e
  · subst e
    have e1 : mg x = some (.ref C') := e1
    have e2 : mg y = some (.ref D') := e2
    rw [h1] at e1; rw [h2] at e2
    cases e1; cases e2
    exact h
  · exact r q e C' D' e1 e2
end
section
variable {X : Cx} {W : WX}
/-! ## a suite: y = [k, n.place] -/
def fldOP (cx : Str) (s : Str) (j : Nat) : Str → List (Str × Dat) → En → O := fun cn fs ρ => if cn = cx then (match fs with
  | [(fl, d)] => if fl = "place" then setNO (M.ret [.str s, d]) j ρ else .stuck
  | _ => .stuck) else .stuck
theorem su_fldP {cx s y n : Str} {i j jj : Nat} {py pn pa pl p1 : Pos} (T : ExP X.K X.mg cx) (hN : X.N.Nodup) (hj : X.N[j]? = some y) (hi : X.N[i]? = some n) (hy : X.env.scope.names.lookup y = some .local) (hn : X.env.scope.names.lookup n = some .local) (hd : (n == ("__debug__" : Str)) = false := by decide) (hcd : (n == ("__classdict__" : Str)) = false := by decide)
    (hs : ∀ Y : Cx, Y.env = X.env → swapsWith (.List [.Constant (.str s) jj p1, .Attribute (.Name n pn) "place" pa] pl) (some (.Name y py)) pos.line Y.env = pure false := by intro Y h; rw [h]; rfl) :
    DSu X (some i) [.Assign [.Name y py] (.List [.Constant (.str s) jj p1, .Attribute (.Name n pn) "place" pa] pl) pos] (fldOP cx s j) := by
  obtain ⟨qx, C, fI, T⟩ := T.ex
  intro ad oe cls dx pins hz hf
  refine PSs.imp (pss_one (ps_set (i := j) hN hj (.inl hy) (pe_lst (pa_cons pe_str (pa_cons (pe_byLowP T hz hf (pe_var hi (.inl hn) hd hcd)) pa_nil))) (hs _ rfl) (.inr hy))) fun D σ H ⟨z, H0, ρ, cn, fs, r, xa, hio, q⟩ => ?_
  unfold fldOP at q
  split at q
  · rename_i ec
    subst ec
    obtain ⟨C', c1, c2, c3⟩ := xa
    have c1 : X.mg cn = some (.ref C') := c1
    rw [T.gC] at c1
    cases c1
    split at q
    · rename_i fl d
      split at q
      · rename_i ef
        subst ef
        match dx, c3 with
        | some dd, ⟨vs, v1, v2, v3⟩ =>
          match vs, v1, v2, v3 with
          | [(f1, v)], v1, v2, .cons v3 .nil =>
            have e1 : f1 = "place" := by simpa using v2
            subst e1
            refine ⟨_, (hio i rfl).1, rfl, c2, dd, v, rfl, v1, by show 2 ≤ sizeLine; decide, fun p hp => ?_⟩
            exact setN_run (r.new' _ hp) ⟨(r.fresh hp).1, (r.fresh hp).2, r.notat hp, r.nors hp, _, upd_same, .cons (.str s) (.cons v3 .nil)⟩ q
        | none, h => cases h
      · exact q.elim
    · exact q.elim
  · exact q.elim
/-! ## a suite: y = [k, n.name] -/
def fldON (cx : Str) (s : Str) (j : Nat) : Str → List (Str × Dat) → En → O := fun cn fs ρ => if cn = cx then (match fs with
  | [(fl, d)] => if fl = "name" then setNO (M.ret [.str s, d]) j ρ else .stuck
  | _ => .stuck) else .stuck
theorem su_fldN {cx s y n : Str} {i j jj : Nat} {py pn pa pl p1 : Pos} (T : ExN X.K X.mg cx) (hN : X.N.Nodup) (hj : X.N[j]? = some y) (hi : X.N[i]? = some n) (hy : X.env.scope.names.lookup y = some .local) (hn : X.env.scope.names.lookup n = some .local) (hd : (n == ("__debug__" : Str)) = false := by decide) (hcd : (n == ("__classdict__" : Str)) = false := by decide)
    (hs : ∀ Y : Cx, Y.env = X.env → swapsWith (.List [.Constant (.str s) jj p1, .Attribute (.Name n pn) "name" pa] pl) (some (.Name y py)) pos.line Y.env = pure false := by intro Y h; rw [h]; rfl) :
    DSu X (some i) [.Assign [.Name y py] (.List [.Constant (.str s) jj p1, .Attribute (.Name n pn) "name" pa] pl) pos] (fldON cx s j) := by
  obtain ⟨qx, C, fI, T⟩ := T.ex
  intro ad oe cls dx pins hz hf
  refine PSs.imp (pss_one (ps_set (i := j) hN hj (.inl hy) (pe_lst (pa_cons pe_str (pa_cons (pe_byLowN T hz hf (pe_var hi (.inl hn) hd hcd)) pa_nil))) (hs _ rfl) (.inr hy))) fun D σ H ⟨z, H0, ρ, cn, fs, r, xa, hio, q⟩ => ?_
  unfold fldON at q
  split at q
  · rename_i ec
    subst ec
    obtain ⟨C', c1, c2, c3⟩ := xa
    have c1 : X.mg cn = some (.ref C') := c1
    rw [T.gC] at c1
    cases c1
    split at q
    · rename_i fl d
      split at q
      · rename_i ef
        subst ef
        match dx, c3 with
        | some dd, ⟨vs, v1, v2, v3⟩ =>
          match vs, v1, v2, v3 with
          | [(f1, v)], v1, v2, .cons v3 .nil =>
            have e1 : f1 = "name" := by simpa using v2
            subst e1
            refine ⟨_, (hio i rfl).1, rfl, c2, dd, v, rfl, v1, by show 2 ≤ sizeLine; decide, fun p hp => ?_⟩
            exact setN_run (r.new' _ hp) ⟨(r.fresh hp).1, (r.fresh hp).2, r.notat hp, r.nors hp, _, upd_same, .cons (.str s) (.cons v3 .nil)⟩ q
        | none, h => cases h
      · exact q.elim
    · exact q.elim
  · exact q.elim
end
end Sv

set_option Elab.async false
set_option linter.all false
set_option maxRecDepth 100000
set_option maxHeartbeats 1000000
namespace Sv
open PySem L2 PySem.Spec PyProof.Rows
/-! ## defs as values -/
def FnV (K : PySem.W.Frag) (mg : Str → Option Value) (x : Str) : Prop := ∃ fa : Addr, PySem.W.nsIn K mainGlobals x = some (some (.ref fa)) ∧ mg x = some (.ref fa)
structure HeldG (P : Program) (w : World) (K : PySem.W.Frag) (mg : Str → Option Value) (base : Heap) (k : Nat) (f : Addr) (sp : L2.Sp) : Prop where
  ex : ∃ (fd : FuncData) (ps : List Str) (j : Nat), j ≤ k ∧ FnG P w K mg base (L2.CX P w) j f fd ps sp ∧ PySem.W.keepIn K (.ref f) = true ∧ Binds K fd ps []
def tCallV (P : Program) (w : World) (K : PySem.W.Frag) (mg : Str → Option Value) (base : Heap) (k i : Nat) (E : L2.St → XK) (t : TA) : TE := fun σ H Q => ∃ f sp, σ[i]? = some (some (.ref f)) ∧ HeldG P w K mg base k f sp ∧ t σ H fun vs H1 => sp vs H1 Q (E σ)
section
variable {X : Cx} {W : WX} {k i j n : Nat} {x : Str} {p pos : Pos} {e : Expr} {es : List Expr} {t : TA} {E : L2.St → XK} {ga : M (List Dat)}
theorem pe_callV (hr : RoomG k X.A) (hN : X.N[i]? = some x) (hv : Vis X.env.scope x) (hx : ∀ σ, PassesAt (L2.CX X.prog X.w) X σ (E σ)) (ha : PA X (e :: es) t) (hd : (x == ("__debug__" : Str)) = false := by decide) (hcd : (x == ("__classdict__" : Str)) = false := by decide)
    (he : starEach (e :: es) X.env = (false, eval e X.env) :: starEach es X.env := by rfl) (hpl : (backTo pos (starEach es X.env)).any (·.1) = false := by rfl) : PE X (.Call (.Name x p) (e :: es) [] pos) (tCallV X.prog X.w X.K X.mg X.base k i E t) := by
  refine ⟨fun pins s σ H Q I h => ?_⟩
  obtain ⟨f, sp, hs, hh, ht⟩ := h
  obtain ⟨fd, ps, j, hj, F, hk, hb⟩ := hh.ex
  refine wpAny_Call_Name_kw (thn ((pe_var (pos := p) hN hv hd hcd).run pins s σ H (fun v G => v = .ref f ∧ G = H) I ⟨.ref f, hs, rfl, rfl⟩) fun u s1 ⟨v, H1, I1, r1, q1⟩ => ?_)
  obtain ⟨rfl, rfl⟩ := q1
  cases r1
  refine PySem.W.callWith_K (h₀ := X.base) I.ok.mod.kin hk (thn (ha.run pos pins s1 σ _ _ I1 ht) fun us s2 ⟨vs, H2, I2, r, q⟩ => ⟨I2.kIn, ?_⟩) he hpl
  have b := hb s2 us I2.kIn (by rw [List.append_nil, ← r.length]; exact F.len _ _ _ _ q)
  rw [List.append_nil] at b
  exact wpAny_call (runG F (hr.mono hj) b (hx σ) I2 r q)
theorem de_fnv (D : FnV X.K X.mg x) (hg : Gl X x) (hd : (x == ("__debug__" : Str)) = false := by decide) : DE X W (.Name x pos) (M.ret (.fn x)) := by
  obtain ⟨fa, d1, d2⟩ := D
  exact PE.imp (pe_glob hg d2 (show RelV (.ref fa) (.ref fa) from rfl) hd) fun σ H Q ⟨z, H0, ρ, r, q⟩ => q H H0 r (Same.refl _) _ (.fn d1)
def fnAt (tbl : List (Str × (List Dat → O))) : Dat → Option (List Dat → O)
  | .fn x => tbl.lookup x
  | _ => none
def M.callV (i : Nat) (ga : M (List Dat)) (tbl : List (Str × (List Dat → O))) : M Dat := (rdVar i).bnd fun d => match fnAt tbl d with
  | some G => ga.bnd fun ds ρ => callR (G ds) ρ
  | none => fun _ => .stuck
def TblV (P : Program) (w : World) (K : PySem.W.Frag) (mg : Str → Option Value) (base : Heap) (k n : Nat) (tbl : List (Str × (List Dat → O))) : Prop := ∀ q ∈ tbl, FnV K mg q.1 ∧ ∃ (qual : Str) (st : Stmt) (ps : List Str) (j : Nat), j ≤ k ∧ Fd P w K mg base q.1 qual st j ps (spP K mg n q.2) ∧ Bn q.1 qual st ps
theorem tv_nil {P : Program} {w : World} {K : PySem.W.Frag} {mg : Str → Option Value} {base : Heap} : TblV P w K mg base k n [] := fun _ h => nomatch h
theorem tv_cons {P : Program} {w : World} {K : PySem.W.Frag} {mg : Str → Option Value} {base : Heap} {tbl : List (Str × (List Dat → O))} {qual : Str} {st : Stmt} {ps : List Str} {G : List Dat → O} (v : FnV K mg x) (D : Fd P w K mg base x qual st j ps (spP K mg n G)) (b : Bn x qual st ps) (h : j ≤ k) (r : TblV P w K mg base k n tbl) : TblV P w K mg base k n ((x, G) :: tbl) := fun q hq => by
  rcases List.mem_cons.mp hq with e | e
  · subst e; exact ⟨v, qual, st, ps, j, h, D, b⟩
  · exact r q e
theorem c_dv (i : Nat) {tbl : List (Str × (List Dat → O))} (T : TblV X.prog X.w X.K X.mg X.base k n tbl) (tk : Takes X W) (hr : RoomG k X.A) (hN : X.N[i]? = some x) (hv : Vis X.env.scope x) (hn : ∀ ρ ds ρ', ga ρ = .ok ds ρ' → ds.length = n) (ha : DA X W (e :: es) ga)
    (hd : (x == ("__debug__" : Str)) = false := by decide) (hcd : (x == ("__classdict__" : Str)) = false := by decide) (he : starEach (e :: es) X.env = (false, eval e X.env) :: starEach es X.env := by rfl) (hpl : (backTo pos (starEach es X.env)).any (·.1) = false := by rfl) :
    DE X W (.Call (.Name x p) (e :: es) [] pos) (M.callV i ga tbl) :=
  PE.imp (pe_callV (k := k) (i := i) (E := fun σ => WE W σ) hr hN hv (fun σ => passAt tk σ) ha hd hcd he hpl) fun σ H Q ⟨z, H0, ρ, r, q⟩ => by
    unfold M.callV at q
    unfold M.bnd at q
    cases ev : rdVar i ρ with
    | stuck => rw [ev] at q; exact q.elim
    | err cn fs ρ1 =>
      unfold rdVar at ev
      split at ev <;> cases ev
    | ok d ρ1 =>
      rw [ev] at q
      dsimp only at q
      cases ef : fnAt tbl d with
      | none => rw [ef] at q; exact q.elim
      | some G =>
        rw [ef] at q
        dsimp only at q
        cases d with
        | fn y =>
          have ml : (y, G) ∈ tbl := lookup_mem ef
          obtain ⟨⟨fa, f1, f2⟩, qual, st, ps, jj, hj, D, bn⟩ := T _ ml
          obtain ⟨fb, fd, F, ok, hm⟩ := D.ex
          have e1 : fb = fa := by
            have z := hm.symm.trans f2
            cases z; rfl
          subst e1
          unfold rdVar at ev
          split at ev
          · rename_i d' es1
            cases ev
            obtain ⟨v, v1, v2⟩ := r.val i _ es1
            cases v2 with
            | @fn a _ hf =>
              have e2 : a = fb := by
                have z := hf.symm.trans f1
                cases z; rfl
              subst e2
              refine ⟨a, _, v1, ⟨fd, ps, jj, hj, ok, F.kp, F.binds bn⟩, z, H0, ρ, r, ?_⟩
              have hn := hn ρ
              cases eg : ga ρ with
              | ok ds ρ1 =>
                rw [eg] at q
                exact fun H1 G1 r1 s1 vs hv => ⟨G1, ds, r1.sub, hv, hn ds ρ1 eg, out_callR r1 (Run.up q s1)⟩
              | err cn fs ρ1 => rw [eg] at q; exact q
              | stuck => rw [eg] at q; exact q
          · cases ev
          · cases ev
        | _ => cases ef
end
end Sv

set_option Elab.async false
set_option linter.all false
set_option maxRecDepth 100000
set_option maxHeartbeats 4000000
namespace Sv.pw_cellpictures_k01_ways_and_maps
open PySem L2 PyProof.Rows Sv
def top (i : Nat) : Stmt := PySem.Challenge.pw_cellpictures_k01_ways_and_maps.main.body.getD i (.Pass ⟨0, 0, 0, 0⟩)
section
variable {P : Program} {w : World} {K : PySem.W.Frag} {mg : Str → Option Value} {base : Heap}
def k_STEPS : Dat := .tup [.tup [.int (-1), .int (-1)], .tup [.int (-1), .int 0], .tup [.int (-1), .int 1], .tup [.int 0, .int 1], .tup [.int 1, .int 1], .tup [.int 1, .int 0], .tup [.int 1, .int (-1)], .tup [.int 0, .int (-1)]]
variable {v_STEPS : Value} {u_STEPS : V}
def dd_window : List Dat := [.tup [.str "open", .str "open"]]
variable {dv_window : List V}
variable {C_PictureError : Addr}
variable {C_InvalidNumber : Addr}
variable {C_InvalidWay : Addr}
variable {C_InvalidMap : Addr}
variable {C_InvalidEnds : Addr}
variable {C_InvalidCell : Addr}
def own0 : List Str := []
def tab0 : List (Str × Str × Bool) := []
def cs0 : List (Str × Option Str) := []
def xtab0 : List (Str × Str × Bool) := []

/-! ### is_count -/
abbrev st_is_count : Stmt := top 8
theorem sc_is_count : FnScope ["thing"] ["thing"] (defScope st_is_count) := ⟨rfl, rfl, rfl, by decide +kernel, rfl, by decide +kernel, by decide +kernel⟩
theorem bn_is_count : Bn "is_count" "is_count" st_is_count ["thing"] := fun _ _ _ _ _ _ us hl => match us, hl with | [_], _ => rfl
def B_is_count : En → O := (retO (M.andV (M.un1 (rdVar 0) (isiD tb_int)) (M.andV (M.notV (M.un1 (rdVar 0) (isiD tb_bool))) (M.bin (rdVar 0) (M.ret (.int 0)) geD))))
def G_is_count (ds : List Dat) : O := (B_is_count (startE 1 (ds.map .val))).pur
theorem d_is_count (S : Sd K mg "is_count" "is_count" st_is_count) (z_isinstance : mg "isinstance" = none) (z_int : mg "int" = none) (z_bool : mg "bool" = none) :
    Fd P w K mg base "is_count" "is_count" st_is_count 2 ["thing"] (spP K mg 1 G_is_count) :=
  fd_pure S sc_is_count (fun f cdv A outer s H E hr => by
    have tk : Takes (cxOf (L2.CX P w) P w K mg base ["thing"] "is_count" (defScope st_is_count) f cdv A outer s H E) (WE0 E) := takes_of rfl rfl rfl rfl
    exact (db_one (ds_ret (de_and (de_isi (T := "int") tb_int (by decide +kernel) rfl z_isinstance rfl z_int (by decide +kernel) (de_var 0)) (de_and (de_not (de_isi (T := "bool") tb_bool (by decide +kernel) rfl z_isinstance rfl z_bool (by decide +kernel) (de_var 0))) (de_and1 (de_ge (de_var 0) de_int)))))))

/-! ### is_count_below -/
abbrev st_is_count_below : Stmt := top 9
theorem sc_is_count_below : FnScope ["thing", "limit"] ["thing", "limit"] (defScope st_is_count_below) := ⟨rfl, rfl, rfl, by decide +kernel, rfl, by decide +kernel, by decide +kernel⟩
theorem bn_is_count_below : Bn "is_count_below" "is_count_below" st_is_count_below ["thing", "limit"] := fun _ _ _ _ _ _ us hl => match us, hl with | [_, _], _ => rfl
def B_is_count_below : En → O := (retO (M.andV (M.call (M.cons (rdVar 0) ((M.ret []))) [] G_is_count) (M.bin (rdVar 0) (rdVar 1) ltD)))
def G_is_count_below (ds : List Dat) : O := (B_is_count_below (startE 2 (ds.map .val))).pur
theorem d_is_count_below (S : Sd K mg "is_count_below" "is_count_below" st_is_count_below) (D_is_count : Fd P w K mg base "is_count" "is_count" st_is_count 2 ["thing"] (spP K mg 1 G_is_count)) :
    Fd P w K mg base "is_count_below" "is_count_below" st_is_count_below 3 ["thing", "limit"] (spP K mg 2 G_is_count_below) :=
  fd_pure S sc_is_count_below (fun f cdv A outer s H E hr => by
    have tk : Takes (cxOf (L2.CX P w) P w K mg base ["thing", "limit"] "is_count_below" (defScope st_is_count_below) f cdv A outer s H E) (WE0 E) := takes_of rfl rfl rfl rfl
    exact (db_one (ds_ret (de_and (c_de D_is_count bn_is_count tk hr (by decide) rfl (cons_len nil_len) (da_cons (de_var 0) da_nil)) (de_and1 (de_lt (de_var 0) (de_var 1)))))))

/-! ### is_way -/
abbrev st_is_way : Stmt := top 10
theorem sc_is_way : FnScope ["thing"] ["thing"] (defScope st_is_way) := ⟨rfl, rfl, rfl, by decide +kernel, rfl, by decide +kernel, by decide +kernel⟩
theorem bn_is_way : Bn "is_way" "is_way" st_is_way ["thing"] := fun _ _ _ _ _ _ us hl => match us, hl with | [_], _ => rfl
def B_is_way : En → O := (retO (M.call (M.cons (rdVar 0) ((M.cons (M.ret (.int 8)) ((M.ret []))))) [] G_is_count_below))
def G_is_way (ds : List Dat) : O := (B_is_way (startE 1 (ds.map .val))).pur
theorem d_is_way (S : Sd K mg "is_way" "is_way" st_is_way) (D_is_count_below : Fd P w K mg base "is_count_below" "is_count_below" st_is_count_below 3 ["thing", "limit"] (spP K mg 2 G_is_count_below)) :
    Fd P w K mg base "is_way" "is_way" st_is_way 4 ["thing"] (spP K mg 1 G_is_way) :=
  fd_pure S sc_is_way (fun f cdv A outer s H E hr => by
    have tk : Takes (cxOf (L2.CX P w) P w K mg base ["thing"] "is_way" (defScope st_is_way) f cdv A outer s H E) (WE0 E) := takes_of rfl rfl rfl rfl
    exact (db_one (ds_ret (c_de D_is_count_below bn_is_count_below tk hr (by decide) rfl (cons_len (cons_len nil_len)) (da_cons (de_var 0) (da_cons de_int da_nil))))))

/-! ### check_way -/
abbrev st_check_way : Stmt := top 11
theorem sc_check_way : FnScope ["way"] ["way"] (defScope st_check_way) := ⟨rfl, rfl, rfl, by decide +kernel, rfl, by decide +kernel, by decide +kernel⟩
theorem bn_check_way : Bn "check_way" "check_way" st_check_way ["way"] := fun _ _ _ _ _ _ us hl => match us, hl with | [_], _ => rfl
def B_check_way : En → O := (ifO (M.notB (M.isB (M.call (M.cons (rdVar 0) ((M.ret []))) [] G_is_way))) (raiseO "InvalidWay" "thing" ((M.cons (rdVar 0) ((M.ret []))))) O.nxt)
def G_check_way (ds : List Dat) : O := (B_check_way (startE 1 (ds.map .val))).pur
theorem d_check_way (S : Sd K mg "check_way" "check_way" st_check_way) (D_is_way : Fd P w K mg base "is_way" "is_way" st_is_way 4 ["thing"] (spP K mg 1 G_is_way)) (x_InvalidWay : ExT K mg "InvalidWay") :
    Fd P w K mg base "check_way" "check_way" st_check_way 5 ["way"] (spP K mg 1 G_check_way) :=
  fd_pure S sc_check_way (fun f cdv A outer s H E hr => by
    have tk : Takes (cxOf (L2.CX P w) P w K mg base ["way"] "check_way" (defScope st_check_way) f cdv A outer s H E) (WE0 E) := takes_of rfl rfl rfl rfl
    exact (db_one (ds_if (dt_not (dt_val (c_de D_is_way bn_is_way tk hr (by decide) rfl (cons_len nil_len) (da_cons (de_var 0) da_nil)))) (db_one (ds_raiseT x_InvalidWay rfl hr tk (da_cons (de_var 0) da_nil) rfl)) db_nil)))

/-! ### check_number -/
abbrev st_check_number : Stmt := top 12
theorem sc_check_number : FnScope ["number", "limit"] ["number", "limit"] (defScope st_check_number) := ⟨rfl, rfl, rfl, by decide +kernel, rfl, by decide +kernel, by decide +kernel⟩
theorem bn_check_number : Bn "check_number" "check_number" st_check_number ["number", "limit"] := fun _ _ _ _ _ _ us hl => match us, hl with | [_, _], _ => rfl
def B_check_number : En → O := (ifO (M.notB (M.isB (M.call (M.cons (rdVar 0) ((M.cons (rdVar 1) ((M.ret []))))) [] G_is_count_below))) (raiseO "InvalidNumber" "thing" ((M.cons (rdVar 0) ((M.ret []))))) O.nxt)
def G_check_number (ds : List Dat) : O := (B_check_number (startE 2 (ds.map .val))).pur
theorem d_check_number (S : Sd K mg "check_number" "check_number" st_check_number) (D_is_count_below : Fd P w K mg base "is_count_below" "is_count_below" st_is_count_below 3 ["thing", "limit"] (spP K mg 2 G_is_count_below)) (x_InvalidNumber : ExT K mg "InvalidNumber") :
    Fd P w K mg base "check_number" "check_number" st_check_number 4 ["number", "limit"] (spP K mg 2 G_check_number) :=
  fd_pure S sc_check_number (fun f cdv A outer s H E hr => by
    have tk : Takes (cxOf (L2.CX P w) P w K mg base ["number", "limit"] "check_number" (defScope st_check_number) f cdv A outer s H E) (WE0 E) := takes_of rfl rfl rfl rfl
    exact (db_one (ds_if (dt_not (dt_val (c_de D_is_count_below bn_is_count_below tk hr (by decide) rfl (cons_len (cons_len nil_len)) (da_cons (de_var 0) (da_cons (de_var 1) da_nil))))) (db_one (ds_raiseT x_InvalidNumber rfl hr tk (da_cons (de_var 0) da_nil) rfl)) db_nil)))

/-! ### check_cell -/
abbrev st_check_cell : Stmt := top 13
theorem sc_check_cell : FnScope ["line", "limit"] ["line", "limit"] (defScope st_check_cell) := ⟨rfl, rfl, rfl, by decide +kernel, rfl, by decide +kernel, by decide +kernel⟩
theorem bn_check_cell : Bn "check_cell" "check_cell" st_check_cell ["line", "limit"] := fun _ _ _ _ _ _ us hl => match us, hl with | [_, _], _ => rfl
def B_check_cell : En → O := (ifO (M.notB (M.isB (M.call (M.cons (rdVar 0) ((M.cons (rdVar 1) ((M.ret []))))) [] G_is_count_below))) (raiseO "InvalidCell" "thing" ((M.cons (rdVar 0) ((M.ret []))))) O.nxt)
def G_check_cell (ds : List Dat) : O := (B_check_cell (startE 2 (ds.map .val))).pur
theorem d_check_cell (S : Sd K mg "check_cell" "check_cell" st_check_cell) (D_is_count_below : Fd P w K mg base "is_count_below" "is_count_below" st_is_count_below 3 ["thing", "limit"] (spP K mg 2 G_is_count_below)) (x_InvalidCell : ExT K mg "InvalidCell") :
    Fd P w K mg base "check_cell" "check_cell" st_check_cell 4 ["line", "limit"] (spP K mg 2 G_check_cell) :=
  fd_pure S sc_check_cell (fun f cdv A outer s H E hr => by
    have tk : Takes (cxOf (L2.CX P w) P w K mg base ["line", "limit"] "check_cell" (defScope st_check_cell) f cdv A outer s H E) (WE0 E) := takes_of rfl rfl rfl rfl
    exact (db_one (ds_if (dt_not (dt_val (c_de D_is_count_below bn_is_count_below tk hr (by decide) rfl (cons_len (cons_len nil_len)) (da_cons (de_var 0) (da_cons (de_var 1) da_nil))))) (db_one (ds_raiseT x_InvalidCell rfl hr tk (da_cons (de_var 0) da_nil) rfl)) db_nil)))

/-! ### is_end -/
abbrev st_is_end : Stmt := top 14
theorem sc_is_end : FnScope ["thing"] ["thing"] (defScope st_is_end) := ⟨rfl, rfl, rfl, by decide +kernel, rfl, by decide +kernel, by decide +kernel⟩
theorem bn_is_end : Bn "is_end" "is_end" st_is_end ["thing"] := fun _ _ _ _ _ _ us hl => match us, hl with | [_], _ => rfl
def B_is_end : En → O := (retO (M.andV (M.un1 (rdVar 0) (isiD tb_str)) (M.bin (rdVar 0) (M.tup (M.cons (M.ret (.str "open")) ((M.cons (M.ret (.str "wrap")) ((M.ret [])))))) inD)))
def G_is_end (ds : List Dat) : O := (B_is_end (startE 1 (ds.map .val))).pur
theorem d_is_end (S : Sd K mg "is_end" "is_end" st_is_end) (z_isinstance : mg "isinstance" = none) (z_str : mg "str" = none) :
    Fd P w K mg base "is_end" "is_end" st_is_end 2 ["thing"] (spP K mg 1 G_is_end) :=
  fd_pure S sc_is_end (fun f cdv A outer s H E hr => by
    have tk : Takes (cxOf (L2.CX P w) P w K mg base ["thing"] "is_end" (defScope st_is_end) f cdv A outer s H E) (WE0 E) := takes_of rfl rfl rfl rfl
    exact (db_one (ds_ret (de_and (de_isi (T := "str") tb_str (by decide +kernel) rfl z_isinstance rfl z_str (by decide +kernel) (de_var 0)) (de_and1 (de_in (de_var 0) (de_tup (da_cons de_str (da_cons de_str da_nil)))))))))

/-! ### check_ends -/
abbrev st_check_ends : Stmt := top 15
theorem sc_check_ends : FnScope ["ends"] ["ends"] (defScope st_check_ends) := ⟨rfl, rfl, rfl, by decide +kernel, rfl, by decide +kernel, by decide +kernel⟩
theorem bn_check_ends : Bn "check_ends" "check_ends" st_check_ends ["ends"] := fun _ _ _ _ _ _ us hl => match us, hl with | [_], _ => rfl
def B_check_ends : En → O := (ifO (M.orB (M.notB (M.isB (M.un1 (rdVar 0) (isiD tb_tuple)))) (M.orB (M.isB (M.bin (M.bi (M.cons (rdVar 0) ((M.ret []))) lenD) (M.ret (.int 2)) neD)) (M.orB (M.notB (M.isB (M.call (M.cons (M.bin (rdVar 0) (M.ret (.int 0)) ixD) ((M.ret []))) [] G_is_end))) (M.notB (M.isB (M.call (M.cons (M.bin (rdVar 0) (M.ret (.int 1)) ixD) ((M.ret []))) [] G_is_end)))))) (raiseO "InvalidEnds" "thing" ((M.cons (rdVar 0) ((M.ret []))))) O.nxt)
def G_check_ends (ds : List Dat) : O := (B_check_ends (startE 1 (ds.map .val))).pur
theorem d_check_ends (S : Sd K mg "check_ends" "check_ends" st_check_ends) (D_is_end : Fd P w K mg base "is_end" "is_end" st_is_end 2 ["thing"] (spP K mg 1 G_is_end)) (z_isinstance : mg "isinstance" = none) (z_tuple : mg "tuple" = none) (z_len : mg "len" = none) (x_InvalidEnds : ExT K mg "InvalidEnds") :
    Fd P w K mg base "check_ends" "check_ends" st_check_ends 3 ["ends"] (spP K mg 1 G_check_ends) :=
  fd_pure S sc_check_ends (fun f cdv A outer s H E hr => by
    have tk : Takes (cxOf (L2.CX P w) P w K mg base ["ends"] "check_ends" (defScope st_check_ends) f cdv A outer s H E) (WE0 E) := takes_of rfl rfl rfl rfl
    exact (db_one (ds_if (DW.dt (dw_or (dt_not (dt_val (de_isi (T := "tuple") tb_tuple (by decide +kernel) rfl z_isinstance rfl z_tuple (by decide +kernel) (de_var 0)))) (dw_or (dt_ne hr.units (de_len rfl z_len (da_cons (de_var 0) da_nil)) de_int) (dw_or (dt_not (dt_val (c_de D_is_end bn_is_end tk hr (by decide) rfl (cons_len nil_len) (da_cons (de_at (de_var 0) de_int) da_nil)))) (dw_or1 (dt_not (dt_val (c_de D_is_end bn_is_end tk hr (by decide) rfl (cons_len nil_len) (da_cons (de_at (de_var 0) de_int) da_nil))))))))) (db_one (ds_raiseT x_InvalidEnds rfl hr tk (da_cons (de_var 0) da_nil) rfl)) db_nil)))

/-! ### is_row -/
abbrev st_is_row : Stmt := top 16
theorem sc_is_row : FnScope ["thing", "is_item", "item"] ["thing", "is_item"] (defScope st_is_row) := ⟨rfl, rfl, rfl, by decide +kernel, rfl, by decide +kernel, by decide +kernel⟩
theorem bn_is_row : Bn "is_row" "is_row" st_is_row ["thing", "is_item"] := fun _ _ _ _ _ _ us hl => match us, hl with | [_, _], _ => rfl
def E_is_row_0 : M Dat := (M.callV 1 (M.cons (rdVar 2) ((M.ret []))) [("is_count", G_is_count)])
def C_is_row_1 : M (List Dat) := (M.lc (rdVar 0) (.one 2) tYesM E_is_row_0)
def B_is_row : En → O := (retO (M.andV (M.un1 (rdVar 0) (isiD tb_tuple)) (M.andV (M.bin (M.bi (M.cons (rdVar 0) ((M.ret []))) lenD) (M.ret (.int 0)) gtD) (M.bi (M.cons (M.frz C_is_row_1) ((M.ret []))) allD))))
def G_is_row (ds : List Dat) : O := (B_is_row (startE 3 (ds.map .val))).pur
theorem d_is_row (S : Sd K mg "is_row" "is_row" st_is_row) (D_is_count : Fd P w K mg base "is_count" "is_count" st_is_count 2 ["thing"] (spP K mg 1 G_is_count)) (z_isinstance : mg "isinstance" = none) (z_tuple : mg "tuple" = none) (z_len : mg "len" = none) (z_all : mg "all" = none) (fv_is_count : FnV K mg "is_count") :
    Fd P w K mg base "is_row" "is_row" st_is_row 3 ["thing", "is_item"] (spP K mg 2 G_is_row) :=
  fd_pure S sc_is_row (fun f cdv A outer s H E hr => by
    have tk : Takes (cxOf (L2.CX P w) P w K mg base ["thing", "is_item", "item"] "is_row" (defScope st_is_row) f cdv A outer s H E) (WE0 E) := takes_of rfl rfl rfl rfl
    exact (db_one (ds_ret (de_and (de_isi (T := "tuple") tb_tuple (by decide +kernel) rfl z_isinstance rfl z_tuple (by decide +kernel) (de_var 0)) (de_and (de_gt (de_len rfl z_len (da_cons (de_var 0) da_nil)) de_int) (de_and1 (de_all rfl rfl z_all (da_cons (DN.de (dn_lc rfl sc_is_row.nd (de_var 0) (own := [("item", 2)]) (t := (.one 2)) (blkOk_by (by kernel_rfl)) rfl (fun _ _ _ _ _ => (pg_name (i := 2) sc_is_row.nd rfl (Or.inl rfl))) (fun _ _ _ _ _ => dts_nil) (fun _ _ _ _ _ => (c_dv 1 (tv_cons fv_is_count D_is_count bn_is_count (by decide) tv_nil) takes0 hr rfl (by first | exact Or.inl rfl | exact Or.inr (Or.inl rfl) | exact Or.inr (Or.inr rfl)) (cons_len nil_len) (da_cons (de_var 2) da_nil))))) da_nil))))))))

/-! ### is_grid -/
abbrev st_is_grid : Stmt := top 17
theorem sc_is_grid : FnScope ["thing", "is_item", "row"] ["thing", "is_item"] (defScope st_is_grid) := ⟨rfl, rfl, rfl, by decide +kernel, rfl, by decide +kernel, by decide +kernel⟩
theorem bn_is_grid : Bn "is_grid" "is_grid" st_is_grid ["thing", "is_item"] := fun _ _ _ _ _ _ us hl => match us, hl with | [_, _], _ => rfl
def L_is_grid_0 : En → O := (ifO (M.orB (M.notB (M.isB (M.call (M.cons (rdVar 2) ((M.cons (rdVar 1) ((M.ret []))))) [] G_is_row))) (M.isB (M.bin (M.bi (M.cons (rdVar 2) ((M.ret []))) lenD) (M.bi (M.cons (M.bin (rdVar 0) (M.ret (.int 0)) ixD) ((M.ret []))) lenD) neD))) (retO (M.ret (.bl false))) O.nxt)
def F_is_grid_1 : En → O := (forO (rdVar 0) (.one 2) L_is_grid_0)
def B_is_grid : En → O := (seqO (ifO (M.orB (M.notB (M.isB (M.un1 (rdVar 0) (isiD tb_tuple)))) (M.isB (M.bin (M.bi (M.cons (rdVar 0) ((M.ret []))) lenD) (M.ret (.int 0)) eqD))) (retO (M.ret (.bl false))) O.nxt)
    (seqO F_is_grid_1
    (retO (M.ret (.bl true)))))
def G_is_grid (ds : List Dat) : O := (B_is_grid (startE 3 (ds.map .val))).pur
theorem d_is_grid (S : Sd K mg "is_grid" "is_grid" st_is_grid) (D_is_row : Fd P w K mg base "is_row" "is_row" st_is_row 3 ["thing", "is_item"] (spP K mg 2 G_is_row)) (z_isinstance : mg "isinstance" = none) (z_tuple : mg "tuple" = none) (z_len : mg "len" = none) :
    Fd P w K mg base "is_grid" "is_grid" st_is_grid 4 ["thing", "is_item"] (spP K mg 2 G_is_grid) :=
  fd_pure S sc_is_grid (fun f cdv A outer s H E hr => by
    have tk : Takes (cxOf (L2.CX P w) P w K mg base ["thing", "is_item", "row"] "is_grid" (defScope st_is_grid) f cdv A outer s H E) (WE0 E) := takes_of rfl rfl rfl rfl
    exact (db_cons (ds_if (DW.dt (dw_or (dt_not (dt_val (de_isi (T := "tuple") tb_tuple (by decide +kernel) rfl z_isinstance rfl z_tuple (by decide +kernel) (de_var 0)))) (dw_or1 (dt_eq hr.units (de_len rfl z_len (da_cons (de_var 0) da_nil)) de_int)))) (db_one (ds_ret de_bl)) db_nil)
      (db_cons (ds_for (t := (.one 2)) (passes_of rfl) rfl (de_var 0) (pg_name (i := 2) sc_is_grid.nd rfl (Or.inl rfl)) (db_one (ds_if (DW.dt (dw_or (dt_not (dt_val (c_de D_is_row bn_is_row tk hr (by decide) rfl (cons_len (cons_len nil_len)) (da_cons (de_var 2) (da_cons (de_var 1) da_nil))))) (dw_or1 (dt_ne hr.units (de_len rfl z_len (da_cons (de_var 2) da_nil)) (de_len rfl z_len (da_cons (de_at (de_var 0) de_int) da_nil)))))) (db_one (ds_ret de_bl)) db_nil)))
      (db_one (ds_ret de_bl)))))

/-! ### check_map -/
abbrev st_check_map : Stmt := top 18
theorem sc_check_map : FnScope ["rows"] ["rows"] (defScope st_check_map) := ⟨rfl, rfl, rfl, by decide +kernel, rfl, by decide +kernel, by decide +kernel⟩
theorem bn_check_map : Bn "check_map" "check_map" st_check_map ["rows"] := fun _ _ _ _ _ _ us hl => match us, hl with | [_], _ => rfl
def B_check_map : En → O := (ifO (M.notB (M.isB (M.call (M.cons (rdVar 0) ((M.cons (M.ret (.fn "is_count")) ((M.ret []))))) [] G_is_grid))) (raiseO "InvalidMap" "thing" ((M.cons (rdVar 0) ((M.ret []))))) O.nxt)
def G_check_map (ds : List Dat) : O := (B_check_map (startE 1 (ds.map .val))).pur
theorem d_check_map (S : Sd K mg "check_map" "check_map" st_check_map) (D_is_grid : Fd P w K mg base "is_grid" "is_grid" st_is_grid 4 ["thing", "is_item"] (spP K mg 2 G_is_grid)) (x_InvalidMap : ExT K mg "InvalidMap") (fv_is_count : FnV K mg "is_count") :
    Fd P w K mg base "check_map" "check_map" st_check_map 5 ["rows"] (spP K mg 1 G_check_map) :=
  fd_pure S sc_check_map (fun f cdv A outer s H E hr => by
    have tk : Takes (cxOf (L2.CX P w) P w K mg base ["rows"] "check_map" (defScope st_check_map) f cdv A outer s H E) (WE0 E) := takes_of rfl rfl rfl rfl
    exact (db_one (ds_if (dt_not (dt_val (c_de D_is_grid bn_is_grid tk hr (by decide) rfl (cons_len (cons_len nil_len)) (da_cons (de_var 0) (da_cons (de_fnv fv_is_count rfl) da_nil))))) (db_one (ds_raiseT x_InvalidMap rfl hr tk (da_cons (de_var 0) da_nil) rfl)) db_nil)))

/-! ### behind -/
abbrev st_behind : Stmt := top 20
theorem sc_behind : FnScope ["way", "first_way"] ["way", "first_way"] (defScope st_behind) := ⟨rfl, rfl, rfl, by decide +kernel, rfl, by decide +kernel, by decide +kernel⟩
theorem bn_behind : Bn "behind" "behind" st_behind ["way", "first_way"] := fun _ _ _ _ _ _ us hl => match us, hl with | [_, _], _ => rfl
theorem bk_behind_0_first_way_way : Bd "behind" "behind" st_behind ["way", "first_way"] ["first_way", "way"] 0 [1, 0] := fun _ _ _ _ _ _ us ws h1 h2 => match us, ws, h1, h2 with | [], [_, _], _, _ => rfl
def B_behind : En → O := (seqO (dropO (M.call (M.cons (rdVar 0) ((M.ret []))) [] G_check_way))
    (seqO (dropO (M.call (M.cons (rdVar 1) ((M.ret []))) [] G_check_way))
    (seqO (ifO (M.isB (M.bin (rdVar 0) (M.ret (.int 4)) ltD)) (retO (M.bin (M.bin (M.bin (rdVar 1) (M.ret (.int 4)) fdivD) (M.ret (.int 4)) mulD) (M.bin (M.bin (rdVar 0) (rdVar 1) addD) (M.ret (.int 4)) modD) addD)) O.nxt)
    (retO (M.bin (M.bin (M.bin (M.ret (.int 1)) (M.bin (rdVar 1) (M.ret (.int 4)) fdivD) subD) (M.ret (.int 4)) mulD) (M.bin (M.bin (rdVar 0) (rdVar 1) subD) (M.ret (.int 4)) modD) addD)))))
def G_behind (ds : List Dat) : O := (B_behind (startE 2 (ds.map .val))).pur
theorem d_behind (S : Sd K mg "behind" "behind" st_behind) (D_check_way : Fd P w K mg base "check_way" "check_way" st_check_way 5 ["way"] (spP K mg 1 G_check_way)) :
    Fd P w K mg base "behind" "behind" st_behind 6 ["way", "first_way"] (spP K mg 2 G_behind) :=
  fd_pure S sc_behind (fun f cdv A outer s H E hr => by
    have tk : Takes (cxOf (L2.CX P w) P w K mg base ["way", "first_way"] "behind" (defScope st_behind) f cdv A outer s H E) (WE0 E) := takes_of rfl rfl rfl rfl
    exact (db_cons (ds_expr (c_de D_check_way bn_check_way tk hr (by decide) rfl (cons_len nil_len) (da_cons (de_var 0) da_nil)))
      (db_cons (ds_expr (c_de D_check_way bn_check_way tk hr (by decide) rfl (cons_len nil_len) (da_cons (de_var 1) da_nil)))
      (db_cons (ds_if (dt_lt (de_var 0) de_int) (db_one (ds_ret (de_add (de_mul (de_fdiv (de_var 1) de_int) de_int) (de_mod (de_add (de_var 0) (de_var 1)) de_int)))) db_nil)
      (db_one (ds_ret (de_add (de_mul (de_sub de_int (de_fdiv (de_var 1) de_int)) de_int) (de_mod (de_sub (de_var 0) (de_var 1)) de_int))))))))

/-! ### inverse -/
abbrev st_inverse : Stmt := top 21
theorem sc_inverse : FnScope ["way"] ["way"] (defScope st_inverse) := ⟨rfl, rfl, rfl, by decide +kernel, rfl, by decide +kernel, by decide +kernel⟩
theorem bn_inverse : Bn "inverse" "inverse" st_inverse ["way"] := fun _ _ _ _ _ _ us hl => match us, hl with | [_], _ => rfl
theorem bk_inverse_0_way : Bd "inverse" "inverse" st_inverse ["way"] ["way"] 0 [0] := fun _ _ _ _ _ _ us ws h1 h2 => match us, ws, h1, h2 with | [], [_], _, _ => rfl
def B_inverse : En → O := (seqO (dropO (M.call (M.cons (rdVar 0) ((M.ret []))) [] G_check_way))
    (seqO (ifO (M.isB (M.bin (rdVar 0) (M.ret (.int 4)) ltD)) (retO (M.bin (M.bin (M.ret (.int 4)) (rdVar 0) subD) (M.ret (.int 4)) modD)) O.nxt)
    (retO (rdVar 0))))
def G_inverse (ds : List Dat) : O := (B_inverse (startE 1 (ds.map .val))).pur
theorem d_inverse (S : Sd K mg "inverse" "inverse" st_inverse) (D_check_way : Fd P w K mg base "check_way" "check_way" st_check_way 5 ["way"] (spP K mg 1 G_check_way)) :
    Fd P w K mg base "inverse" "inverse" st_inverse 6 ["way"] (spP K mg 1 G_inverse) :=
  fd_pure S sc_inverse (fun f cdv A outer s H E hr => by
    have tk : Takes (cxOf (L2.CX P w) P w K mg base ["way"] "inverse" (defScope st_inverse) f cdv A outer s H E) (WE0 E) := takes_of rfl rfl rfl rfl
    exact (db_cons (ds_expr (c_de D_check_way bn_check_way tk hr (by decide) rfl (cons_len nil_len) (da_cons (de_var 0) da_nil)))
      (db_cons (ds_if (dt_lt (de_var 0) de_int) (db_one (ds_ret (de_mod (de_sub de_int (de_var 0)) de_int))) db_nil)
      (db_one (ds_ret (de_var 0))))))

/-! ### place_to -/
abbrev st_place_to : Stmt := top 22
theorem sc_place_to : FnScope ["way", "place"] ["way", "place"] (defScope st_place_to) := ⟨rfl, rfl, rfl, by decide +kernel, rfl, by decide +kernel, by decide +kernel⟩
theorem bn_place_to : Bn "place_to" "place_to" st_place_to ["way", "place"] := fun _ _ _ _ _ _ us hl => match us, hl with | [_, _], _ => rfl
theorem bk_place_to_0_place_way : Bd "place_to" "place_to" st_place_to ["way", "place"] ["place", "way"] 0 [1, 0] := fun _ _ _ _ _ _ us ws h1 h2 => match us, ws, h1, h2 with | [], [_, _], _, _ => rfl
def B_place_to : En → O := (seqO (dropO (M.call (M.cons (rdVar 0) ((M.ret []))) [] G_check_way))
    (seqO (dropO (M.call (M.cons (rdVar 1) ((M.cons (M.ret (.int 8)) ((M.ret []))))) [] G_check_number))
    (seqO (ifO (M.isB (M.bin (rdVar 0) (M.ret (.int 4)) ltD)) (retO (M.bin (M.bin (rdVar 1) (M.bin (M.ret (.int 2)) (rdVar 0) mulD) addD) (M.ret (.int 8)) modD)) O.nxt)
    (retO (M.bin (M.bin (M.bin (M.ret (.int 2)) (rdVar 1) subD) (M.bin (M.ret (.int 2)) (rdVar 0) mulD) addD) (M.ret (.int 8)) modD)))))
def G_place_to (ds : List Dat) : O := (B_place_to (startE 2 (ds.map .val))).pur
theorem d_place_to (S : Sd K mg "place_to" "place_to" st_place_to) (D_check_way : Fd P w K mg base "check_way" "check_way" st_check_way 5 ["way"] (spP K mg 1 G_check_way)) (D_check_number : Fd P w K mg base "check_number" "check_number" st_check_number 4 ["number", "limit"] (spP K mg 2 G_check_number)) :
    Fd P w K mg base "place_to" "place_to" st_place_to 6 ["way", "place"] (spP K mg 2 G_place_to) :=
  fd_pure S sc_place_to (fun f cdv A outer s H E hr => by
    have tk : Takes (cxOf (L2.CX P w) P w K mg base ["way", "place"] "place_to" (defScope st_place_to) f cdv A outer s H E) (WE0 E) := takes_of rfl rfl rfl rfl
    exact (db_cons (ds_expr (c_de D_check_way bn_check_way tk hr (by decide) rfl (cons_len nil_len) (da_cons (de_var 0) da_nil)))
      (db_cons (ds_expr (c_de D_check_number bn_check_number tk hr (by decide) rfl (cons_len (cons_len nil_len)) (da_cons (de_var 1) (da_cons de_int da_nil))))
      (db_cons (ds_if (dt_lt (de_var 0) de_int) (db_one (ds_ret (de_mod (de_add (de_var 1) (de_mul de_int (de_var 0))) de_int))) db_nil)
      (db_one (ds_ret (de_mod (de_add (de_sub de_int (de_var 1)) (de_mul de_int (de_var 0))) de_int)))))))

/-! ### side_to -/
abbrev st_side_to : Stmt := top 23
theorem sc_side_to : FnScope ["way", "side"] ["way", "side"] (defScope st_side_to) := ⟨rfl, rfl, rfl, by decide +kernel, rfl, by decide +kernel, by decide +kernel⟩
theorem bn_side_to : Bn "side_to" "side_to" st_side_to ["way", "side"] := fun _ _ _ _ _ _ us hl => match us, hl with | [_, _], _ => rfl
theorem bk_side_to_0_side_way : Bd "side_to" "side_to" st_side_to ["way", "side"] ["side", "way"] 0 [1, 0] := fun _ _ _ _ _ _ us ws h1 h2 => match us, ws, h1, h2 with | [], [_, _], _, _ => rfl
def B_side_to : En → O := (seqO (dropO (M.call (M.cons (rdVar 0) ((M.ret []))) [] G_check_way))
    (seqO (dropO (M.call (M.cons (rdVar 1) ((M.cons (M.ret (.int 4)) ((M.ret []))))) [] G_check_number))
    (seqO (ifO (M.isB (M.bin (rdVar 0) (M.ret (.int 4)) ltD)) (retO (M.bin (M.bin (rdVar 1) (rdVar 0) addD) (M.ret (.int 4)) modD)) O.nxt)
    (retO (M.bin (M.bin (rdVar 0) (rdVar 1) subD) (M.ret (.int 4)) modD)))))
def G_side_to (ds : List Dat) : O := (B_side_to (startE 2 (ds.map .val))).pur
theorem d_side_to (S : Sd K mg "side_to" "side_to" st_side_to) (D_check_way : Fd P w K mg base "check_way" "check_way" st_check_way 5 ["way"] (spP K mg 1 G_check_way)) (D_check_number : Fd P w K mg base "check_number" "check_number" st_check_number 4 ["number", "limit"] (spP K mg 2 G_check_number)) :
    Fd P w K mg base "side_to" "side_to" st_side_to 6 ["way", "side"] (spP K mg 2 G_side_to) :=
  fd_pure S sc_side_to (fun f cdv A outer s H E hr => by
    have tk : Takes (cxOf (L2.CX P w) P w K mg base ["way", "side"] "side_to" (defScope st_side_to) f cdv A outer s H E) (WE0 E) := takes_of rfl rfl rfl rfl
    exact (db_cons (ds_expr (c_de D_check_way bn_check_way tk hr (by decide) rfl (cons_len nil_len) (da_cons (de_var 0) da_nil)))
      (db_cons (ds_expr (c_de D_check_number bn_check_number tk hr (by decide) rfl (cons_len (cons_len nil_len)) (da_cons (de_var 1) (da_cons de_int da_nil))))
      (db_cons (ds_if (dt_lt (de_var 0) de_int) (db_one (ds_ret (de_mod (de_add (de_var 1) (de_var 0)) de_int))) db_nil)
      (db_one (ds_ret (de_mod (de_sub (de_var 0) (de_var 1)) de_int)))))))

/-! ### mirrored -/
abbrev st_mirrored : Stmt := top 26
theorem sc_mirrored : FnScope ["rows", "row"] ["rows"] (defScope st_mirrored) := ⟨rfl, rfl, rfl, by decide +kernel, rfl, by decide +kernel, by decide +kernel⟩
theorem bn_mirrored : Bn "mirrored" "mirrored" st_mirrored ["rows"] := fun _ _ _ _ _ _ us hl => match us, hl with | [_], _ => rfl
def E_mirrored_0 : M Dat := (M.un1 (rdVar 1) revD)
def C_mirrored_1 : M (List Dat) := (M.lc (rdVar 0) (.one 1) tYesM E_mirrored_0)
def B_mirrored : En → O := (retO (M.bi (M.cons (M.frz C_mirrored_1) ((M.ret []))) tupleD))
def G_mirrored (ds : List Dat) : O := (B_mirrored (startE 2 (ds.map .val))).pur
theorem d_mirrored (S : Sd K mg "mirrored" "mirrored" st_mirrored) (z_tuple : mg "tuple" = none) :
    Fd P w K mg base "mirrored" "mirrored" st_mirrored 2 ["rows"] (spP K mg 1 G_mirrored) :=
  fd_pure S sc_mirrored (fun f cdv A outer s H E hr => by
    have tk : Takes (cxOf (L2.CX P w) P w K mg base ["rows", "row"] "mirrored" (defScope st_mirrored) f cdv A outer s H E) (WE0 E) := takes_of rfl rfl rfl rfl
    exact (db_one (ds_ret (de_tuple rfl z_tuple (da_cons (DN.de (dn_lc rfl sc_mirrored.nd (de_var 0) (own := [("row", 1)]) (t := (.one 1)) (blkOk_by (by kernel_rfl)) rfl (fun _ _ _ _ _ => (pg_name (i := 1) sc_mirrored.nd rfl (Or.inl rfl))) (fun _ _ _ _ _ => dts_nil) (fun _ _ _ _ _ => (de_rev (de_var 1))))) da_nil)))))

/-! ### turned_once -/
abbrev st_turned_once : Stmt := top 27
theorem sc_turned_once : FnScope ["rows", "from_below"] ["rows"] (defScope st_turned_once) := ⟨rfl, rfl, rfl, by decide +kernel, rfl, by decide +kernel, by decide +kernel⟩
theorem bn_turned_once : Bn "turned_once" "turned_once" st_turned_once ["rows"] := fun _ _ _ _ _ _ us hl => match us, hl with | [_], _ => rfl
def B_turned_once : En → O := (seqO (setO (M.un1 (rdVar 0) revD) 1)
    (retO (M.un1 (rdVar 1) zipSD)))
def G_turned_once (ds : List Dat) : O := (B_turned_once (startE 2 (ds.map .val))).pur
theorem d_turned_once (S : Sd K mg "turned_once" "turned_once" st_turned_once) (z_tuple : mg "tuple" = none) (z_zip : mg "zip" = none) :
    Fd P w K mg base "turned_once" "turned_once" st_turned_once 2 ["rows"] (spP K mg 1 G_turned_once) :=
  fd_pure S sc_turned_once (fun f cdv A outer s H E hr => by
    have tk : Takes (cxOf (L2.CX P w) P w K mg base ["rows", "from_below"] "turned_once" (defScope st_turned_once) f cdv A outer s H E) (WE0 E) := takes_of rfl rfl rfl rfl
    exact (db_cons (ds_set 1 sc_turned_once.nd rfl (Or.inl rfl) (de_rev (de_var 0)))
      (db_one (ds_ret (de_zipS rfl rfl z_tuple rfl z_zip (de_var 1))))))

/-! ### turned_map -/
abbrev st_turned_map : Stmt := top 28
theorem sc_turned_map : FnScope ["rows", "way", "turned", "_"] ["rows", "way"] (defScope st_turned_map) := ⟨rfl, rfl, rfl, by decide +kernel, rfl, by decide +kernel, by decide +kernel⟩
theorem bn_turned_map : Bn "turned_map" "turned_map" st_turned_map ["rows", "way"] := fun _ _ _ _ _ _ us hl => match us, hl with | [_, _], _ => rfl
theorem bk_turned_map_0_way_rows : Bd "turned_map" "turned_map" st_turned_map ["rows", "way"] ["way", "rows"] 0 [1, 0] := fun _ _ _ _ _ _ us ws h1 h2 => match us, ws, h1, h2 with | [], [_, _], _, _ => rfl
def L_turned_map_0 : En → O := (setO (M.call (M.cons (rdVar 2) ((M.ret []))) [] G_turned_once) 2)
def F_turned_map_1 : En → O := (forRO rg1 (M.cons (M.bin (rdVar 1) (M.ret (.int 4)) modD) ((M.ret []))) (.one 3) L_turned_map_0)
def B_turned_map : En → O := (seqO (dropO (M.call (M.cons (rdVar 0) ((M.ret []))) [] G_check_map))
    (seqO (dropO (M.call (M.cons (rdVar 1) ((M.ret []))) [] G_check_way))
    (seqO (setO (M.ite (M.isB (M.bin (rdVar 1) (M.ret (.int 4)) ltD)) (rdVar 0) (M.call (M.cons (rdVar 0) ((M.ret []))) [] G_mirrored)) 2)
    (seqO F_turned_map_1
    (retO (rdVar 2))))))
def G_turned_map (ds : List Dat) : O := (B_turned_map (startE 4 (ds.map .val))).pur
theorem d_turned_map (S : Sd K mg "turned_map" "turned_map" st_turned_map) (D_check_map : Fd P w K mg base "check_map" "check_map" st_check_map 5 ["rows"] (spP K mg 1 G_check_map)) (D_check_way : Fd P w K mg base "check_way" "check_way" st_check_way 5 ["way"] (spP K mg 1 G_check_way)) (D_mirrored : Fd P w K mg base "mirrored" "mirrored" st_mirrored 2 ["rows"] (spP K mg 1 G_mirrored)) (D_turned_once : Fd P w K mg base "turned_once" "turned_once" st_turned_once 2 ["rows"] (spP K mg 1 G_turned_once)) (z_range : mg "range" = none) :
    Fd P w K mg base "turned_map" "turned_map" st_turned_map 6 ["rows", "way"] (spP K mg 2 G_turned_map) :=
  fd_pure S sc_turned_map (fun f cdv A outer s H E hr => by
    have tk : Takes (cxOf (L2.CX P w) P w K mg base ["rows", "way", "turned", "_"] "turned_map" (defScope st_turned_map) f cdv A outer s H E) (WE0 E) := takes_of rfl rfl rfl rfl
    exact (db_cons (ds_expr (c_de D_check_map bn_check_map tk hr (by decide) rfl (cons_len nil_len) (da_cons (de_var 0) da_nil)))
      (db_cons (ds_expr (c_de D_check_way bn_check_way tk hr (by decide) rfl (cons_len nil_len) (da_cons (de_var 1) da_nil)))
      (db_cons (ds_set 2 sc_turned_map.nd rfl (Or.inl rfl) (de_if (dt_lt (de_var 1) de_int) (de_var 0) (c_de D_mirrored bn_mirrored tk hr (by decide) rfl (cons_len nil_len) (da_cons (de_var 0) da_nil))))
      (db_cons (ds_forR1 (t := (.one 3)) (passes_of rfl) rfl rfl z_range (da_cons (de_mod (de_var 1) de_int) da_nil) (pg_name (i := 3) sc_turned_map.nd rfl (Or.inl rfl)) (db_one (ds_set 2 sc_turned_map.nd rfl (Or.inl rfl) (c_de D_turned_once bn_turned_once tk hr (by decide) rfl (cons_len nil_len) (da_cons (de_var 2) da_nil)))))
      (db_one (ds_ret (de_var 2))))))))

/-! ### turned_ends -/
abbrev st_turned_ends : Stmt := top 29
theorem sc_turned_ends : FnScope ["ends", "way"] ["ends", "way"] (defScope st_turned_ends) := ⟨rfl, rfl, rfl, by decide +kernel, rfl, by decide +kernel, by decide +kernel⟩
theorem bn_turned_ends : Bn "turned_ends" "turned_ends" st_turned_ends ["ends", "way"] := fun _ _ _ _ _ _ us hl => match us, hl with | [_, _], _ => rfl
theorem bk_turned_ends_0_way_ends : Bd "turned_ends" "turned_ends" st_turned_ends ["ends", "way"] ["way", "ends"] 0 [1, 0] := fun _ _ _ _ _ _ us ws h1 h2 => match us, ws, h1, h2 with | [], [_, _], _, _ => rfl
def B_turned_ends : En → O := (seqO (dropO (M.call (M.cons (rdVar 0) ((M.ret []))) [] G_check_ends))
    (seqO (dropO (M.call (M.cons (rdVar 1) ((M.ret []))) [] G_check_way))
    (retO (M.ite (M.isB (M.bin (M.bin (rdVar 1) (M.ret (.int 2)) modD) (M.ret (.int 0)) eqD)) (rdVar 0) (M.un1 (rdVar 0) revD)))))
def G_turned_ends (ds : List Dat) : O := (B_turned_ends (startE 2 (ds.map .val))).pur
theorem d_turned_ends (S : Sd K mg "turned_ends" "turned_ends" st_turned_ends) (D_check_ends : Fd P w K mg base "check_ends" "check_ends" st_check_ends 3 ["ends"] (spP K mg 1 G_check_ends)) (D_check_way : Fd P w K mg base "check_way" "check_way" st_check_way 5 ["way"] (spP K mg 1 G_check_way)) :
    Fd P w K mg base "turned_ends" "turned_ends" st_turned_ends 6 ["ends", "way"] (spP K mg 2 G_turned_ends) :=
  fd_pure S sc_turned_ends (fun f cdv A outer s H E hr => by
    have tk : Takes (cxOf (L2.CX P w) P w K mg base ["ends", "way"] "turned_ends" (defScope st_turned_ends) f cdv A outer s H E) (WE0 E) := takes_of rfl rfl rfl rfl
    exact (db_cons (ds_expr (c_de D_check_ends bn_check_ends tk hr (by decide) rfl (cons_len nil_len) (da_cons (de_var 0) da_nil)))
      (db_cons (ds_expr (c_de D_check_way bn_check_way tk hr (by decide) rfl (cons_len nil_len) (da_cons (de_var 1) da_nil)))
      (db_one (ds_ret (de_if (dt_eq hr.units (de_mod (de_var 1) de_int) de_int) (de_var 0) (de_rev (de_var 0))))))))

/-! ### line_at -/
abbrev st_line_at : Stmt := top 30
theorem sc_line_at : FnScope ["line", "many", "end"] ["line", "many", "end"] (defScope st_line_at) := ⟨rfl, rfl, rfl, by decide +kernel, rfl, by decide +kernel, by decide +kernel⟩
theorem bn_line_at : Bn "line_at" "line_at" st_line_at ["line", "many", "end"] := fun _ _ _ _ _ _ us hl => match us, hl with | [_, _, _], _ => rfl
def B_line_at : En → O := (seqO (ifO (M.isB (M.bin (rdVar 2) (M.ret (.str "wrap")) eqD)) (retO (M.bin (rdVar 0) (rdVar 1) modD)) O.nxt)
    (retO (M.ite (M.chain (M.ret (.int 0)) (rdVar 0) (rdVar 1) leD ltD).isB (rdVar 0) (M.ret .non))))
def G_line_at (ds : List Dat) : O := (B_line_at (startE 3 (ds.map .val))).pur
theorem d_line_at (S : Sd K mg "line_at" "line_at" st_line_at)  :
    Fd P w K mg base "line_at" "line_at" st_line_at 2 ["line", "many", "end"] (spP K mg 3 G_line_at) :=
  fd_pure S sc_line_at (fun f cdv A outer s H E hr => by
    have tk : Takes (cxOf (L2.CX P w) P w K mg base ["line", "many", "end"] "line_at" (defScope st_line_at) f cdv A outer s H E) (WE0 E) := takes_of rfl rfl rfl rfl
    exact (db_cons (ds_if (dt_eq hr.units (de_var 2) de_str) (db_one (ds_ret (de_mod (de_var 0) (de_var 1)))) db_nil)
      (db_one (ds_ret (de_if (dt_chain op_le op_lt Snd2.bop Snd2.bop de_int (de_var 0) (de_var 1)) (de_var 0) de_non)))))

/-! ### kind_at -/
abbrev st_kind_at : Stmt := top 31
theorem sc_kind_at : FnScope ["rows", "row", "column", "ends", "across", "down", "real_row", "real_column"] ["rows", "row", "column", "ends"] (defScope st_kind_at) := ⟨rfl, rfl, rfl, by decide +kernel, rfl, by decide +kernel, by decide +kernel⟩
theorem bn_kind_at : Bn "kind_at" "kind_at" st_kind_at ["rows", "row", "column", "ends"] := fun _ _ _ _ _ _ us hl => match us, hl with | [_, _, _, _], _ => rfl
def B_kind_at : En → O := (seqO (unpO (rdVar 3) (.tup [4, 5]))
    (seqO (setO (M.call (M.cons (rdVar 1) ((M.cons (M.bi (M.cons (rdVar 0) ((M.ret []))) lenD) ((M.cons (rdVar 5) ((M.ret []))))))) [] G_line_at) 6)
    (seqO (setO (M.call (M.cons (rdVar 2) ((M.cons (M.bi (M.cons (M.bin (rdVar 0) (M.ret (.int 0)) ixD) ((M.ret []))) lenD) ((M.cons (rdVar 4) ((M.ret []))))))) [] G_line_at) 7)
    (seqO (ifO (M.orB (M.isB (M.bin (rdVar 6) (M.ret .non) isNoneD)) (M.isB (M.bin (rdVar 7) (M.ret .non) isNoneD))) (retO (M.ret .non)) O.nxt)
    (retO (M.bin (M.bin (rdVar 0) (rdVar 6) ixD) (rdVar 7) ixD))))))
def G_kind_at (ds : List Dat) : O := (B_kind_at (startE 8 (ds.map .val))).pur
theorem d_kind_at (S : Sd K mg "kind_at" "kind_at" st_kind_at) (D_line_at : Fd P w K mg base "line_at" "line_at" st_line_at 2 ["line", "many", "end"] (spP K mg 3 G_line_at)) (z_len : mg "len" = none) :
    Fd P w K mg base "kind_at" "kind_at" st_kind_at 3 ["rows", "row", "column", "ends"] (spP K mg 4 G_kind_at) :=
  fd_pure S sc_kind_at (fun f cdv A outer s H E hr => by
    have tk : Takes (cxOf (L2.CX P w) P w K mg base ["rows", "row", "column", "ends", "across", "down", "real_row", "real_column"] "kind_at" (defScope st_kind_at) f cdv A outer s H E) (WE0 E) := takes_of rfl rfl rfl rfl
    exact (db_cons (ds_unp (.tup [4, 5]) (de_var 3) (pg_tup rfl (pgs_cons (pg_name (i := 4) sc_kind_at.nd rfl (Or.inl rfl)) (pgs_cons (pg_name (i := 5) sc_kind_at.nd rfl (Or.inl rfl)) pgs_nil))))
      (db_cons (ds_set 6 sc_kind_at.nd rfl (Or.inl rfl) (c_de D_line_at bn_line_at tk hr (by decide) rfl (cons_len (cons_len (cons_len nil_len))) (da_cons (de_var 1) (da_cons (de_len rfl z_len (da_cons (de_var 0) da_nil)) (da_cons (de_var 5) da_nil)))))
      (db_cons (ds_set 7 sc_kind_at.nd rfl (Or.inl rfl) (c_de D_line_at bn_line_at tk hr (by decide) rfl (cons_len (cons_len (cons_len nil_len))) (da_cons (de_var 2) (da_cons (de_len rfl z_len (da_cons (de_at (de_var 0) de_int) da_nil)) (da_cons (de_var 4) da_nil)))))
      (db_cons (ds_if (DW.dt (dw_or (dt_isN (de_var 6) de_non) (dw_or1 (dt_isN (de_var 7) de_non)))) (db_one (ds_ret de_non)) db_nil)
      (db_one (ds_ret (de_at (de_at (de_var 0) (de_var 6)) (de_var 7)))))))))

/-! ### kinds_around -/
abbrev st_kinds_around : Stmt := top 32
theorem sc_kinds_around : FnScope ["rows", "row", "column", "ends", "below", "right"] ["rows", "row", "column", "ends"] (defScope st_kinds_around) := ⟨rfl, rfl, rfl, by decide +kernel, rfl, by decide +kernel, by decide +kernel⟩
theorem bn_kinds_around : Bn "kinds_around" "kinds_around" st_kinds_around ["rows", "row", "column", "ends"] := fun _ _ _ _ _ _ us hl => match us, hl with | [_, _, _, _], _ => rfl
def E_kinds_around_0 : M Dat := (M.call (M.cons (rdVar 0) ((M.cons (M.bin (rdVar 1) (rdVar 4) addD) ((M.cons (M.bin (rdVar 2) (rdVar 5) addD) ((M.cons (rdVar 3) ((M.ret []))))))))) [] G_kind_at)
def C_kinds_around_1 : M (List Dat) := (M.lc (M.ret k_STEPS) (.tup [4, 5]) tYesM E_kinds_around_0)
def B_kinds_around : En → O := (retO (M.bi (M.cons (M.frz C_kinds_around_1) ((M.ret []))) tupleD))
def G_kinds_around (ds : List Dat) : O := (B_kinds_around (startE 6 (ds.map .val))).pur
theorem d_kinds_around (S : Sd K mg "kinds_around" "kinds_around" st_kinds_around) (D_kind_at : Fd P w K mg base "kind_at" "kind_at" st_kind_at 3 ["rows", "row", "column", "ends"] (spP K mg 4 G_kind_at)) (z_tuple : mg "tuple" = none) (c_STEPS : mg "STEPS" = some v_STEPS ∧ RelV u_STEPS v_STEPS ∧ KRep K u_STEPS k_STEPS) :
    Fd P w K mg base "kinds_around" "kinds_around" st_kinds_around 4 ["rows", "row", "column", "ends"] (spP K mg 4 G_kinds_around) :=
  fd_pure S sc_kinds_around (fun f cdv A outer s H E hr => by
    have tk : Takes (cxOf (L2.CX P w) P w K mg base ["rows", "row", "column", "ends", "below", "right"] "kinds_around" (defScope st_kinds_around) f cdv A outer s H E) (WE0 E) := takes_of rfl rfl rfl rfl
    exact (db_one (ds_ret (de_tuple rfl z_tuple (da_cons (DN.de (dn_lc rfl sc_kinds_around.nd (de_glob rfl c_STEPS.1 c_STEPS.2.1 c_STEPS.2.2) (own := [("below", 4), ("right", 5)]) (t := (.tup [4, 5])) (blkOk_by (by kernel_rfl)) rfl (fun _ _ _ _ _ => (pg_tup rfl (pgs_cons (pg_name (i := 4) sc_kinds_around.nd rfl (Or.inl rfl)) (pgs_cons (pg_name (i := 5) sc_kinds_around.nd rfl (Or.inl rfl)) pgs_nil)))) (fun _ _ _ _ _ => dts_nil) (fun _ _ _ _ _ => (c_de D_kind_at bn_kind_at takes0 hr (by decide) rfl (cons_len (cons_len (cons_len (cons_len nil_len)))) (da_cons (de_var 0) (da_cons (de_add (de_var 1) (de_var 4)) (da_cons (de_add (de_var 2) (de_var 5)) (da_cons (de_var 3) da_nil)))))))) da_nil)))))

/-! ### window -/
abbrev st_window : Stmt := top 33
theorem sc_window : FnScope ["rows", "row", "column", "ends"] ["rows", "row", "column", "ends"] (defScope st_window) := ⟨rfl, rfl, rfl, by decide +kernel, rfl, by decide +kernel, by decide +kernel⟩
theorem bk_window_3_ends : Bd "window" "window" st_window ["rows", "row", "column", "ends"] ["ends"] 3 [0, 1, 2, 3] := fun _ _ _ _ _ _ us ws h1 h2 => match us, ws, h1, h2 with | [_, _, _], [_], _, _ => rfl
theorem bk_window_0_ends_column_row_rows : Bd "window" "window" st_window ["rows", "row", "column", "ends"] ["ends", "column", "row", "rows"] 0 [3, 2, 1, 0] := fun _ _ _ _ _ _ us ws h1 h2 => match us, ws, h1, h2 with | [], [_, _, _, _], _, _ => rfl
def B_window : En → O := (seqO (dropO (M.call (M.cons (rdVar 0) ((M.ret []))) [] G_check_map))
    (seqO (dropO (M.call (M.cons (rdVar 1) ((M.cons (M.bi (M.cons (rdVar 0) ((M.ret []))) lenD) ((M.ret []))))) [] G_check_cell))
    (seqO (dropO (M.call (M.cons (rdVar 2) ((M.cons (M.bi (M.cons (M.bin (rdVar 0) (M.ret (.int 0)) ixD) ((M.ret []))) lenD) ((M.ret []))))) [] G_check_cell))
    (seqO (dropO (M.call (M.cons (rdVar 3) ((M.ret []))) [] G_check_ends))
    (retO (M.tup (M.cons (M.bin (M.bin (rdVar 0) (rdVar 1) ixD) (rdVar 2) ixD) ((M.cons (M.call (M.cons (rdVar 0) ((M.cons (rdVar 1) ((M.cons (rdVar 2) ((M.cons (rdVar 3) ((M.ret []))))))))) [] G_kinds_around) ((M.ret [])))))))))))
def G_window (ds : List Dat) : O := (B_window (startE 4 (ds.map .val))).pur
theorem d_window (S : Sd K mg "window" "window" st_window) (D_check_map : Fd P w K mg base "check_map" "check_map" st_check_map 5 ["rows"] (spP K mg 1 G_check_map)) (D_check_cell : Fd P w K mg base "check_cell" "check_cell" st_check_cell 4 ["line", "limit"] (spP K mg 2 G_check_cell)) (D_check_ends : Fd P w K mg base "check_ends" "check_ends" st_check_ends 3 ["ends"] (spP K mg 1 G_check_ends)) (D_kinds_around : Fd P w K mg base "kinds_around" "kinds_around" st_kinds_around 4 ["rows", "row", "column", "ends"] (spP K mg 4 G_kinds_around)) (z_len : mg "len" = none) :
    Fd P w K mg base "window" "window" st_window 6 ["rows", "row", "column", "ends"] (spP K mg 4 G_window) :=
  fd_pure S sc_window (fun f cdv A outer s H E hr => by
    have tk : Takes (cxOf (L2.CX P w) P w K mg base ["rows", "row", "column", "ends"] "window" (defScope st_window) f cdv A outer s H E) (WE0 E) := takes_of rfl rfl rfl rfl
    exact (db_cons (ds_expr (c_de D_check_map bn_check_map tk hr (by decide) rfl (cons_len nil_len) (da_cons (de_var 0) da_nil)))
      (db_cons (ds_expr (c_de D_check_cell bn_check_cell tk hr (by decide) rfl (cons_len (cons_len nil_len)) (da_cons (de_var 1) (da_cons (de_len rfl z_len (da_cons (de_var 0) da_nil)) da_nil))))
      (db_cons (ds_expr (c_de D_check_cell bn_check_cell tk hr (by decide) rfl (cons_len (cons_len nil_len)) (da_cons (de_var 2) (da_cons (de_len rfl z_len (da_cons (de_at (de_var 0) de_int) da_nil)) da_nil))))
      (db_cons (ds_expr (c_de D_check_ends bn_check_ends tk hr (by decide) rfl (cons_len nil_len) (da_cons (de_var 3) da_nil)))
      (db_one (ds_ret (de_tup (da_cons (de_at (de_at (de_var 0) (de_var 1)) (de_var 2)) (da_cons (c_de D_kinds_around bn_kinds_around tk hr (by decide) rfl (cons_len (cons_len (cons_len (cons_len nil_len)))) (da_cons (de_var 0) (da_cons (de_var 1) (da_cons (de_var 2) (da_cons (de_var 3) da_nil))))) da_nil))))))))))

/-! ### _law_mixed -/
abbrev st_L_mixed : Stmt := top 35
theorem sc_L_mixed : FnScope ["cell", "k", "stirred"] ["cell", "k"] (defScope st_L_mixed) := ⟨rfl, rfl, rfl, by decide +kernel, rfl, by decide +kernel, by decide +kernel⟩
theorem bn_L_mixed : Bn "_law_mixed" "_law_mixed" st_L_mixed ["cell", "k"] := fun _ _ _ _ _ _ us hl => match us, hl with | [_, _], _ => rfl
def B_L_mixed : En → O := (seqO (setO (M.bin (M.bi (M.cons (M.bin (M.bin (M.bin (M.bin (rdVar 0) (M.ret (.int 2654435761)) mulD) (M.bin (M.bin (M.ret (.int 40503)) (rdVar 1) mulD) (rdVar 1) mulD) addD) (M.bin (M.ret (.int 97)) (rdVar 1) mulD) addD) (M.ret (.int 13)) addD) ((M.ret []))) intD) (M.ret (.int 2147483647)) modD) 2)
    (retO (M.bin (M.bin (M.bi (M.cons (M.bin (M.bin (M.bin (rdVar 2) (rdVar 2) mulD) (M.bin (M.ret (.int 7)) (rdVar 2) mulD) addD) (M.ret (.int 11)) addD) ((M.ret []))) intD) (M.ret (.int 2147483629)) modD) (M.ret (.int 3)) fdivD)))
def G_L_mixed (ds : List Dat) : O := (B_L_mixed (startE 3 (ds.map .val))).pur
theorem d_L_mixed (S : Sd K mg "_law_mixed" "_law_mixed" st_L_mixed) (z_int : mg "int" = none) :
    Fd P w K mg base "_law_mixed" "_law_mixed" st_L_mixed 2 ["cell", "k"] (spP K mg 2 G_L_mixed) :=
  fd_pure S sc_L_mixed (fun f cdv A outer s H E hr => by
    have tk : Takes (cxOf (L2.CX P w) P w K mg base ["cell", "k", "stirred"] "_law_mixed" (defScope st_L_mixed) f cdv A outer s H E) (WE0 E) := takes_of rfl rfl rfl rfl
    exact (db_cons (ds_set 2 sc_L_mixed.nd rfl (Or.inl rfl) (de_mod (de_int1 rfl z_int (da_cons (de_add (de_add (de_add (de_mul (de_var 0) de_int) (de_mul (de_mul de_int (de_var 1)) (de_var 1))) (de_mul de_int (de_var 1))) de_int) da_nil)) de_int))
      (db_one (ds_ret (de_fdiv (de_mod (de_int1 rfl z_int (da_cons (de_add (de_add (de_mul (de_var 2) (de_var 2)) (de_mul de_int (de_var 2))) de_int) da_nil)) de_int) de_int)))))

/-! ### _law_purse -/
abbrev st_L_purse : Stmt := top 36
theorem sc_L_purse : FnScope ["cells", "at", "cell"] ["cells", "at"] (defScope st_L_purse) := ⟨rfl, rfl, rfl, by decide +kernel, rfl, by decide +kernel, by decide +kernel⟩
theorem bn_L_purse : Bn "_law_purse" "_law_purse" st_L_purse ["cells", "at"] := fun _ _ _ _ _ _ us hl => match us, hl with | [_, _], _ => rfl
def B_L_purse : En → O := (seqO (setO (M.ret (.int 0)) 2)
    (seqO (ifO (M.isB (M.bin (rdVar 1) (M.bi (M.cons (rdVar 0) ((M.ret []))) lenD) ltD)) (setO (M.bin (rdVar 0) (rdVar 1) ixD) 2) O.nxt)
    (retL (M.cons (M.bin (M.bi (M.cons (M.bi (M.cons (M.bin (rdVar 2) (M.bin (M.ret (.int 10)) (M.ret (.int 18)) powD) subD) ((M.cons (M.ret (.int 0)) ((M.ret []))))) max2D) ((M.ret []))) intD) (M.bin (M.bin (M.ret (.int 10)) (M.ret (.int 60)) powD) (M.ret (.int 8)) powD) modD) ((M.cons (M.bin (M.bi (M.cons (rdVar 2) ((M.ret []))) intD) (M.ret (.int 2147483647)) modD) ((M.cons (M.bin (M.ret (.int 1000)) (rdVar 1) mulD) ((M.ret []))))))))))
def G_L_purse (ds : List Dat) : O := (B_L_purse (startE 3 (ds.map .val))).pur
theorem d_L_purse (S : Sd K mg "_law_purse" "_law_purse" st_L_purse) (z_len : mg "len" = none) (z_int : mg "int" = none) (z_max : mg "max" = none) :
    Fd P w K mg base "_law_purse" "_law_purse" st_L_purse 2 ["cells", "at"] (spP K mg 2 G_L_purse) :=
  fd_pure S sc_L_purse (fun f cdv A outer s H E hr => by
    have tk : Takes (cxOf (L2.CX P w) P w K mg base ["cells", "at", "cell"] "_law_purse" (defScope st_L_purse) f cdv A outer s H E) (WE0 E) := takes_of rfl rfl rfl rfl
    exact (db_cons (ds_set 2 sc_L_purse.nd rfl (Or.inl rfl) de_int)
      (db_cons (ds_if (dt_lt (de_var 1) (de_len rfl z_len (da_cons (de_var 0) da_nil))) (db_one (ds_set 2 sc_L_purse.nd rfl (Or.inl rfl) (de_at (de_var 0) (de_var 1)))) db_nil)
      (db_one (ds_retL (da_cons (de_mod (de_int1 rfl z_int (da_cons (de_max2 rfl rfl z_max (da_cons (de_sub (de_var 2) (de_pow de_int de_int)) (da_cons de_int da_nil))) da_nil)) (de_pow (de_pow de_int de_int) de_int)) (da_cons (de_mod (de_int1 rfl z_int (da_cons (de_var 2) da_nil)) de_int) (da_cons (de_mul de_int (de_var 1)) da_nil))))))))

/-! ### _law_draw -/
abbrev st_L_draw : Stmt := top 37
theorem sc_L_draw : FnScope ["purse", "out_of", "drawn"] ["purse", "out_of"] (defScope st_L_draw) := ⟨rfl, rfl, rfl, by decide +kernel, rfl, by decide +kernel, by decide +kernel⟩
theorem bn_L_draw : Bn "_law_draw" "_law_draw" st_L_draw ["purse", "out_of"] := fun _ _ _ _ _ _ us hl => match us, hl with | [_, _], _ => rfl
def B_L_draw : En → O := (seqO (ifO (M.isB (M.bin (ixVar 0 (M.ret (.int 0))) (M.ret (.int 0)) gtD)) (seqO (setO (M.bin (M.bi (M.cons (ixVar 0 (M.ret (.int 0))) ((M.ret []))) intD) (rdVar 1) modD) 2)
    (seqO (subO 0 (M.ret (.int 0)) (M.bin (ixVar 0 (M.ret (.int 0))) (rdVar 1) fdivD))
    (retO (rdVar 2)))) O.nxt)
    (seqO (subO 0 (M.ret (.int 2)) (M.bin (ixVar 0 (M.ret (.int 2))) (M.ret (.int 1)) addD))
    (retO (M.bin (M.bi (M.cons (M.call (M.cons (ixVar 0 (M.ret (.int 1))) ((M.cons (ixVar 0 (M.ret (.int 2))) ((M.ret []))))) [] G_L_mixed) ((M.ret []))) intD) (rdVar 1) modD))))
def G_L_draw (xs ds : List Dat) : O := (B_L_draw (startE 3 (.ino xs :: ds.map .val))).inp
theorem d_L_draw (S : Sd K mg "_law_draw" "_law_draw" st_L_draw) (D_L_mixed : Fd P w K mg base "_law_mixed" "_law_mixed" st_L_mixed 2 ["cell", "k"] (spP K mg 2 G_L_mixed)) (z_int : mg "int" = none) :
    Fd P w K mg base "_law_draw" "_law_draw" st_L_draw 3 ["purse", "out_of"] (spI K mg 2 G_L_draw) :=
  fd_ino S sc_L_draw (fun f cdv A outer s H E hr => by
    have tk : Takes (cxOf (L2.CX P w) P w K mg base ["purse", "out_of", "drawn"] "_law_draw" (defScope st_L_draw) f cdv A outer s H E) (WE0 E) := takes_of rfl rfl rfl rfl
    exact (db_cons (ds_if (dt_gt (de_ixVar 0 de_int) de_int) (db_cons (ds_set 2 sc_L_draw.nd rfl (Or.inl rfl) (de_mod (de_int1 rfl z_int (da_cons (de_ixVar 0 de_int) da_nil)) (de_var 1)))
      (db_cons (ds_sub 0 rfl (de_fdiv (de_ixVar 0 de_int) (de_var 1)) de_int (hg := fun t h => pg_sub (pv 0) de_int h))
      (db_one (ds_ret (de_var 2))))) db_nil)
      (db_cons (ds_sub 0 rfl (de_add (de_ixVar 0 de_int) de_int) de_int (hg := fun t h => pg_sub (pv 0) de_int h))
      (db_one (ds_ret (de_mod (de_int1 rfl z_int (da_cons (c_de D_L_mixed bn_L_mixed tk hr (by decide) rfl (cons_len (cons_len nil_len)) (da_cons (de_ixVar 0 de_int) (da_cons (de_ixVar 0 de_int) da_nil))) da_nil)) (de_var 1)))))))

/-! ### _law_great -/
abbrev st_L_great : Stmt := top 38
theorem sc_L_great : FnScope ["purse", "figures", "found", "turn"] ["purse", "figures"] (defScope st_L_great) := ⟨rfl, rfl, rfl, by decide +kernel, rfl, by decide +kernel, by decide +kernel⟩
theorem bn_L_great : Bn "_law_great" "_law_great" st_L_great ["purse", "figures"] := fun _ _ _ _ _ _ us hl => match us, hl with | [_, _], _ => rfl
def L_L_great_0 : En → O := (setO (M.bin (M.bin (M.ret (.int 10)) (rdVar 2) mulD) (M.callI 0 ((M.cons (M.ret (.int 10)) ((M.ret [])))) G_L_draw) addD) 2)
def F_L_great_1 : En → O := (forRO rg1 (M.cons (rdVar 1) ((M.ret []))) (.one 3) L_L_great_0)
def B_L_great : En → O := (seqO (setO (M.ret (.int 0)) 2)
    (seqO F_L_great_1
    (retO (rdVar 2))))
def G_L_great (xs ds : List Dat) : O := (B_L_great (startE 4 (.ino xs :: ds.map .val))).inp
theorem d_L_great (S : Sd K mg "_law_great" "_law_great" st_L_great) (D_L_draw : Fd P w K mg base "_law_draw" "_law_draw" st_L_draw 3 ["purse", "out_of"] (spI K mg 2 G_L_draw)) (z_range : mg "range" = none) :
    Fd P w K mg base "_law_great" "_law_great" st_L_great 4 ["purse", "figures"] (spI K mg 2 G_L_great) :=
  fd_ino S sc_L_great (fun f cdv A outer s H E hr => by
    have tk : Takes (cxOf (L2.CX P w) P w K mg base ["purse", "figures", "found", "turn"] "_law_great" (defScope st_L_great) f cdv A outer s H E) (WE0 E) := takes_of rfl rfl rfl rfl
    exact (db_cons (ds_set 2 sc_L_great.nd rfl (Or.inl rfl) de_int)
      (db_cons (ds_forR1 (t := (.one 3)) (passes_of rfl) rfl rfl z_range (da_cons (de_var 1) da_nil) (pg_name (i := 3) sc_L_great.nd rfl (Or.inl rfl)) (db_one (ds_set 2 sc_L_great.nd rfl (Or.inl rfl) (de_add (de_mul de_int (de_var 2)) (c_di 0 D_L_draw bn_L_draw tk hr (by decide) rfl (fun ρ ds ρ' h => congrArg (· + 1) ((cons_len nil_len) ρ ds ρ' h)) (da_cons de_int da_nil))))))
      (db_one (ds_ret (de_var 2))))))

/-! ### _law_quarter -/
abbrev st_L_quarter : Stmt := top 39
theorem sc_L_quarter : FnScope ["lot", "spot", "line"] ["lot"] (defScope st_L_quarter) := ⟨rfl, rfl, rfl, by decide +kernel, rfl, by decide +kernel, by decide +kernel⟩
theorem bn_L_quarter : Bn "_law_quarter" "_law_quarter" st_L_quarter ["lot"] := fun _ _ _ _ _ _ us hl => match us, hl with | [_], _ => rfl
def E_L_quarter_0 : M Dat := (M.bin (rdVar 2) (rdVar 1) ixD)
def C_L_quarter_1 : M (List Dat) := (M.lc (M.un1 (rdVar 0) revD) (.one 2) tYesM E_L_quarter_0)
def E_L_quarter_2 : M Dat := (M.bi (M.cons (M.frz C_L_quarter_1) ((M.ret []))) tupleD)
def C_L_quarter_3 : M (List Dat) := (M.lcR rg1 (M.cons (M.bi (M.cons (M.bin (rdVar 0) (M.ret (.int 0)) ixD) ((M.ret []))) lenD) ((M.ret []))) (.one 1) tYesM E_L_quarter_2)
def B_L_quarter : En → O := (retO (M.bi (M.cons (M.frz C_L_quarter_3) ((M.ret []))) tupleD))
def G_L_quarter (ds : List Dat) : O := (B_L_quarter (startE 3 (ds.map .val))).pur
theorem d_L_quarter (S : Sd K mg "_law_quarter" "_law_quarter" st_L_quarter) (z_tuple : mg "tuple" = none) (z_len : mg "len" = none) (z_range : mg "range" = none) :
    Fd P w K mg base "_law_quarter" "_law_quarter" st_L_quarter 2 ["lot"] (spP K mg 1 G_L_quarter) :=
  fd_pure S sc_L_quarter (fun f cdv A outer s H E hr => by
    have tk : Takes (cxOf (L2.CX P w) P w K mg base ["lot", "spot", "line"] "_law_quarter" (defScope st_L_quarter) f cdv A outer s H E) (WE0 E) := takes_of rfl rfl rfl rfl
    exact (db_one (ds_ret (de_tuple rfl z_tuple (da_cons (DN.de (dn_lcR1 rfl sc_L_quarter.nd rfl z_range (da_cons (de_len rfl z_len (da_cons (de_at (de_var 0) de_int) da_nil)) da_nil) (own := [("spot", 1)]) (t := (.one 1)) (blkOk_by (by kernel_rfl)) rfl (fun _ _ _ _ _ => (pg_name (i := 1) sc_L_quarter.nd rfl (Or.inr rfl))) (fun _ _ _ _ _ => dts_nil) (fun _ _ _ _ _ => (de_tuple rfl z_tuple (da_cons (DN.de (dn_lc rfl sc_L_quarter.nd (de_rev (de_var 0)) (own := [("line", 2)]) (t := (.one 2)) (blkOk_by (by kernel_rfl)) rfl (fun _ _ _ _ _ => (pg_name (i := 2) sc_L_quarter.nd rfl (Or.inl rfl))) (fun _ _ _ _ _ => dts_nil) (fun _ _ _ _ _ => (de_at (de_var 2) (de_var 1))))) da_nil))))) da_nil)))))

/-! ### _law_by -/
abbrev st_L_by : Stmt := top 40
theorem sc_L_by : FnScope ["lot", "turn", "found", "step", "line"] ["lot", "turn"] (defScope st_L_by) := ⟨rfl, rfl, rfl, by decide +kernel, rfl, by decide +kernel, by decide +kernel⟩
theorem bn_L_by : Bn "_law_by" "_law_by" st_L_by ["lot", "turn"] := fun _ _ _ _ _ _ us hl => match us, hl with | [_, _], _ => rfl
def E_L_by_0 : M Dat := (M.bi (M.cons (rdVar 4) ((M.ret []))) tupleD)
def C_L_by_1 : M (List Dat) := (M.lc (rdVar 0) (.one 4) tYesM E_L_by_0)
def E_L_by_2 : M Dat := (M.un1 (rdVar 4) revD)
def C_L_by_3 : M (List Dat) := (M.lc (rdVar 2) (.one 4) tYesM E_L_by_2)
def L_L_by_4 : En → O := (setO (M.call (M.cons (rdVar 2) ((M.ret []))) [] G_L_quarter) 2)
def F_L_by_5 : En → O := (forRO rg1 (M.cons (M.bin (rdVar 1) (M.ret (.int 4)) modD) ((M.ret []))) (.one 3) L_L_by_4)
def B_L_by : En → O := (seqO (setO (M.bi (M.cons (M.frz C_L_by_1) ((M.ret []))) tupleD) 2)
    (seqO (ifO (M.isB (M.bin (rdVar 1) (M.ret (.int 4)) geD)) (setO (M.bi (M.cons (M.frz C_L_by_3) ((M.ret []))) tupleD) 2) O.nxt)
    (seqO F_L_by_5
    (retO (rdVar 2)))))
def G_L_by (ds : List Dat) : O := (B_L_by (startE 5 (ds.map .val))).pur
theorem d_L_by (S : Sd K mg "_law_by" "_law_by" st_L_by) (D_L_quarter : Fd P w K mg base "_law_quarter" "_law_quarter" st_L_quarter 2 ["lot"] (spP K mg 1 G_L_quarter)) (z_tuple : mg "tuple" = none) (z_range : mg "range" = none) :
    Fd P w K mg base "_law_by" "_law_by" st_L_by 3 ["lot", "turn"] (spP K mg 2 G_L_by) :=
  fd_pure S sc_L_by (fun f cdv A outer s H E hr => by
    have tk : Takes (cxOf (L2.CX P w) P w K mg base ["lot", "turn", "found", "step", "line"] "_law_by" (defScope st_L_by) f cdv A outer s H E) (WE0 E) := takes_of rfl rfl rfl rfl
    exact (db_cons (ds_set 2 sc_L_by.nd rfl (Or.inl rfl) (de_tuple rfl z_tuple (da_cons (DN.de (dn_lc rfl sc_L_by.nd (de_var 0) (own := [("line", 4)]) (t := (.one 4)) (blkOk_by (by kernel_rfl)) rfl (fun _ _ _ _ _ => (pg_name (i := 4) sc_L_by.nd rfl (Or.inl rfl))) (fun _ _ _ _ _ => dts_nil) (fun _ _ _ _ _ => (de_tuple rfl z_tuple (da_cons (de_var 4) da_nil))))) da_nil)))
      (db_cons (ds_if (dt_ge (de_var 1) de_int) (db_one (ds_set 2 sc_L_by.nd rfl (Or.inl rfl) (de_tuple rfl z_tuple (da_cons (DN.de (dn_lc rfl sc_L_by.nd (de_var 2) (own := [("line", 4)]) (t := (.one 4)) (blkOk_by (by kernel_rfl)) rfl (fun _ _ _ _ _ => (pg_name (i := 4) sc_L_by.nd rfl (Or.inl rfl))) (fun _ _ _ _ _ => dts_nil) (fun _ _ _ _ _ => (de_rev (de_var 4))))) da_nil)))) db_nil)
      (db_cons (ds_forR1 (t := (.one 3)) (passes_of rfl) rfl rfl z_range (da_cons (de_mod (de_var 1) de_int) da_nil) (pg_name (i := 3) sc_L_by.nd rfl (Or.inl rfl)) (db_one (ds_set 2 sc_L_by.nd rfl (Or.inl rfl) (c_de D_L_quarter bn_L_quarter tk hr (by decide) rfl (cons_len nil_len) (da_cons (de_var 2) da_nil)))))
      (db_one (ds_ret (de_var 2)))))))

/-! ### _law_ring -/
abbrev st_L_ring : Stmt := top 41
theorem sc_L_ring : FnScope ["lot"] ["lot"] (defScope st_L_ring) := ⟨rfl, rfl, rfl, by decide +kernel, rfl, by decide +kernel, by decide +kernel⟩
theorem bn_L_ring : Bn "_law_ring" "_law_ring" st_L_ring ["lot"] := fun _ _ _ _ _ _ us hl => match us, hl with | [_], _ => rfl
def B_L_ring : En → O := (retO (M.tup (M.cons (M.bin (M.bin (rdVar 0) (M.ret (.int 0)) ixD) (M.ret (.int 0)) ixD) ((M.cons (M.bin (M.bin (rdVar 0) (M.ret (.int 0)) ixD) (M.ret (.int 1)) ixD) ((M.cons (M.bin (M.bin (rdVar 0) (M.ret (.int 0)) ixD) (M.ret (.int 2)) ixD) ((M.cons (M.bin (M.bin (rdVar 0) (M.ret (.int 1)) ixD) (M.ret (.int 2)) ixD) ((M.cons (M.bin (M.bin (rdVar 0) (M.ret (.int 2)) ixD) (M.ret (.int 2)) ixD) ((M.cons (M.bin (M.bin (rdVar 0) (M.ret (.int 2)) ixD) (M.ret (.int 1)) ixD) ((M.cons (M.bin (M.bin (rdVar 0) (M.ret (.int 2)) ixD) (M.ret (.int 0)) ixD) ((M.cons (M.bin (M.bin (rdVar 0) (M.ret (.int 1)) ixD) (M.ret (.int 0)) ixD) ((M.ret [])))))))))))))))))))
def G_L_ring (ds : List Dat) : O := (B_L_ring (startE 1 (ds.map .val))).pur
theorem d_L_ring (S : Sd K mg "_law_ring" "_law_ring" st_L_ring)  :
    Fd P w K mg base "_law_ring" "_law_ring" st_L_ring 2 ["lot"] (spP K mg 1 G_L_ring) :=
  fd_pure S sc_L_ring (fun f cdv A outer s H E hr => by
    have tk : Takes (cxOf (L2.CX P w) P w K mg base ["lot"] "_law_ring" (defScope st_L_ring) f cdv A outer s H E) (WE0 E) := takes_of rfl rfl rfl rfl
    exact (db_one (ds_ret (de_tup (da_cons (de_at (de_at (de_var 0) de_int) de_int) (da_cons (de_at (de_at (de_var 0) de_int) de_int) (da_cons (de_at (de_at (de_var 0) de_int) de_int) (da_cons (de_at (de_at (de_var 0) de_int) de_int) (da_cons (de_at (de_at (de_var 0) de_int) de_int) (da_cons (de_at (de_at (de_var 0) de_int) de_int) (da_cons (de_at (de_at (de_var 0) de_int) de_int) (da_cons (de_at (de_at (de_var 0) de_int) de_int) da_nil))))))))))))

/-! ### _law_places -/
abbrev st_L_places : Stmt := top 42
theorem sc_L_places : FnScope ["turn", "told", "spot"] ["turn"] (defScope st_L_places) := ⟨rfl, rfl, rfl, by decide +kernel, rfl, by decide +kernel, by decide +kernel⟩
theorem bn_L_places : Bn "_law_places" "_law_places" st_L_places ["turn"] := fun _ _ _ _ _ _ us hl => match us, hl with | [_], _ => rfl
def E_L_places_0 : M Dat := (M.idxT (rdVar 1) (rdVar 2))
def C_L_places_1 : M (List Dat) := (M.lcR rg1 (M.cons (M.ret (.int 8)) ((M.ret []))) (.one 2) tYesM E_L_places_0)
def B_L_places : En → O := (seqO (setO (M.call (M.cons (M.call (M.cons (M.tup (M.cons (M.tup (M.cons (M.ret (.int 0)) ((M.cons (M.ret (.int 1)) ((M.cons (M.ret (.int 2)) ((M.ret [])))))))) ((M.cons (M.tup (M.cons (M.ret (.int 7)) ((M.cons (M.ret (.int 8)) ((M.cons (M.ret (.int 3)) ((M.ret [])))))))) ((M.cons (M.tup (M.cons (M.ret (.int 6)) ((M.cons (M.ret (.int 5)) ((M.cons (M.ret (.int 4)) ((M.ret [])))))))) ((M.ret [])))))))) ((M.cons (rdVar 0) ((M.ret []))))) [] G_L_by) ((M.ret []))) [] G_L_ring) 1)
    (retNO C_L_places_1))
def G_L_places (ds : List Dat) : O := (B_L_places (startE 3 (ds.map .val))).pur
theorem d_L_places (S : Sd K mg "_law_places" "_law_places" st_L_places) (D_L_ring : Fd P w K mg base "_law_ring" "_law_ring" st_L_ring 2 ["lot"] (spP K mg 1 G_L_ring)) (D_L_by : Fd P w K mg base "_law_by" "_law_by" st_L_by 3 ["lot", "turn"] (spP K mg 2 G_L_by)) (z_range : mg "range" = none) :
    Fd P w K mg base "_law_places" "_law_places" st_L_places 4 ["turn"] (spP K mg 1 G_L_places) :=
  fd_pure S sc_L_places (fun f cdv A outer s H E hr => by
    have tk : Takes (cxOf (L2.CX P w) P w K mg base ["turn", "told", "spot"] "_law_places" (defScope st_L_places) f cdv A outer s H E) (WE0 E) := takes_of rfl rfl rfl rfl
    exact (db_cons (ds_set 1 sc_L_places.nd rfl (Or.inr rfl) (c_de D_L_ring bn_L_ring tk hr (by decide) rfl (cons_len nil_len) (da_cons (c_de D_L_by bn_L_by tk hr (by decide) rfl (cons_len (cons_len nil_len)) (da_cons (de_tup (da_cons (de_tup (da_cons de_int (da_cons de_int (da_cons de_int da_nil)))) (da_cons (de_tup (da_cons de_int (da_cons de_int (da_cons de_int da_nil)))) (da_cons (de_tup (da_cons de_int (da_cons de_int (da_cons de_int da_nil)))) da_nil)))) (da_cons (de_var 0) da_nil))) da_nil)))
      (db_one (ds_retNw (dn_lcR1 rfl sc_L_places.nd rfl z_range (da_cons de_int da_nil) (own := [("spot", 2)]) (t := (.one 2)) (blkOk_by (by kernel_rfl)) rfl (fun _ _ _ _ _ => (pg_name (i := 2) sc_L_places.nd rfl (Or.inl rfl))) (fun _ _ _ _ _ => dts_nil) (fun _ _ _ _ _ => (de_indexT (de_var 1) (de_var 2))))))))

/-! ### _law_after -/
abbrev st_L_after : Stmt := top 43
theorem sc_L_after : FnScope ["turn", "before", "due", "one"] ["turn", "before"] (defScope st_L_after) := ⟨rfl, rfl, rfl, by decide +kernel, rfl, by decide +kernel, by decide +kernel⟩
theorem bn_L_after : Bn "_law_after" "_law_after" st_L_after ["turn", "before"] := fun _ _ _ _ _ _ us hl => match us, hl with | [_, _], _ => rfl
def E_L_after_0 : M Dat := (rdVar 3)
def C_L_after_1 : M (List Dat) := (M.lcR rg1 (M.cons (M.ret (.int 8)) ((M.ret []))) (.one 3) (M.isB (M.bin (M.call (M.cons (M.tup (M.cons (M.tup (M.cons (M.ret (.int 0)) ((M.cons (M.ret (.int 1)) ((M.ret [])))))) ((M.cons (M.tup (M.cons (M.ret (.int 2)) ((M.cons (M.ret (.int 3)) ((M.ret [])))))) ((M.ret [])))))) ((M.cons (rdVar 3) ((M.ret []))))) [] G_L_by) (rdVar 2) eqD)) E_L_after_0)
def B_L_after : En → O := (seqO (setO (M.call (M.cons (M.call (M.cons (M.tup (M.cons (M.tup (M.cons (M.ret (.int 0)) ((M.cons (M.ret (.int 1)) ((M.ret [])))))) ((M.cons (M.tup (M.cons (M.ret (.int 2)) ((M.cons (M.ret (.int 3)) ((M.ret [])))))) ((M.ret [])))))) ((M.cons (rdVar 1) ((M.ret []))))) [] G_L_by) ((M.cons (rdVar 0) ((M.ret []))))) [] G_L_by) 2)
    (retO (M.bin (M.frz C_L_after_1) (M.ret (.int 0)) ixD)))
def G_L_after (ds : List Dat) : O := (B_L_after (startE 4 (ds.map .val))).pur
theorem d_L_after (S : Sd K mg "_law_after" "_law_after" st_L_after) (D_L_by : Fd P w K mg base "_law_by" "_law_by" st_L_by 3 ["lot", "turn"] (spP K mg 2 G_L_by)) (z_range : mg "range" = none) :
    Fd P w K mg base "_law_after" "_law_after" st_L_after 4 ["turn", "before"] (spP K mg 2 G_L_after) :=
  fd_pure S sc_L_after (fun f cdv A outer s H E hr => by
    have tk : Takes (cxOf (L2.CX P w) P w K mg base ["turn", "before", "due", "one"] "_law_after" (defScope st_L_after) f cdv A outer s H E) (WE0 E) := takes_of rfl rfl rfl rfl
    exact (db_cons (ds_set 2 sc_L_after.nd rfl (Or.inr rfl) (c_de D_L_by bn_L_by tk hr (by decide) rfl (cons_len (cons_len nil_len)) (da_cons (c_de D_L_by bn_L_by tk hr (by decide) rfl (cons_len (cons_len nil_len)) (da_cons (de_tup (da_cons (de_tup (da_cons de_int (da_cons de_int da_nil))) (da_cons (de_tup (da_cons de_int (da_cons de_int da_nil))) da_nil))) (da_cons (de_var 1) da_nil))) (da_cons (de_var 0) da_nil))))
      (db_one (ds_ret (de_at (DN.de (dn_lcR1 rfl sc_L_after.nd rfl z_range (da_cons de_int da_nil) (own := [("one", 3)]) (t := (.one 3)) (blkOk_by (by kernel_rfl)) rfl (fun _ _ _ _ _ => (pg_name (i := 3) sc_L_after.nd rfl (Or.inl rfl))) (fun _ _ _ _ _ => (dts_one (dt_eq hr.units (c_de D_L_by bn_L_by takes0 hr (by decide) rfl (cons_len (cons_len nil_len)) (da_cons (de_tup (da_cons (de_tup (da_cons de_int (da_cons de_int da_nil))) (da_cons (de_tup (da_cons de_int (da_cons de_int da_nil))) da_nil))) (da_cons (de_var 3) da_nil))) (de_var 2)))) (fun _ _ _ _ _ => (de_var 3)))) de_int)))))

/-! ### _law_kind -/
abbrev st_L_kind : Stmt := top 44
theorem sc_L_kind : FnScope ["grid", "rims", "down", "right"] ["grid", "rims", "down", "right"] (defScope st_L_kind) := ⟨rfl, rfl, rfl, by decide +kernel, rfl, by decide +kernel, by decide +kernel⟩
theorem bn_L_kind : Bn "_law_kind" "_law_kind" st_L_kind ["grid", "rims", "down", "right"] := fun _ _ _ _ _ _ us hl => match us, hl with | [_, _, _, _], _ => rfl
def B_L_kind : En → O := (seqO (ifO (M.isB (M.bin (M.bin (rdVar 1) (M.ret (.int 1)) ixD) (M.ret (.str "wrap")) eqD)) (setO (M.bin (M.bi (M.cons (rdVar 2) ((M.ret []))) intD) (M.bi (M.cons (rdVar 0) ((M.ret []))) lenD) modD) 2) O.nxt)
    (seqO (ifO (M.isB (M.bin (M.bin (rdVar 1) (M.ret (.int 0)) ixD) (M.ret (.str "wrap")) eqD)) (setO (M.bin (M.bi (M.cons (rdVar 3) ((M.ret []))) intD) (M.bi (M.cons (M.bin (rdVar 0) (M.ret (.int 0)) ixD) ((M.ret []))) lenD) modD) 3) O.nxt)
    (seqO (ifO (M.andB (M.chain (M.ret (.int 0)) (rdVar 2) (M.bi (M.cons (rdVar 0) ((M.ret []))) lenD) leD ltD).isB (M.chain (M.ret (.int 0)) (rdVar 3) (M.bi (M.cons (M.bin (rdVar 0) (M.ret (.int 0)) ixD) ((M.ret []))) lenD) leD ltD).isB) (retO (M.bin (M.bin (rdVar 0) (rdVar 2) ixD) (rdVar 3) ixD)) O.nxt)
    (retO (M.ret .non)))))
def G_L_kind (ds : List Dat) : O := (B_L_kind (startE 4 (ds.map .val))).pur
theorem d_L_kind (S : Sd K mg "_law_kind" "_law_kind" st_L_kind) (z_int : mg "int" = none) (z_len : mg "len" = none) :
    Fd P w K mg base "_law_kind" "_law_kind" st_L_kind 2 ["grid", "rims", "down", "right"] (spP K mg 4 G_L_kind) :=
  fd_pure S sc_L_kind (fun f cdv A outer s H E hr => by
    have tk : Takes (cxOf (L2.CX P w) P w K mg base ["grid", "rims", "down", "right"] "_law_kind" (defScope st_L_kind) f cdv A outer s H E) (WE0 E) := takes_of rfl rfl rfl rfl
    exact (db_cons (ds_if (dt_eq hr.units (de_at (de_var 1) de_int) de_str) (db_one (ds_set 2 sc_L_kind.nd rfl (Or.inl rfl) (de_mod (de_int1 rfl z_int (da_cons (de_var 2) da_nil)) (de_len rfl z_len (da_cons (de_var 0) da_nil))))) db_nil)
      (db_cons (ds_if (dt_eq hr.units (de_at (de_var 1) de_int) de_str) (db_one (ds_set 3 sc_L_kind.nd rfl (Or.inl rfl) (de_mod (de_int1 rfl z_int (da_cons (de_var 3) da_nil)) (de_len rfl z_len (da_cons (de_at (de_var 0) de_int) da_nil))))) db_nil)
      (db_cons (ds_if (DW.dt (dw_and (dt_chain op_le op_lt Snd2.bop Snd2.bop de_int (de_var 2) (de_len rfl z_len (da_cons (de_var 0) da_nil))) (dw_and1 (dt_chain op_le op_lt Snd2.bop Snd2.bop de_int (de_var 3) (de_len rfl z_len (da_cons (de_at (de_var 0) de_int) da_nil)))))) (db_one (ds_ret (de_at (de_at (de_var 0) (de_var 2)) (de_var 3)))) db_nil)
      (db_one (ds_ret de_non))))))

/-! ### _law_window -/
abbrev st_L_window : Stmt := top 45
theorem sc_L_window : FnScope ["grid", "rims", "down", "right", "found", "more", "step"] ["grid", "rims", "down", "right"] (defScope st_L_window) := ⟨rfl, rfl, rfl, by decide +kernel, rfl, by decide +kernel, by decide +kernel⟩
theorem bn_L_window : Bn "_law_window" "_law_window" st_L_window ["grid", "rims", "down", "right"] := fun _ _ _ _ _ _ us hl => match us, hl with | [_, _, _, _], _ => rfl
def E_L_window_0 : M Dat := (M.call (M.cons (rdVar 0) ((M.cons (rdVar 1) ((M.cons (M.bin (rdVar 2) (rdVar 5) addD) ((M.cons (M.bin (rdVar 3) (rdVar 6) addD) ((M.ret []))))))))) [] G_L_kind)
def C_L_window_1 : M (List Dat) := (M.lc (M.tup (M.cons (M.un1 (M.ret (.int 1)) negD) ((M.cons (M.ret (.int 0)) ((M.cons (M.ret (.int 1)) ((M.ret [])))))))) (.one 6) tYesM E_L_window_0)
def L_L_window_2 : En → O := (appL 4 (M.bi (M.cons (M.frz C_L_window_1) ((M.ret []))) tupleD))
def F_L_window_3 : En → O := (forO (M.tup (M.cons (M.un1 (M.ret (.int 1)) negD) ((M.cons (M.ret (.int 0)) ((M.cons (M.ret (.int 1)) ((M.ret [])))))))) (.one 5) L_L_window_2)
def B_L_window : En → O := (seqO (setNO ((M.ret []).bnd capL) 4)
    (seqO F_L_window_3
    (retO (M.tup (M.cons (M.bin (M.bin (rdVar 0) (rdVar 2) ixD) (rdVar 3) ixD) ((M.cons (M.call (M.cons (rdVar 4) ((M.ret []))) [] G_L_ring) ((M.ret [])))))))))
def G_L_window (ds : List Dat) : O := (B_L_window (startE 7 (ds.map .val))).pur
theorem d_L_window (S : Sd K mg "_law_window" "_law_window" st_L_window) (D_L_kind : Fd P w K mg base "_law_kind" "_law_kind" st_L_kind 2 ["grid", "rims", "down", "right"] (spP K mg 4 G_L_kind)) (D_L_ring : Fd P w K mg base "_law_ring" "_law_ring" st_L_ring 2 ["lot"] (spP K mg 1 G_L_ring)) (z_tuple : mg "tuple" = none) :
    Fd P w K mg base "_law_window" "_law_window" st_L_window 3 ["grid", "rims", "down", "right"] (spP K mg 4 G_L_window) :=
  fd_pure S sc_L_window (fun f cdv A outer s H E hr => by
    have tk : Takes (cxOf (L2.CX P w) P w K mg base ["grid", "rims", "down", "right", "found", "more", "step"] "_law_window" (defScope st_L_window) f cdv A outer s H E) (WE0 E) := takes_of rfl rfl rfl rfl
    exact (db_cons (ds_setN 4 sc_L_window.nd rfl (Or.inl rfl) (dn_lst da_nil))
      (db_cons (ds_for (t := (.one 5)) (passes_of rfl) rfl (de_tup (da_cons (de_neg de_int) (da_cons de_int (da_cons de_int da_nil)))) (pg_name (i := 5) sc_L_window.nd rfl (Or.inr rfl)) (db_one (ds_app 4 (de_tuple rfl z_tuple (da_cons (DN.de (dn_lc rfl sc_L_window.nd (de_tup (da_cons (de_neg de_int) (da_cons de_int (da_cons de_int da_nil)))) (own := [("step", 6)]) (t := (.one 6)) (blkOk_by (by kernel_rfl)) rfl (fun _ _ _ _ _ => (pg_name (i := 6) sc_L_window.nd rfl (Or.inl rfl))) (fun _ _ _ _ _ => dts_nil) (fun _ _ _ _ _ => (c_de D_L_kind bn_L_kind takes0 hr (by decide) rfl (cons_len (cons_len (cons_len (cons_len nil_len)))) (da_cons (de_var 0) (da_cons (de_var 1) (da_cons (de_add (de_var 2) (de_var 5)) (da_cons (de_add (de_var 3) (de_var 6)) da_nil)))))))) da_nil)))))
      (db_one (ds_ret (de_tup (da_cons (de_at (de_at (de_var 0) (de_var 2)) (de_var 3)) (da_cons (c_de D_L_ring bn_L_ring tk hr (by decide) rfl (cons_len nil_len) (da_cons (de_var 4) da_nil)) da_nil))))))))

/-! ### _law_map -/
abbrev st_L_map : Stmt := top 46
theorem sc_L_map : FnScope ["purse", "many", "high", "wide", "tall", "broad", "line", "spot"] ["purse", "many", "high", "wide"] (defScope st_L_map) := ⟨rfl, rfl, rfl, by decide +kernel, rfl, by decide +kernel, by decide +kernel⟩
theorem bn_L_map : Bn "_law_map" "_law_map" st_L_map ["purse", "many", "high", "wide"] := fun _ _ _ _ _ _ us hl => match us, hl with | [_, _, _, _], _ => rfl
def E_L_map_0 : M Dat := (M.callI 0 ((M.cons (rdVar 1) ((M.ret [])))) G_L_draw)
def C_L_map_1 : M (List Dat) := (M.lcR rg1 (M.cons (rdVar 5) ((M.ret []))) (.one 7) tYesM E_L_map_0)
def E_L_map_2 : M Dat := (M.bi (M.cons (M.frz C_L_map_1) ((M.ret []))) tupleD)
def C_L_map_3 : M (List Dat) := (M.lcR rg1 (M.cons (rdVar 4) ((M.ret []))) (.one 6) tYesM E_L_map_2)
def B_L_map : En → O := (seqO (unpO (M.tup (M.cons (M.bin (M.ret (.int 1)) (M.callI 0 ((M.cons (rdVar 2) ((M.ret [])))) G_L_draw) addD) ((M.cons (M.bin (M.ret (.int 1)) (M.callI 0 ((M.cons (rdVar 3) ((M.ret [])))) G_L_draw) addD) ((M.ret [])))))) (.tup [4, 5]))
    (retO (M.bi (M.cons (M.frz C_L_map_3) ((M.ret []))) tupleD)))
def G_L_map (xs ds : List Dat) : O := (B_L_map (startE 8 (.ino xs :: ds.map .val))).inp
theorem d_L_map (S : Sd K mg "_law_map" "_law_map" st_L_map) (D_L_draw : Fd P w K mg base "_law_draw" "_law_draw" st_L_draw 3 ["purse", "out_of"] (spI K mg 2 G_L_draw)) (z_tuple : mg "tuple" = none) (z_range : mg "range" = none) :
    Fd P w K mg base "_law_map" "_law_map" st_L_map 4 ["purse", "many", "high", "wide"] (spI K mg 4 G_L_map) :=
  fd_ino S sc_L_map (fun f cdv A outer s H E hr => by
    have tk : Takes (cxOf (L2.CX P w) P w K mg base ["purse", "many", "high", "wide", "tall", "broad", "line", "spot"] "_law_map" (defScope st_L_map) f cdv A outer s H E) (WE0 E) := takes_of rfl rfl rfl rfl
    exact (db_cons (ds_unp (.tup [4, 5]) (de_tup (da_cons (de_add de_int (c_di 0 D_L_draw bn_L_draw tk hr (by decide) rfl (fun ρ ds ρ' h => congrArg (· + 1) ((cons_len nil_len) ρ ds ρ' h)) (da_cons (de_var 2) da_nil))) (da_cons (de_add de_int (c_di 0 D_L_draw bn_L_draw tk hr (by decide) rfl (fun ρ ds ρ' h => congrArg (· + 1) ((cons_len nil_len) ρ ds ρ' h)) (da_cons (de_var 3) da_nil))) da_nil))) (pg_tup rfl (pgs_cons (pg_name (i := 4) sc_L_map.nd rfl (Or.inl rfl)) (pgs_cons (pg_name (i := 5) sc_L_map.nd rfl (Or.inr rfl)) pgs_nil))))
      (db_one (ds_ret (de_tuple rfl z_tuple (da_cons (DN.de (dn_lcR1 rfl sc_L_map.nd rfl z_range (da_cons (de_var 4) da_nil) (own := [("line", 6)]) (t := (.one 6)) (blkOk_by (by kernel_rfl)) rfl (fun _ _ _ _ _ => (pg_name (i := 6) sc_L_map.nd rfl (Or.inl rfl))) (fun _ _ _ _ _ => dts_nil) (fun _ _ _ _ _ => (de_tuple rfl z_tuple (da_cons (DN.de (dn_lcR1 rfl sc_L_map.nd rfl z_range (da_cons (de_var 5) da_nil) (own := [("spot", 7)]) (t := (.one 7)) (blkOk_by (by kernel_rfl)) rfl (fun _ _ _ _ _ => (pg_name (i := 7) sc_L_map.nd rfl (Or.inl rfl))) (fun _ _ _ _ _ => dts_nil) (fun _ _ _ _ _ => (c_di 0 D_L_draw bn_L_draw takes0 hr (by decide) rfl (fun ρ ds ρ' h => congrArg (· + 1) ((cons_len nil_len) ρ ds ρ' h)) (da_cons (de_var 1) da_nil))))) da_nil))))) da_nil))))))

/-! ### _law_ends -/
abbrev st_L_ends : Stmt := top 47
theorem sc_L_ends : FnScope ["purse"] ["purse"] (defScope st_L_ends) := ⟨rfl, rfl, rfl, by decide +kernel, rfl, by decide +kernel, by decide +kernel⟩
theorem bn_L_ends : Bn "_law_ends" "_law_ends" st_L_ends ["purse"] := fun _ _ _ _ _ _ us hl => match us, hl with | [_], _ => rfl
def B_L_ends : En → O := (retO (M.tup (M.cons (M.bin (M.frz ((M.cons (M.ret (.str "open")) ((M.cons (M.ret (.str "wrap")) ((M.ret []))))).bnd capL)) (M.callI 0 ((M.cons (M.ret (.int 2)) ((M.ret [])))) G_L_draw) ixD) ((M.cons (M.bin (M.frz ((M.cons (M.ret (.str "open")) ((M.cons (M.ret (.str "wrap")) ((M.ret []))))).bnd capL)) (M.callI 0 ((M.cons (M.ret (.int 2)) ((M.ret [])))) G_L_draw) ixD) ((M.ret [])))))))
def G_L_ends (xs ds : List Dat) : O := (B_L_ends (startE 1 (.ino xs :: ds.map .val))).inp
theorem d_L_ends (S : Sd K mg "_law_ends" "_law_ends" st_L_ends) (D_L_draw : Fd P w K mg base "_law_draw" "_law_draw" st_L_draw 3 ["purse", "out_of"] (spI K mg 2 G_L_draw)) :
    Fd P w K mg base "_law_ends" "_law_ends" st_L_ends 4 ["purse"] (spI K mg 1 G_L_ends) :=
  fd_ino S sc_L_ends (fun f cdv A outer s H E hr => by
    have tk : Takes (cxOf (L2.CX P w) P w K mg base ["purse"] "_law_ends" (defScope st_L_ends) f cdv A outer s H E) (WE0 E) := takes_of rfl rfl rfl rfl
    exact (db_one (ds_ret (de_tup (da_cons (de_at (DN.de (dn_lst (da_cons de_str (da_cons de_str da_nil)))) (c_di 0 D_L_draw bn_L_draw tk hr (by decide) rfl (fun ρ ds ρ' h => congrArg (· + 1) ((cons_len nil_len) ρ ds ρ' h)) (da_cons de_int da_nil))) (da_cons (de_at (DN.de (dn_lst (da_cons de_str (da_cons de_str da_nil)))) (c_di 0 D_L_draw bn_L_draw tk hr (by decide) rfl (fun ρ ds ρ' h => congrArg (· + 1) ((cons_len nil_len) ρ ds ρ' h)) (da_cons de_int da_nil))) da_nil))))))

/-! ### _law_ways_right -/
abbrev st_L_ways_right : Stmt := top 48
theorem sc_L_ways_right : FnScope ["turn", "before", "spots", "sides", "p", "s"] ["turn", "before"] (defScope st_L_ways_right) := ⟨rfl, rfl, rfl, by decide +kernel, rfl, by decide +kernel, by decide +kernel⟩
theorem bn_L_ways_right : Bn "_law_ways_right" "_law_ways_right" st_L_ways_right ["turn", "before"] := fun _ _ _ _ _ _ us hl => match us, hl with | [_, _], _ => rfl
def E_L_ways_right_0 : M Dat := (M.call (M.cons (rdVar 0) ((M.cons (rdVar 4) ((M.ret []))))) [] G_place_to)
def C_L_ways_right_1 : M (List Dat) := (M.lcR rg1 (M.cons (M.ret (.int 8)) ((M.ret []))) (.one 4) tYesM E_L_ways_right_0)
def E_L_ways_right_2 : M Dat := (M.idxL (M.frz ((M.cons (M.ret (.int 1)) ((M.cons (M.ret (.int 3)) ((M.cons (M.ret (.int 5)) ((M.cons (M.ret (.int 7)) ((M.ret []))))))))).bnd capL)) (M.bin (rdVar 2) (rdVar 4) ixD))
def C_L_ways_right_3 : M (List Dat) := (M.lc (M.tup (M.cons (M.ret (.int 1)) ((M.cons (M.ret (.int 3)) ((M.cons (M.ret (.int 5)) ((M.cons (M.ret (.int 7)) ((M.ret [])))))))))) (.one 4) tYesM E_L_ways_right_2)
def E_L_ways_right_4 : M Dat := (M.call (M.cons (rdVar 0) ((M.cons (rdVar 5) ((M.ret []))))) [] G_side_to)
def C_L_ways_right_5 : M (List Dat) := (M.lcR rg1 (M.cons (M.ret (.int 4)) ((M.ret []))) (.one 5) tYesM E_L_ways_right_4)
def B_L_ways_right : En → O := (seqO (ifO (M.orB (M.isB (M.bin (M.call (M.cons (rdVar 0) ((M.cons (rdVar 1) ((M.ret []))))) [] G_behind) (M.call (M.cons (rdVar 0) ((M.cons (rdVar 1) ((M.ret []))))) [] G_L_after) neD)) (M.isB (M.bin (M.callK (M.ret []) ((M.cons (rdVar 1) ((M.cons (rdVar 0) ((M.ret [])))))) [1, 0] [] G_behind) (M.call (M.cons (rdVar 0) ((M.cons (rdVar 1) ((M.ret []))))) [] G_behind) neD))) (retO (M.ret (.bl false))) O.nxt)
    (seqO (ifO (M.orB (M.isB (M.bin (M.call (M.cons (M.call (M.cons (rdVar 0) ((M.ret []))) [] G_inverse) ((M.cons (rdVar 0) ((M.ret []))))) [] G_L_after) (M.ret (.int 0)) neD)) (M.isB (M.bin (M.call (M.cons (rdVar 0) ((M.cons (M.callK (M.ret []) ((M.cons (rdVar 0) ((M.ret [])))) [0] [] G_inverse) ((M.ret []))))) [] G_L_after) (M.ret (.int 0)) neD))) (retO (M.ret (.bl false))) O.nxt)
    (seqO (setO (M.call (M.cons (rdVar 0) ((M.ret []))) [] G_L_places) 2)
    (seqO (ifO (M.orB (M.isB (M.bin (M.frz C_L_ways_right_1) (rdVar 2) neD)) (M.isB (M.bin (M.callK (M.ret []) ((M.cons (rdVar 1) ((M.cons (rdVar 0) ((M.ret [])))))) [1, 0] [] G_place_to) (M.bin (rdVar 2) (rdVar 1) ixD) neD))) (retO (M.ret (.bl false))) O.nxt)
    (seqO (setNO C_L_ways_right_3 3)
    (retO (M.andV (M.bin (M.frz C_L_ways_right_5) (rdVar 3) eqD) (M.bin (M.callK (M.ret []) ((M.cons (M.bin (rdVar 1) (M.ret (.int 4)) modD) ((M.cons (rdVar 0) ((M.ret [])))))) [1, 0] [] G_side_to) (M.bin (rdVar 3) (M.bin (rdVar 1) (M.ret (.int 4)) modD) ixD) eqD))))))))
def G_L_ways_right (ds : List Dat) : O := (B_L_ways_right (startE 6 (ds.map .val))).pur
theorem d_L_ways_right (S : Sd K mg "_law_ways_right" "_law_ways_right" st_L_ways_right) (D_behind : Fd P w K mg base "behind" "behind" st_behind 6 ["way", "first_way"] (spP K mg 2 G_behind)) (D_L_after : Fd P w K mg base "_law_after" "_law_after" st_L_after 4 ["turn", "before"] (spP K mg 2 G_L_after)) (D_inverse : Fd P w K mg base "inverse" "inverse" st_inverse 6 ["way"] (spP K mg 1 G_inverse)) (D_L_places : Fd P w K mg base "_law_places" "_law_places" st_L_places 4 ["turn"] (spP K mg 1 G_L_places)) (D_place_to : Fd P w K mg base "place_to" "place_to" st_place_to 6 ["way", "place"] (spP K mg 2 G_place_to)) (D_side_to : Fd P w K mg base "side_to" "side_to" st_side_to 6 ["way", "side"] (spP K mg 2 G_side_to)) (z_range : mg "range" = none) :
    Fd P w K mg base "_law_ways_right" "_law_ways_right" st_L_ways_right 7 ["turn", "before"] (spP K mg 2 G_L_ways_right) :=
  fd_pure S sc_L_ways_right (fun f cdv A outer s H E hr => by
    have tk : Takes (cxOf (L2.CX P w) P w K mg base ["turn", "before", "spots", "sides", "p", "s"] "_law_ways_right" (defScope st_L_ways_right) f cdv A outer s H E) (WE0 E) := takes_of rfl rfl rfl rfl
    exact (db_cons (ds_if (DW.dt (dw_or (dt_ne hr.units (c_de D_behind bn_behind tk hr (by decide) rfl (cons_len (cons_len nil_len)) (da_cons (de_var 0) (da_cons (de_var 1) da_nil))) (c_de D_L_after bn_L_after tk hr (by decide) rfl (cons_len (cons_len nil_len)) (da_cons (de_var 0) (da_cons (de_var 1) da_nil)))) (dw_or1 (dt_ne hr.units (c_dk0 D_behind bk_behind_0_first_way_way tk hr (by decide) rfl (cons_len (cons_len nil_len)) rfl (by decide) (dk_cons (de_var 1) (dk_cons (de_var 0) dk_nil))) (c_de D_behind bn_behind tk hr (by decide) rfl (cons_len (cons_len nil_len)) (da_cons (de_var 0) (da_cons (de_var 1) da_nil))))))) (db_one (ds_ret de_bl)) db_nil)
      (db_cons (ds_if (DW.dt (dw_or (dt_ne hr.units (c_de D_L_after bn_L_after tk hr (by decide) rfl (cons_len (cons_len nil_len)) (da_cons (c_de D_inverse bn_inverse tk hr (by decide) rfl (cons_len nil_len) (da_cons (de_var 0) da_nil)) (da_cons (de_var 0) da_nil))) de_int) (dw_or1 (dt_ne hr.units (c_de D_L_after bn_L_after tk hr (by decide) rfl (cons_len (cons_len nil_len)) (da_cons (de_var 0) (da_cons (c_dk0 D_inverse bk_inverse_0_way tk hr (by decide) rfl (cons_len nil_len) rfl (by decide) (dk_cons (de_var 0) dk_nil)) da_nil))) de_int)))) (db_one (ds_ret de_bl)) db_nil)
      (db_cons (ds_set 2 sc_L_ways_right.nd rfl (Or.inr rfl) (c_de D_L_places bn_L_places tk hr (by decide) rfl (cons_len nil_len) (da_cons (de_var 0) da_nil)))
      (db_cons (ds_if (DW.dt (dw_or (dt_ne hr.units (DN.de (dn_lcR1 rfl sc_L_ways_right.nd rfl z_range (da_cons de_int da_nil) (own := [("p", 4)]) (t := (.one 4)) (blkOk_by (by kernel_rfl)) rfl (fun _ _ _ _ _ => (pg_name (i := 4) sc_L_ways_right.nd rfl (Or.inl rfl))) (fun _ _ _ _ _ => dts_nil) (fun _ _ _ _ _ => (c_de D_place_to bn_place_to takes0 hr (by decide) rfl (cons_len (cons_len nil_len)) (da_cons (de_var 0) (da_cons (de_var 4) da_nil)))))) (de_var 2)) (dw_or1 (dt_ne hr.units (c_dk0 D_place_to bk_place_to_0_place_way tk hr (by decide) rfl (cons_len (cons_len nil_len)) rfl (by decide) (dk_cons (de_var 1) (dk_cons (de_var 0) dk_nil))) (de_at (de_var 2) (de_var 1)))))) (db_one (ds_ret de_bl)) db_nil)
      (db_cons (ds_setLc 3 rfl sc_L_ways_right.nd rfl rfl (sw_true rfl rfl rfl (by decide +kernel)) (de_tup (da_cons de_int (da_cons de_int (da_cons de_int (da_cons de_int da_nil))))) (own := [("p", 4)]) (t := (.one 4)) (blkOk_by (by kernel_rfl)) rfl (fun _ _ _ _ _ => (pg_name (i := 4) sc_L_ways_right.nd rfl (Or.inl rfl))) (fun _ _ _ _ _ => dts_nil) (fun _ _ _ _ _ => (de_indexL (DN.de (dn_lst (da_cons de_int (da_cons de_int (da_cons de_int (da_cons de_int da_nil)))))) (de_at (de_var 2) (de_var 4)))))
      (db_one (ds_ret (de_and (de_eq hr.units (DN.de (dn_lcR1 rfl sc_L_ways_right.nd rfl z_range (da_cons de_int da_nil) (own := [("s", 5)]) (t := (.one 5)) (blkOk_by (by kernel_rfl)) rfl (fun _ _ _ _ _ => (pg_name (i := 5) sc_L_ways_right.nd rfl (Or.inl rfl))) (fun _ _ _ _ _ => dts_nil) (fun _ _ _ _ _ => (c_de D_side_to bn_side_to takes0 hr (by decide) rfl (cons_len (cons_len nil_len)) (da_cons (de_var 0) (da_cons (de_var 5) da_nil)))))) (de_var 3)) (de_and1 (de_eq hr.units (c_dk0 D_side_to bk_side_to_0_side_way tk hr (by decide) rfl (cons_len (cons_len nil_len)) rfl (by decide) (dk_cons (de_mod (de_var 1) de_int) (dk_cons (de_var 0) dk_nil))) (de_at (de_var 3) (de_mod (de_var 1) de_int)))))))))))))

/-! ### _law_right -/
abbrev st_L_right : Stmt := top 49
theorem sc_L_right : FnScope ["purse", "turn", "before", "grid", "rims", "due_rims", "down", "right", "due"] ["purse"] (defScope st_L_right) := ⟨rfl, rfl, rfl, by decide +kernel, rfl, by decide +kernel, by decide +kernel⟩
theorem bn_L_right : Bn "_law_right" "_law_right" st_L_right ["purse"] := fun _ _ _ _ _ _ us hl => match us, hl with | [_], _ => rfl
def B_L_right : En → O := (seqO (parO (M.callI 0 ((M.cons (M.ret (.int 8)) ((M.ret [])))) G_L_draw) (M.callI 0 ((M.cons (M.ret (.int 8)) ((M.ret [])))) G_L_draw) 1 2)
    (seqO (parO (M.callI 0 ((M.cons (M.bin (M.ret (.int 1)) (M.callI 0 ((M.cons (M.ret (.int 9)) ((M.ret [])))) G_L_draw) addD) ((M.cons (M.ret (.int 5)) ((M.cons (M.ret (.int 5)) ((M.ret [])))))))) G_L_map) (M.callI 0 ((M.ret [])) G_L_ends) 3 4)
    (seqO (ifO (M.orB (M.notB (M.isB (M.call (M.cons (rdVar 1) ((M.cons (rdVar 2) ((M.ret []))))) [] G_L_ways_right))) (M.isB (M.bin (M.call (M.cons (rdVar 3) ((M.cons (rdVar 1) ((M.ret []))))) [] G_turned_map) (M.call (M.cons (rdVar 3) ((M.cons (rdVar 1) ((M.ret []))))) [] G_L_by) neD))) (retO (M.ret (.bl false))) O.nxt)
    (seqO (ifO (M.isB (M.bin (M.callK (M.ret []) ((M.cons (rdVar 2) ((M.cons (M.call (M.cons (rdVar 3) ((M.cons (rdVar 1) ((M.ret []))))) [] G_turned_map) ((M.ret [])))))) [1, 0] [] G_turned_map) (M.call (M.cons (rdVar 3) ((M.cons (M.call (M.cons (rdVar 2) ((M.cons (rdVar 1) ((M.ret []))))) [] G_behind) ((M.ret []))))) [] G_turned_map) neD)) (retO (M.ret (.bl false))) O.nxt)
    (seqO (setO (M.bin (M.frz ((M.cons (rdVar 4) ((M.cons (M.un1 (rdVar 4) revD) ((M.ret []))))).bnd capL)) (M.bin (rdVar 1) (M.ret (.int 2)) modD) ixD) 5)
    (seqO (ifO (M.orB (M.isB (M.bin (M.call (M.cons (rdVar 4) ((M.cons (rdVar 1) ((M.ret []))))) [] G_turned_ends) (rdVar 5) neD)) (M.isB (M.bin (M.callK (M.ret []) ((M.cons (rdVar 1) ((M.cons (rdVar 4) ((M.ret [])))))) [1, 0] [] G_turned_ends) (rdVar 5) neD))) (retO (M.ret (.bl false))) O.nxt)
    (seqO (parO (M.callI 0 ((M.cons (M.bi (M.cons (rdVar 3) ((M.ret []))) lenD) ((M.ret [])))) G_L_draw) (M.callI 0 ((M.cons (M.bi (M.cons (M.bin (rdVar 3) (M.ret (.int 0)) ixD) ((M.ret []))) lenD) ((M.ret [])))) G_L_draw) 6 7)
    (seqO (setO (M.call (M.cons (rdVar 3) ((M.cons (rdVar 4) ((M.cons (rdVar 6) ((M.cons (rdVar 7) ((M.ret []))))))))) [] G_L_window) 8)
    (seqO (ifO (M.orB (M.isB (M.bin (M.callK (M.cons (rdVar 3) ((M.cons (rdVar 6) ((M.cons (rdVar 7) ((M.ret []))))))) ((M.cons (rdVar 4) ((M.ret [])))) [0, 1, 2, 3] [] G_window) (rdVar 8) neD)) (M.isB (M.bin (M.callK (M.ret []) ((M.cons (rdVar 4) ((M.cons (rdVar 7) ((M.cons (rdVar 6) ((M.cons (rdVar 3) ((M.ret [])))))))))) [3, 2, 1, 0] [] G_window) (rdVar 8) neD))) (retO (M.ret (.bl false))) O.nxt)
    (retO (M.bin (M.callD (M.cons (rdVar 3) ((M.cons (rdVar 6) ((M.cons (rdVar 7) ((M.ret []))))))) dd_window G_window) (M.call (M.cons (rdVar 3) ((M.cons (M.tup (M.cons (M.ret (.str "open")) ((M.cons (M.ret (.str "open")) ((M.ret [])))))) ((M.cons (rdVar 6) ((M.cons (rdVar 7) ((M.ret []))))))))) [] G_L_window) eqD)))))))))))
def G_L_right (xs ds : List Dat) : O := (B_L_right (startE 9 (.ino xs :: ds.map .val))).inp
theorem d_L_right (S : Sd K mg "_law_right" "_law_right" st_L_right) (D_L_draw : Fd P w K mg base "_law_draw" "_law_draw" st_L_draw 3 ["purse", "out_of"] (spI K mg 2 G_L_draw)) (D_L_map : Fd P w K mg base "_law_map" "_law_map" st_L_map 4 ["purse", "many", "high", "wide"] (spI K mg 4 G_L_map)) (D_L_ends : Fd P w K mg base "_law_ends" "_law_ends" st_L_ends 4 ["purse"] (spI K mg 1 G_L_ends)) (D_L_ways_right : Fd P w K mg base "_law_ways_right" "_law_ways_right" st_L_ways_right 7 ["turn", "before"] (spP K mg 2 G_L_ways_right)) (D_turned_map : Fd P w K mg base "turned_map" "turned_map" st_turned_map 6 ["rows", "way"] (spP K mg 2 G_turned_map)) (D_L_by : Fd P w K mg base "_law_by" "_law_by" st_L_by 3 ["lot", "turn"] (spP K mg 2 G_L_by)) (D_behind : Fd P w K mg base "behind" "behind" st_behind 6 ["way", "first_way"] (spP K mg 2 G_behind)) (D_turned_ends : Fd P w K mg base "turned_ends" "turned_ends" st_turned_ends 6 ["ends", "way"] (spP K mg 2 G_turned_ends)) (D_L_window : Fd P w K mg base "_law_window" "_law_window" st_L_window 3 ["grid", "rims", "down", "right"] (spP K mg 4 G_L_window)) (D_window : Fd P w K mg base "window" "window" st_window 6 ["rows", "row", "column", "ends"] (spP K mg 4 G_window)) (b_window : BdD K mg "window" "window" st_window ["rows", "row", "column", "ends"] dv_window) (kd_window : ∀ H, RepA K H dv_window dd_window) (z_len : mg "len" = none) :
    Fd P w K mg base "_law_right" "_law_right" st_L_right 8 ["purse"] (spI K mg 1 G_L_right) :=
  fd_ino S sc_L_right (fun f cdv A outer s H E hr => by
    have tk : Takes (cxOf (L2.CX P w) P w K mg base ["purse", "turn", "before", "grid", "rims", "due_rims", "down", "right", "due"] "_law_right" (defScope st_L_right) f cdv A outer s H E) (WE0 E) := takes_of rfl rfl rfl rfl
    exact (db_cons (ds_par 1 2 rfl sc_L_right.nd rfl rfl (by decide) rfl rfl (c_di 0 D_L_draw bn_L_draw tk hr (by decide) rfl (fun ρ ds ρ' h => congrArg (· + 1) ((cons_len nil_len) ρ ds ρ' h)) (da_cons de_int da_nil)) (c_di 0 D_L_draw bn_L_draw tk hr (by decide) rfl (fun ρ ds ρ' h => congrArg (· + 1) ((cons_len nil_len) ρ ds ρ' h)) (da_cons de_int da_nil)))
      (db_cons (ds_par 3 4 rfl sc_L_right.nd rfl rfl (by decide) rfl rfl (c_di 0 D_L_map bn_L_map tk hr (by decide) rfl (fun ρ ds ρ' h => congrArg (· + 1) ((cons_len (cons_len (cons_len nil_len))) ρ ds ρ' h)) (da_cons (de_add de_int (c_di 0 D_L_draw bn_L_draw tk hr (by decide) rfl (fun ρ ds ρ' h => congrArg (· + 1) ((cons_len nil_len) ρ ds ρ' h)) (da_cons de_int da_nil))) (da_cons de_int (da_cons de_int da_nil)))) (c_di 0 D_L_ends bn_L_ends tk hr (by decide) rfl (fun ρ ds ρ' h => congrArg (· + 1) (nil_len ρ ds ρ' h)) da_nil))
      (db_cons (ds_if (DW.dt (dw_or (dt_not (dt_val (c_de D_L_ways_right bn_L_ways_right tk hr (by decide) rfl (cons_len (cons_len nil_len)) (da_cons (de_var 1) (da_cons (de_var 2) da_nil))))) (dw_or1 (dt_ne hr.units (c_de D_turned_map bn_turned_map tk hr (by decide) rfl (cons_len (cons_len nil_len)) (da_cons (de_var 3) (da_cons (de_var 1) da_nil))) (c_de D_L_by bn_L_by tk hr (by decide) rfl (cons_len (cons_len nil_len)) (da_cons (de_var 3) (da_cons (de_var 1) da_nil))))))) (db_one (ds_ret de_bl)) db_nil)
      (db_cons (ds_if (dt_ne hr.units (c_dk0 D_turned_map bk_turned_map_0_way_rows tk hr (by decide) rfl (cons_len (cons_len nil_len)) rfl (by decide) (dk_cons (de_var 2) (dk_cons (c_de D_turned_map bn_turned_map tk hr (by decide) rfl (cons_len (cons_len nil_len)) (da_cons (de_var 3) (da_cons (de_var 1) da_nil))) dk_nil))) (c_de D_turned_map bn_turned_map tk hr (by decide) rfl (cons_len (cons_len nil_len)) (da_cons (de_var 3) (da_cons (c_de D_behind bn_behind tk hr (by decide) rfl (cons_len (cons_len nil_len)) (da_cons (de_var 2) (da_cons (de_var 1) da_nil))) da_nil)))) (db_one (ds_ret de_bl)) db_nil)
      (db_cons (ds_set 5 sc_L_right.nd rfl (Or.inl rfl) (de_at (DN.de (dn_lst (da_cons (de_var 4) (da_cons (de_rev (de_var 4)) da_nil)))) (de_mod (de_var 1) de_int)))
      (db_cons (ds_if (DW.dt (dw_or (dt_ne hr.units (c_de D_turned_ends bn_turned_ends tk hr (by decide) rfl (cons_len (cons_len nil_len)) (da_cons (de_var 4) (da_cons (de_var 1) da_nil))) (de_var 5)) (dw_or1 (dt_ne hr.units (c_dk0 D_turned_ends bk_turned_ends_0_way_ends tk hr (by decide) rfl (cons_len (cons_len nil_len)) rfl (by decide) (dk_cons (de_var 1) (dk_cons (de_var 4) dk_nil))) (de_var 5))))) (db_one (ds_ret de_bl)) db_nil)
      (db_cons (ds_par 6 7 rfl sc_L_right.nd rfl rfl (by decide) rfl rfl (c_di 0 D_L_draw bn_L_draw tk hr (by decide) rfl (fun ρ ds ρ' h => congrArg (· + 1) ((cons_len nil_len) ρ ds ρ' h)) (da_cons (de_len rfl z_len (da_cons (de_var 3) da_nil)) da_nil)) (c_di 0 D_L_draw bn_L_draw tk hr (by decide) rfl (fun ρ ds ρ' h => congrArg (· + 1) ((cons_len nil_len) ρ ds ρ' h)) (da_cons (de_len rfl z_len (da_cons (de_at (de_var 3) de_int) da_nil)) da_nil)))
      (db_cons (ds_set 8 sc_L_right.nd rfl (Or.inl rfl) (c_de D_L_window bn_L_window tk hr (by decide) rfl (cons_len (cons_len (cons_len (cons_len nil_len)))) (da_cons (de_var 3) (da_cons (de_var 4) (da_cons (de_var 6) (da_cons (de_var 7) da_nil))))))
      (db_cons (ds_if (DW.dt (dw_or (dt_ne hr.units (c_dk D_window bk_window_3_ends tk hr (by decide) rfl (cons_len (cons_len (cons_len nil_len))) (cons_len nil_len) rfl (by decide) (da_cons (de_var 3) (da_cons (de_var 6) (da_cons (de_var 7) da_nil))) (dk_cons (de_var 4) dk_nil)) (de_var 8)) (dw_or1 (dt_ne hr.units (c_dk0 D_window bk_window_0_ends_column_row_rows tk hr (by decide) rfl (cons_len (cons_len (cons_len (cons_len nil_len)))) rfl (by decide) (dk_cons (de_var 4) (dk_cons (de_var 7) (dk_cons (de_var 6) (dk_cons (de_var 3) dk_nil))))) (de_var 8))))) (db_one (ds_ret de_bl)) db_nil)
      (db_one (ds_ret (de_eq hr.units (c_dd D_window b_window kd_window tk hr (by decide) rfl (cons_len (cons_len (cons_len nil_len))) rfl (da_cons (de_var 3) (da_cons (de_var 6) (da_cons (de_var 7) da_nil)))) (c_de D_L_window bn_L_window tk hr (by decide) rfl (cons_len (cons_len (cons_len (cons_len nil_len)))) (da_cons (de_var 3) (da_cons (de_tup (da_cons de_str (da_cons de_str da_nil))) (da_cons (de_var 6) (da_cons (de_var 7) da_nil))))))))))))))))))

/-! ### law -/
abbrev st_law : Stmt := top 50
theorem sc_law : FnScope ["script", "at", "purse", "turn", "before", "told", "p", "s"] ["script"] (defScope st_law) := ⟨rfl, rfl, rfl, by decide +kernel, rfl, by decide +kernel, by decide +kernel⟩
theorem bn_law : Bn "law" "law" st_law ["script"] := fun _ _ _ _ _ _ us hl => match us, hl with | [_], _ => rfl
def L_law_0 : En → O := (ifO (M.notB (M.isB (M.callI 2 ((M.ret [])) G_L_right))) (retO (M.ret (.bl false))) O.nxt)
def F_law_1 : En → O := (forRO rg1 (M.cons (M.ret (.int 6)) ((M.ret []))) (.one 3) L_law_0)
def L_law_2 : En → O := (seqO (setNO (M.callN (M.cons (rdVar 0) ((M.cons (rdVar 1) ((M.ret []))))) [] G_L_purse) 2)
    F_law_1)
def F_law_3 : En → O := (forRO rg1 (M.cons (M.bin (M.ret (.int 1)) (M.bi (M.cons (M.ret (.int 8)) ((M.cons (M.bi (M.cons (rdVar 0) ((M.ret []))) lenD) ((M.ret []))))) min2D) addD) ((M.ret []))) (.one 1) L_law_2)
def L_law_4 : En → O := (ifO (M.notB (M.isB (M.call (M.cons (rdVar 3) ((M.cons (rdVar 4) ((M.ret []))))) [] G_L_ways_right))) (retO (M.ret (.bl false))) O.nxt)
def F_law_5 : En → O := (forRO rg1 (M.cons (M.ret (.int 8)) ((M.ret []))) (.one 4) L_law_4)
def F_law_6 : En → O := (forRO rg1 (M.cons (M.ret (.int 8)) ((M.ret []))) (.one 3) F_law_5)
def E_law_7 : M Dat := (M.call (M.cons (M.ret (.int 1)) ((M.cons (rdVar 6) ((M.ret []))))) [] G_place_to)
def C_law_8 : M (List Dat) := (M.lcR rg1 (M.cons (M.ret (.int 8)) ((M.ret []))) (.one 6) tYesM E_law_7)
def E_law_9 : M Dat := (M.call (M.cons (M.ret (.int 4)) ((M.cons (rdVar 7) ((M.ret []))))) [] G_side_to)
def C_law_10 : M (List Dat) := (M.lcR rg1 (M.cons (M.ret (.int 4)) ((M.ret []))) (.one 7) tYesM E_law_9)
def B_law : En → O := (seqO F_law_3
    (seqO F_law_6
    (seqO (setO (M.bin (M.frz C_law_8) (M.frz C_law_10) addD) 5)
    (seqO (ifO (M.isB (M.bin (rdVar 5) (M.frz ((M.cons (M.ret (.int 2)) ((M.cons (M.ret (.int 3)) ((M.cons (M.ret (.int 4)) ((M.cons (M.ret (.int 5)) ((M.cons (M.ret (.int 6)) ((M.cons (M.ret (.int 7)) ((M.cons (M.ret (.int 0)) ((M.cons (M.ret (.int 1)) ((M.cons (M.ret (.int 0)) ((M.cons (M.ret (.int 3)) ((M.cons (M.ret (.int 2)) ((M.cons (M.ret (.int 1)) ((M.ret []))))))))))))))))))))))))).bnd capL)) neD)) (retO (M.ret (.bl false))) O.nxt)
    (seqO (ifO (M.isB (M.bin (M.callK (M.cons (M.tup (M.cons (M.tup (M.cons (M.ret (.int 0)) ((M.ret [])))) ((M.ret [])))) ((M.cons (M.ret (.int 0)) ((M.cons (M.ret (.int 0)) ((M.ret []))))))) ((M.cons (M.tup (M.cons (M.ret (.str "wrap")) ((M.cons (M.ret (.str "open")) ((M.ret [])))))) ((M.ret [])))) [0, 1, 2, 3] [] G_window) (M.tup (M.cons (M.ret (.int 0)) ((M.cons (M.tup (M.cons (M.ret .non) ((M.cons (M.ret .non) ((M.cons (M.ret .non) ((M.cons (M.ret (.int 0)) ((M.cons (M.ret .non) ((M.cons (M.ret .non) ((M.cons (M.ret .non) ((M.cons (M.ret (.int 0)) ((M.ret [])))))))))))))))))) ((M.ret [])))))) neD)) (retO (M.ret (.bl false))) O.nxt)
    (retO (M.bin (M.call (M.cons (M.tup (M.cons (M.tup (M.cons (M.ret (.int 0)) ((M.cons (M.ret (.int 1)) ((M.ret [])))))) ((M.cons (M.tup (M.cons (M.ret (.int 2)) ((M.cons (M.ret (.int 3)) ((M.ret [])))))) ((M.ret [])))))) ((M.cons (M.ret (.int 5)) ((M.ret []))))) [] G_turned_map) (M.tup (M.cons (M.tup (M.cons (M.ret (.int 3)) ((M.cons (M.ret (.int 1)) ((M.ret [])))))) ((M.cons (M.tup (M.cons (M.ret (.int 2)) ((M.cons (M.ret (.int 0)) ((M.ret [])))))) ((M.ret [])))))) eqD)))))))
def G_law (ds : List Dat) : O := (B_law (startE 8 (ds.map .val))).pur
theorem d_law (S : Sd K mg "law" "law" st_law) (D_L_purse : Fd P w K mg base "_law_purse" "_law_purse" st_L_purse 2 ["cells", "at"] (spP K mg 2 G_L_purse)) (D_L_right : Fd P w K mg base "_law_right" "_law_right" st_L_right 8 ["purse"] (spI K mg 1 G_L_right)) (D_L_ways_right : Fd P w K mg base "_law_ways_right" "_law_ways_right" st_L_ways_right 7 ["turn", "before"] (spP K mg 2 G_L_ways_right)) (D_place_to : Fd P w K mg base "place_to" "place_to" st_place_to 6 ["way", "place"] (spP K mg 2 G_place_to)) (D_side_to : Fd P w K mg base "side_to" "side_to" st_side_to 6 ["way", "side"] (spP K mg 2 G_side_to)) (D_window : Fd P w K mg base "window" "window" st_window 6 ["rows", "row", "column", "ends"] (spP K mg 4 G_window)) (D_turned_map : Fd P w K mg base "turned_map" "turned_map" st_turned_map 6 ["rows", "way"] (spP K mg 2 G_turned_map)) (b_window : BdD K mg "window" "window" st_window ["rows", "row", "column", "ends"] dv_window) (kd_window : ∀ H, RepA K H dv_window dd_window) (z_range : mg "range" = none) (z_min : mg "min" = none) (z_len : mg "len" = none) :
    Fd P w K mg base "law" "law" st_law 9 ["script"] (spP K mg 1 G_law) :=
  fd_pure S sc_law (fun f cdv A outer s H E hr => by
    have tk : Takes (cxOf (L2.CX P w) P w K mg base ["script", "at", "purse", "turn", "before", "told", "p", "s"] "law" (defScope st_law) f cdv A outer s H E) (WE0 E) := takes_of rfl rfl rfl rfl
    exact (db_cons (ds_forR1 (t := (.one 1)) (passes_of rfl) rfl rfl z_range (da_cons (de_add de_int (de_min2 rfl rfl z_min (da_cons de_int (da_cons (de_len rfl z_len (da_cons (de_var 0) da_nil)) da_nil)))) da_nil) (pg_name (i := 1) sc_law.nd rfl (Or.inl rfl)) (db_cons (ds_setN 2 sc_law.nd rfl (Or.inl rfl) (c_dn D_L_purse bn_L_purse tk hr (by decide) rfl (cons_len (cons_len nil_len)) (da_cons (de_var 0) (da_cons (de_var 1) da_nil))))
      (db_one (ds_forR1 (t := (.one 3)) (passes_of rfl) rfl rfl z_range (da_cons de_int da_nil) (pg_name (i := 3) sc_law.nd rfl (Or.inl rfl)) (db_one (ds_if (dt_not (dt_val (c_di 2 D_L_right bn_L_right tk hr (by decide) rfl (fun ρ ds ρ' h => congrArg (· + 1) (nil_len ρ ds ρ' h)) da_nil))) (db_one (ds_ret de_bl)) db_nil))))))
      (db_cons (ds_forR1 (t := (.one 3)) (passes_of rfl) rfl rfl z_range (da_cons de_int da_nil) (pg_name (i := 3) sc_law.nd rfl (Or.inl rfl)) (db_one (ds_forR1 (t := (.one 4)) (passes_of rfl) rfl rfl z_range (da_cons de_int da_nil) (pg_name (i := 4) sc_law.nd rfl (Or.inl rfl)) (db_one (ds_if (dt_not (dt_val (c_de D_L_ways_right bn_L_ways_right tk hr (by decide) rfl (cons_len (cons_len nil_len)) (da_cons (de_var 3) (da_cons (de_var 4) da_nil))))) (db_one (ds_ret de_bl)) db_nil)))))
      (db_cons (ds_set 5 sc_law.nd rfl (Or.inl rfl) (de_add (DN.de (dn_lcR1 rfl sc_law.nd rfl z_range (da_cons de_int da_nil) (own := [("p", 6)]) (t := (.one 6)) (blkOk_by (by kernel_rfl)) rfl (fun _ _ _ _ _ => (pg_name (i := 6) sc_law.nd rfl (Or.inl rfl))) (fun _ _ _ _ _ => dts_nil) (fun _ _ _ _ _ => (c_de D_place_to bn_place_to takes0 hr (by decide) rfl (cons_len (cons_len nil_len)) (da_cons de_int (da_cons (de_var 6) da_nil)))))) (DN.de (dn_lcR1 rfl sc_law.nd rfl z_range (da_cons de_int da_nil) (own := [("s", 7)]) (t := (.one 7)) (blkOk_by (by kernel_rfl)) rfl (fun _ _ _ _ _ => (pg_name (i := 7) sc_law.nd rfl (Or.inl rfl))) (fun _ _ _ _ _ => dts_nil) (fun _ _ _ _ _ => (c_de D_side_to bn_side_to takes0 hr (by decide) rfl (cons_len (cons_len nil_len)) (da_cons de_int (da_cons (de_var 7) da_nil))))))))
      (db_cons (ds_if (dt_ne hr.units (de_var 5) (DN.de (dn_lst (da_cons de_int (da_cons de_int (da_cons de_int (da_cons de_int (da_cons de_int (da_cons de_int (da_cons de_int (da_cons de_int (da_cons de_int (da_cons de_int (da_cons de_int (da_cons de_int da_nil))))))))))))))) (db_one (ds_ret de_bl)) db_nil)
      (db_cons (ds_if (dt_ne hr.units (c_dk D_window bk_window_3_ends tk hr (by decide) rfl (cons_len (cons_len (cons_len nil_len))) (cons_len nil_len) rfl (by decide) (da_cons (de_tup (da_cons (de_tup (da_cons de_int da_nil)) da_nil)) (da_cons de_int (da_cons de_int da_nil))) (dk_cons (de_tup (da_cons de_str (da_cons de_str da_nil))) dk_nil)) (de_tup (da_cons de_int (da_cons (de_tup (da_cons de_non (da_cons de_non (da_cons de_non (da_cons de_int (da_cons de_non (da_cons de_non (da_cons de_non (da_cons de_int da_nil))))))))) da_nil)))) (db_one (ds_ret de_bl)) db_nil)
      (db_one (ds_ret (de_eq hr.units (c_de D_turned_map bn_turned_map tk hr (by decide) rfl (cons_len (cons_len nil_len)) (da_cons (de_tup (da_cons (de_tup (da_cons de_int (da_cons de_int da_nil))) (da_cons (de_tup (da_cons de_int (da_cons de_int da_nil))) da_nil))) (da_cons de_int da_nil))) (de_tup (da_cons (de_tup (da_cons de_int (da_cons de_int da_nil))) (da_cons (de_tup (da_cons de_int (da_cons de_int da_nil))) da_nil))))))))))))

/-! ### all -/
theorem all_fd (S_L_purse : Sd K mg "_law_purse" "_law_purse" st_L_purse)
    (S_L_mixed : Sd K mg "_law_mixed" "_law_mixed" st_L_mixed)
    (S_L_draw : Sd K mg "_law_draw" "_law_draw" st_L_draw)
    (S_L_map : Sd K mg "_law_map" "_law_map" st_L_map)
    (S_L_ends : Sd K mg "_law_ends" "_law_ends" st_L_ends)
    (S_is_count : Sd K mg "is_count" "is_count" st_is_count)
    (S_is_count_below : Sd K mg "is_count_below" "is_count_below" st_is_count_below)
    (S_is_way : Sd K mg "is_way" "is_way" st_is_way)
    (S_check_way : Sd K mg "check_way" "check_way" st_check_way)
    (S_behind : Sd K mg "behind" "behind" st_behind)
    (S_L_quarter : Sd K mg "_law_quarter" "_law_quarter" st_L_quarter)
    (S_L_by : Sd K mg "_law_by" "_law_by" st_L_by)
    (S_L_after : Sd K mg "_law_after" "_law_after" st_L_after)
    (S_inverse : Sd K mg "inverse" "inverse" st_inverse)
    (S_L_ring : Sd K mg "_law_ring" "_law_ring" st_L_ring)
    (S_L_places : Sd K mg "_law_places" "_law_places" st_L_places)
    (S_check_number : Sd K mg "check_number" "check_number" st_check_number)
    (S_place_to : Sd K mg "place_to" "place_to" st_place_to)
    (S_side_to : Sd K mg "side_to" "side_to" st_side_to)
    (S_L_ways_right : Sd K mg "_law_ways_right" "_law_ways_right" st_L_ways_right)
    (S_is_row : Sd K mg "is_row" "is_row" st_is_row)
    (S_is_grid : Sd K mg "is_grid" "is_grid" st_is_grid)
    (S_check_map : Sd K mg "check_map" "check_map" st_check_map)
    (S_mirrored : Sd K mg "mirrored" "mirrored" st_mirrored)
    (S_turned_once : Sd K mg "turned_once" "turned_once" st_turned_once)
    (S_turned_map : Sd K mg "turned_map" "turned_map" st_turned_map)
    (S_is_end : Sd K mg "is_end" "is_end" st_is_end)
    (S_check_ends : Sd K mg "check_ends" "check_ends" st_check_ends)
    (S_turned_ends : Sd K mg "turned_ends" "turned_ends" st_turned_ends)
    (S_L_kind : Sd K mg "_law_kind" "_law_kind" st_L_kind)
    (S_L_window : Sd K mg "_law_window" "_law_window" st_L_window)
    (S_check_cell : Sd K mg "check_cell" "check_cell" st_check_cell)
    (S_line_at : Sd K mg "line_at" "line_at" st_line_at)
    (S_kind_at : Sd K mg "kind_at" "kind_at" st_kind_at)
    (S_kinds_around : Sd K mg "kinds_around" "kinds_around" st_kinds_around)
    (S_window : Sd K mg "window" "window" st_window)
    (S_L_right : Sd K mg "_law_right" "_law_right" st_L_right)
    (S_law : Sd K mg "law" "law" st_law)
    (z_all : mg "all" = none)
    (z_bool : mg "bool" = none)
    (z_int : mg "int" = none)
    (z_isinstance : mg "isinstance" = none)
    (z_len : mg "len" = none)
    (z_max : mg "max" = none)
    (z_min : mg "min" = none)
    (z_range : mg "range" = none)
    (z_str : mg "str" = none)
    (z_tuple : mg "tuple" = none)
    (z_zip : mg "zip" = none)
    (c_STEPS : mg "STEPS" = some v_STEPS ∧ RelV u_STEPS v_STEPS ∧ KRep K u_STEPS k_STEPS)
    (b_window : BdD K mg "window" "window" st_window ["rows", "row", "column", "ends"] dv_window) (kd_window : ∀ H, RepA K H dv_window dd_window)
    (x_InvalidNumber : ExT K mg "InvalidNumber")
    (x_InvalidWay : ExT K mg "InvalidWay")
    (x_InvalidMap : ExT K mg "InvalidMap")
    (x_InvalidEnds : ExT K mg "InvalidEnds")
    (x_InvalidCell : ExT K mg "InvalidCell")
    (fv_is_count : FnV K mg "is_count") :
    Fd P w K mg base "law" "law" st_law 9 ["script"] (spP K mg 1 G_law) := by
  have D_L_purse : Fd P w K mg base "_law_purse" "_law_purse" st_L_purse 2 ["cells", "at"] (spP K mg 2 G_L_purse) := d_L_purse S_L_purse z_len z_int z_max
  have D_L_mixed : Fd P w K mg base "_law_mixed" "_law_mixed" st_L_mixed 2 ["cell", "k"] (spP K mg 2 G_L_mixed) := d_L_mixed S_L_mixed z_int
  have D_L_draw : Fd P w K mg base "_law_draw" "_law_draw" st_L_draw 3 ["purse", "out_of"] (spI K mg 2 G_L_draw) := d_L_draw S_L_draw D_L_mixed z_int
  have D_L_map : Fd P w K mg base "_law_map" "_law_map" st_L_map 4 ["purse", "many", "high", "wide"] (spI K mg 4 G_L_map) := d_L_map S_L_map D_L_draw z_tuple z_range
  have D_L_ends : Fd P w K mg base "_law_ends" "_law_ends" st_L_ends 4 ["purse"] (spI K mg 1 G_L_ends) := d_L_ends S_L_ends D_L_draw
  have D_is_count : Fd P w K mg base "is_count" "is_count" st_is_count 2 ["thing"] (spP K mg 1 G_is_count) := d_is_count S_is_count z_isinstance z_int z_bool
  have D_is_count_below : Fd P w K mg base "is_count_below" "is_count_below" st_is_count_below 3 ["thing", "limit"] (spP K mg 2 G_is_count_below) := d_is_count_below S_is_count_below D_is_count
  have D_is_way : Fd P w K mg base "is_way" "is_way" st_is_way 4 ["thing"] (spP K mg 1 G_is_way) := d_is_way S_is_way D_is_count_below
  have D_check_way : Fd P w K mg base "check_way" "check_way" st_check_way 5 ["way"] (spP K mg 1 G_check_way) := d_check_way S_check_way D_is_way x_InvalidWay
  have D_behind : Fd P w K mg base "behind" "behind" st_behind 6 ["way", "first_way"] (spP K mg 2 G_behind) := d_behind S_behind D_check_way
  have D_L_quarter : Fd P w K mg base "_law_quarter" "_law_quarter" st_L_quarter 2 ["lot"] (spP K mg 1 G_L_quarter) := d_L_quarter S_L_quarter z_tuple z_len z_range
  have D_L_by : Fd P w K mg base "_law_by" "_law_by" st_L_by 3 ["lot", "turn"] (spP K mg 2 G_L_by) := d_L_by S_L_by D_L_quarter z_tuple z_range
  have D_L_after : Fd P w K mg base "_law_after" "_law_after" st_L_after 4 ["turn", "before"] (spP K mg 2 G_L_after) := d_L_after S_L_after D_L_by z_range
  have D_inverse : Fd P w K mg base "inverse" "inverse" st_inverse 6 ["way"] (spP K mg 1 G_inverse) := d_inverse S_inverse D_check_way
  have D_L_ring : Fd P w K mg base "_law_ring" "_law_ring" st_L_ring 2 ["lot"] (spP K mg 1 G_L_ring) := d_L_ring S_L_ring 
  have D_L_places : Fd P w K mg base "_law_places" "_law_places" st_L_places 4 ["turn"] (spP K mg 1 G_L_places) := d_L_places S_L_places D_L_ring D_L_by z_range
  have D_check_number : Fd P w K mg base "check_number" "check_number" st_check_number 4 ["number", "limit"] (spP K mg 2 G_check_number) := d_check_number S_check_number D_is_count_below x_InvalidNumber
  have D_place_to : Fd P w K mg base "place_to" "place_to" st_place_to 6 ["way", "place"] (spP K mg 2 G_place_to) := d_place_to S_place_to D_check_way D_check_number
  have D_side_to : Fd P w K mg base "side_to" "side_to" st_side_to 6 ["way", "side"] (spP K mg 2 G_side_to) := d_side_to S_side_to D_check_way D_check_number
  have D_L_ways_right : Fd P w K mg base "_law_ways_right" "_law_ways_right" st_L_ways_right 7 ["turn", "before"] (spP K mg 2 G_L_ways_right) := d_L_ways_right S_L_ways_right D_behind D_L_after D_inverse D_L_places D_place_to D_side_to z_range
  have D_is_row : Fd P w K mg base "is_row" "is_row" st_is_row 3 ["thing", "is_item"] (spP K mg 2 G_is_row) := d_is_row S_is_row D_is_count z_isinstance z_tuple z_len z_all fv_is_count
  have D_is_grid : Fd P w K mg base "is_grid" "is_grid" st_is_grid 4 ["thing", "is_item"] (spP K mg 2 G_is_grid) := d_is_grid S_is_grid D_is_row z_isinstance z_tuple z_len
  have D_check_map : Fd P w K mg base "check_map" "check_map" st_check_map 5 ["rows"] (spP K mg 1 G_check_map) := d_check_map S_check_map D_is_grid x_InvalidMap fv_is_count
  have D_mirrored : Fd P w K mg base "mirrored" "mirrored" st_mirrored 2 ["rows"] (spP K mg 1 G_mirrored) := d_mirrored S_mirrored z_tuple
  have D_turned_once : Fd P w K mg base "turned_once" "turned_once" st_turned_once 2 ["rows"] (spP K mg 1 G_turned_once) := d_turned_once S_turned_once z_tuple z_zip
  have D_turned_map : Fd P w K mg base "turned_map" "turned_map" st_turned_map 6 ["rows", "way"] (spP K mg 2 G_turned_map) := d_turned_map S_turned_map D_check_map D_check_way D_mirrored D_turned_once z_range
  have D_is_end : Fd P w K mg base "is_end" "is_end" st_is_end 2 ["thing"] (spP K mg 1 G_is_end) := d_is_end S_is_end z_isinstance z_str
  have D_check_ends : Fd P w K mg base "check_ends" "check_ends" st_check_ends 3 ["ends"] (spP K mg 1 G_check_ends) := d_check_ends S_check_ends D_is_end z_isinstance z_tuple z_len x_InvalidEnds
  have D_turned_ends : Fd P w K mg base "turned_ends" "turned_ends" st_turned_ends 6 ["ends", "way"] (spP K mg 2 G_turned_ends) := d_turned_ends S_turned_ends D_check_ends D_check_way
  have D_L_kind : Fd P w K mg base "_law_kind" "_law_kind" st_L_kind 2 ["grid", "rims", "down", "right"] (spP K mg 4 G_L_kind) := d_L_kind S_L_kind z_int z_len
  have D_L_window : Fd P w K mg base "_law_window" "_law_window" st_L_window 3 ["grid", "rims", "down", "right"] (spP K mg 4 G_L_window) := d_L_window S_L_window D_L_kind D_L_ring z_tuple
  have D_check_cell : Fd P w K mg base "check_cell" "check_cell" st_check_cell 4 ["line", "limit"] (spP K mg 2 G_check_cell) := d_check_cell S_check_cell D_is_count_below x_InvalidCell
  have D_line_at : Fd P w K mg base "line_at" "line_at" st_line_at 2 ["line", "many", "end"] (spP K mg 3 G_line_at) := d_line_at S_line_at 
  have D_kind_at : Fd P w K mg base "kind_at" "kind_at" st_kind_at 3 ["rows", "row", "column", "ends"] (spP K mg 4 G_kind_at) := d_kind_at S_kind_at D_line_at z_len
  have D_kinds_around : Fd P w K mg base "kinds_around" "kinds_around" st_kinds_around 4 ["rows", "row", "column", "ends"] (spP K mg 4 G_kinds_around) := d_kinds_around S_kinds_around D_kind_at z_tuple c_STEPS
  have D_window : Fd P w K mg base "window" "window" st_window 6 ["rows", "row", "column", "ends"] (spP K mg 4 G_window) := d_window S_window D_check_map D_check_cell D_check_ends D_kinds_around z_len
  have D_L_right : Fd P w K mg base "_law_right" "_law_right" st_L_right 8 ["purse"] (spI K mg 1 G_L_right) := d_L_right S_L_right D_L_draw D_L_map D_L_ends D_L_ways_right D_turned_map D_L_by D_behind D_turned_ends D_L_window D_window b_window kd_window z_len
  have D_law : Fd P w K mg base "law" "law" st_law 9 ["script"] (spP K mg 1 G_law) := d_law S_law D_L_purse D_L_right D_L_ways_right D_place_to D_side_to D_window D_turned_map b_window kd_window z_range z_min z_len
  exact D_law
end
end Sv.pw_cellpictures_k01_ways_and_maps

set_option linter.all false
set_option maxRecDepth 100000
set_option maxHeartbeats 1000000
namespace Sv.pw_cellpictures_k01_ways_and_maps
open PySem L2 PyProof.Rows Sv
theorem gt0 {α : Type} {x0 : α} {l : List α} : (x0 :: l)[0]? = some x0 := rfl
theorem st0 {α : Type} {x0 y : α} {l : List α} : (x0 :: l).set 0 y = y :: l := rfl
theorem gt1 {α : Type} {x0 x1 : α} {l : List α} : (x0 :: x1 :: l)[1]? = some x1 := rfl
theorem st1 {α : Type} {x0 x1 y : α} {l : List α} : (x0 :: x1 :: l).set 1 y = x0 :: y :: l := rfl
theorem gt2 {α : Type} {x0 x1 x2 : α} {l : List α} : (x0 :: x1 :: x2 :: l)[2]? = some x2 := rfl
theorem st2 {α : Type} {x0 x1 x2 y : α} {l : List α} : (x0 :: x1 :: x2 :: l).set 2 y = x0 :: x1 :: y :: l := rfl
theorem gt3 {α : Type} {x0 x1 x2 x3 : α} {l : List α} : (x0 :: x1 :: x2 :: x3 :: l)[3]? = some x3 := rfl
theorem st3 {α : Type} {x0 x1 x2 x3 y : α} {l : List α} : (x0 :: x1 :: x2 :: x3 :: l).set 3 y = x0 :: x1 :: x2 :: y :: l := rfl
theorem gt4 {α : Type} {x0 x1 x2 x3 x4 : α} {l : List α} : (x0 :: x1 :: x2 :: x3 :: x4 :: l)[4]? = some x4 := rfl
theorem st4 {α : Type} {x0 x1 x2 x3 x4 y : α} {l : List α} : (x0 :: x1 :: x2 :: x3 :: x4 :: l).set 4 y = x0 :: x1 :: x2 :: x3 :: y :: l := rfl
theorem gt5 {α : Type} {x0 x1 x2 x3 x4 x5 : α} {l : List α} : (x0 :: x1 :: x2 :: x3 :: x4 :: x5 :: l)[5]? = some x5 := rfl
theorem st5 {α : Type} {x0 x1 x2 x3 x4 x5 y : α} {l : List α} : (x0 :: x1 :: x2 :: x3 :: x4 :: x5 :: l).set 5 y = x0 :: x1 :: x2 :: x3 :: x4 :: y :: l := rfl
theorem gt6 {α : Type} {x0 x1 x2 x3 x4 x5 x6 : α} {l : List α} : (x0 :: x1 :: x2 :: x3 :: x4 :: x5 :: x6 :: l)[6]? = some x6 := rfl
theorem st6 {α : Type} {x0 x1 x2 x3 x4 x5 x6 y : α} {l : List α} : (x0 :: x1 :: x2 :: x3 :: x4 :: x5 :: x6 :: l).set 6 y = x0 :: x1 :: x2 :: x3 :: x4 :: x5 :: y :: l := rfl
theorem gt7 {α : Type} {x0 x1 x2 x3 x4 x5 x6 x7 : α} {l : List α} : (x0 :: x1 :: x2 :: x3 :: x4 :: x5 :: x6 :: x7 :: l)[7]? = some x7 := rfl
theorem st7 {α : Type} {x0 x1 x2 x3 x4 x5 x6 x7 y : α} {l : List α} : (x0 :: x1 :: x2 :: x3 :: x4 :: x5 :: x6 :: x7 :: l).set 7 y = x0 :: x1 :: x2 :: x3 :: x4 :: x5 :: x6 :: y :: l := rfl
theorem gt8 {α : Type} {x0 x1 x2 x3 x4 x5 x6 x7 x8 : α} {l : List α} : (x0 :: x1 :: x2 :: x3 :: x4 :: x5 :: x6 :: x7 :: x8 :: l)[8]? = some x8 := rfl
theorem st8 {α : Type} {x0 x1 x2 x3 x4 x5 x6 x7 x8 y : α} {l : List α} : (x0 :: x1 :: x2 :: x3 :: x4 :: x5 :: x6 :: x7 :: x8 :: l).set 8 y = x0 :: x1 :: x2 :: x3 :: x4 :: x5 :: x6 :: x7 :: y :: l := rfl
theorem gt9 {α : Type} {x0 x1 x2 x3 x4 x5 x6 x7 x8 x9 : α} {l : List α} : (x0 :: x1 :: x2 :: x3 :: x4 :: x5 :: x6 :: x7 :: x8 :: x9 :: l)[9]? = some x9 := rfl
theorem st9 {α : Type} {x0 x1 x2 x3 x4 x5 x6 x7 x8 x9 y : α} {l : List α} : (x0 :: x1 :: x2 :: x3 :: x4 :: x5 :: x6 :: x7 :: x8 :: x9 :: l).set 9 y = x0 :: x1 :: x2 :: x3 :: x4 :: x5 :: x6 :: x7 :: x8 :: y :: l := rfl
theorem gt10 {α : Type} {x0 x1 x2 x3 x4 x5 x6 x7 x8 x9 x10 : α} {l : List α} : (x0 :: x1 :: x2 :: x3 :: x4 :: x5 :: x6 :: x7 :: x8 :: x9 :: x10 :: l)[10]? = some x10 := rfl
theorem st10 {α : Type} {x0 x1 x2 x3 x4 x5 x6 x7 x8 x9 x10 y : α} {l : List α} : (x0 :: x1 :: x2 :: x3 :: x4 :: x5 :: x6 :: x7 :: x8 :: x9 :: x10 :: l).set 10 y = x0 :: x1 :: x2 :: x3 :: x4 :: x5 :: x6 :: x7 :: x8 :: x9 :: y :: l := rfl
theorem gt11 {α : Type} {x0 x1 x2 x3 x4 x5 x6 x7 x8 x9 x10 x11 : α} {l : List α} : (x0 :: x1 :: x2 :: x3 :: x4 :: x5 :: x6 :: x7 :: x8 :: x9 :: x10 :: x11 :: l)[11]? = some x11 := rfl
theorem st11 {α : Type} {x0 x1 x2 x3 x4 x5 x6 x7 x8 x9 x10 x11 y : α} {l : List α} : (x0 :: x1 :: x2 :: x3 :: x4 :: x5 :: x6 :: x7 :: x8 :: x9 :: x10 :: x11 :: l).set 11 y = x0 :: x1 :: x2 :: x3 :: x4 :: x5 :: x6 :: x7 :: x8 :: x9 :: x10 :: y :: l := rfl
theorem gt12 {α : Type} {x0 x1 x2 x3 x4 x5 x6 x7 x8 x9 x10 x11 x12 : α} {l : List α} : (x0 :: x1 :: x2 :: x3 :: x4 :: x5 :: x6 :: x7 :: x8 :: x9 :: x10 :: x11 :: x12 :: l)[12]? = some x12 := rfl
theorem st12 {α : Type} {x0 x1 x2 x3 x4 x5 x6 x7 x8 x9 x10 x11 x12 y : α} {l : List α} : (x0 :: x1 :: x2 :: x3 :: x4 :: x5 :: x6 :: x7 :: x8 :: x9 :: x10 :: x11 :: x12 :: l).set 12 y = x0 :: x1 :: x2 :: x3 :: x4 :: x5 :: x6 :: x7 :: x8 :: x9 :: x10 :: x11 :: y :: l := rfl
theorem gt13 {α : Type} {x0 x1 x2 x3 x4 x5 x6 x7 x8 x9 x10 x11 x12 x13 : α} {l : List α} : (x0 :: x1 :: x2 :: x3 :: x4 :: x5 :: x6 :: x7 :: x8 :: x9 :: x10 :: x11 :: x12 :: x13 :: l)[13]? = some x13 := rfl
theorem st13 {α : Type} {x0 x1 x2 x3 x4 x5 x6 x7 x8 x9 x10 x11 x12 x13 y : α} {l : List α} : (x0 :: x1 :: x2 :: x3 :: x4 :: x5 :: x6 :: x7 :: x8 :: x9 :: x10 :: x11 :: x12 :: x13 :: l).set 13 y = x0 :: x1 :: x2 :: x3 :: x4 :: x5 :: x6 :: x7 :: x8 :: x9 :: x10 :: x11 :: x12 :: y :: l := rfl
theorem gt14 {α : Type} {x0 x1 x2 x3 x4 x5 x6 x7 x8 x9 x10 x11 x12 x13 x14 : α} {l : List α} : (x0 :: x1 :: x2 :: x3 :: x4 :: x5 :: x6 :: x7 :: x8 :: x9 :: x10 :: x11 :: x12 :: x13 :: x14 :: l)[14]? = some x14 := rfl
theorem st14 {α : Type} {x0 x1 x2 x3 x4 x5 x6 x7 x8 x9 x10 x11 x12 x13 x14 y : α} {l : List α} : (x0 :: x1 :: x2 :: x3 :: x4 :: x5 :: x6 :: x7 :: x8 :: x9 :: x10 :: x11 :: x12 :: x13 :: x14 :: l).set 14 y = x0 :: x1 :: x2 :: x3 :: x4 :: x5 :: x6 :: x7 :: x8 :: x9 :: x10 :: x11 :: x12 :: x13 :: y :: l := rfl
theorem gt15 {α : Type} {x0 x1 x2 x3 x4 x5 x6 x7 x8 x9 x10 x11 x12 x13 x14 x15 : α} {l : List α} : (x0 :: x1 :: x2 :: x3 :: x4 :: x5 :: x6 :: x7 :: x8 :: x9 :: x10 :: x11 :: x12 :: x13 :: x14 :: x15 :: l)[15]? = some x15 := rfl
theorem st15 {α : Type} {x0 x1 x2 x3 x4 x5 x6 x7 x8 x9 x10 x11 x12 x13 x14 x15 y : α} {l : List α} : (x0 :: x1 :: x2 :: x3 :: x4 :: x5 :: x6 :: x7 :: x8 :: x9 :: x10 :: x11 :: x12 :: x13 :: x14 :: x15 :: l).set 15 y = x0 :: x1 :: x2 :: x3 :: x4 :: x5 :: x6 :: x7 :: x8 :: x9 :: x10 :: x11 :: x12 :: x13 :: x14 :: y :: l := rfl
theorem mul_ok {i j : Int} (h : (-18446744073709551616 < i ∧ i < 18446744073709551616) ∨ (-18446744073709551616 < j ∧ j < 18446744073709551616)) : mulD (.int i) (.int j) = some (.int (i * j)) := by
  unfold mulD iop; simp only []; rw [if_pos (decide_eq_true h)]
theorem mod_ok {i j : Int} (h : 0 < j) : modD (.int i) (.int j) = some (.int (i % j)) := by
  unfold modD iop; simp only []; rw [if_pos (decide_eq_true h)]
theorem fdiv_ok {i j : Int} (h : 0 < j ∧ j < 1073741824) : fdivD (.int i) (.int j) = some (.int (i / j)) := by
  unfold fdivD iop; simp only []; rw [if_pos (decide_eq_true h)]
theorem g_is_count (i : Int) : G_is_count [.int i] = .ret (.bl (decide (0 ≤ i))) [] := by kernel_rfl
theorem g_is_count_below {i n : Int} (h : 0 ≤ i) (h2 : i < n) : G_is_count_below [.int i, .int n] = .ret (.bl true) [] := by
  simp [G_is_count_below, B_is_count_below, g_is_count, h, h2, gt0, st0, gt1, st1, gt2, st2, gt3, st3, gt4, st4, gt5, st5, gt6, st6, gt7, st7, gt8, st8, gt9, st9, gt10, st10, gt11, st11, gt12, st12, gt13, st13, gt14, st14, gt15, st15, seqO, O.then, setO, putS, parO, dropO, retO, retL, ifO, setNO, retNO, appL, subO, unpO, R.toO, M.ret, M.bnd, M.lift, M.bin, M.un1, M.cons, M.bi, M.isB, M.notB, M.andB, M.orB, M.andV, M.orV, M.notV, M.ite, M.tup, M.frz, capL, M.call, M.callN, M.callI, M.callK, M.callD, callR, Sv.callN, Sv.callI, M.chain, M.idxT, M.idxL, rdVar, ixVar, lenVar, listAt, mutAt, putAt, hasS, startE, Tg.slots, setT, setVs, unS, isUn, mkTup, mkLst, iop, bop, addD, subD, negD, isiD, tyN, tb_int, tb_bool, tb_str, tb_tuple, tb_list, lenD, ixD, itemsS, items, tupleD, intD, max2D, min2D, isNoneD, notNoneD, isN, O.pur, O.inp, pick, rg1, rg2, atI, ixN, forO, forRO, M.lc, M.lcR, lcI, tYesM]
theorem g_is_way {i : Int} (h : 0 ≤ i) (h2 : i < 8) : G_is_way [.int i] = .ret (.bl true) [] := by
  simp [G_is_way, B_is_way, g_is_count_below h h2, gt0, st0, gt1, st1, gt2, st2, gt3, st3, gt4, st4, gt5, st5, gt6, st6, gt7, st7, gt8, st8, gt9, st9, gt10, st10, gt11, st11, gt12, st12, gt13, st13, gt14, st14, gt15, st15, seqO, O.then, setO, putS, parO, dropO, retO, retL, ifO, setNO, retNO, appL, subO, unpO, R.toO, M.ret, M.bnd, M.lift, M.bin, M.un1, M.cons, M.bi, M.isB, M.notB, M.andB, M.orB, M.andV, M.orV, M.notV, M.ite, M.tup, M.frz, capL, M.call, M.callN, M.callI, M.callK, M.callD, callR, Sv.callN, Sv.callI, M.chain, M.idxT, M.idxL, rdVar, ixVar, lenVar, listAt, mutAt, putAt, hasS, startE, Tg.slots, setT, setVs, unS, isUn, mkTup, mkLst, iop, bop, addD, subD, negD, isiD, tyN, tb_int, tb_bool, tb_str, tb_tuple, tb_list, lenD, ixD, itemsS, items, tupleD, intD, max2D, min2D, isNoneD, notNoneD, isN, O.pur, O.inp, pick, rg1, rg2, atI, ixN, forO, forRO, M.lc, M.lcR, lcI, tYesM, callR]
theorem g_check_way {i : Int} (h : 0 ≤ i) (h2 : i < 8) : G_check_way [.int i] = .ret .non [] := by
  simp [G_check_way, B_check_way, g_is_way h h2, gt0, st0, gt1, st1, gt2, st2, gt3, st3, gt4, st4, gt5, st5, gt6, st6, gt7, st7, gt8, st8, gt9, st9, gt10, st10, gt11, st11, gt12, st12, gt13, st13, gt14, st14, gt15, st15, seqO, O.then, setO, putS, parO, dropO, retO, retL, ifO, setNO, retNO, appL, subO, unpO, R.toO, M.ret, M.bnd, M.lift, M.bin, M.un1, M.cons, M.bi, M.isB, M.notB, M.andB, M.orB, M.andV, M.orV, M.notV, M.ite, M.tup, M.frz, capL, M.call, M.callN, M.callI, M.callK, M.callD, callR, Sv.callN, Sv.callI, M.chain, M.idxT, M.idxL, rdVar, ixVar, lenVar, listAt, mutAt, putAt, hasS, startE, Tg.slots, setT, setVs, unS, isUn, mkTup, mkLst, iop, bop, addD, subD, negD, isiD, tyN, tb_int, tb_bool, tb_str, tb_tuple, tb_list, lenD, ixD, itemsS, items, tupleD, intD, max2D, min2D, isNoneD, notNoneD, isN, O.pur, O.inp, pick, rg1, rg2, atI, ixN, forO, forRO, M.lc, M.lcR, lcI, tYesM]
theorem g_check_number {i n : Int} (h : 0 ≤ i) (h2 : i < n) : G_check_number [.int i, .int n] = .ret .non [] := by
  simp [G_check_number, B_check_number, g_is_count_below h h2, gt0, st0, gt1, st1, gt2, st2, gt3, st3, gt4, st4, gt5, st5, gt6, st6, gt7, st7, gt8, st8, gt9, st9, gt10, st10, gt11, st11, gt12, st12, gt13, st13, gt14, st14, gt15, st15, seqO, O.then, setO, putS, parO, dropO, retO, retL, ifO, setNO, retNO, appL, subO, unpO, R.toO, M.ret, M.bnd, M.lift, M.bin, M.un1, M.cons, M.bi, M.isB, M.notB, M.andB, M.orB, M.andV, M.orV, M.notV, M.ite, M.tup, M.frz, capL, M.call, M.callN, M.callI, M.callK, M.callD, callR, Sv.callN, Sv.callI, M.chain, M.idxT, M.idxL, rdVar, ixVar, lenVar, listAt, mutAt, putAt, hasS, startE, Tg.slots, setT, setVs, unS, isUn, mkTup, mkLst, iop, bop, addD, subD, negD, isiD, tyN, tb_int, tb_bool, tb_str, tb_tuple, tb_list, lenD, ixD, itemsS, items, tupleD, intD, max2D, min2D, isNoneD, notNoneD, isN, O.pur, O.inp, pick, rg1, rg2, atI, ixN, forO, forRO, M.lc, M.lcR, lcI, tYesM]
theorem g_check_cell {i n : Int} (h : 0 ≤ i) (h2 : i < n) : G_check_cell [.int i, .int n] = .ret .non [] := by
  simp [G_check_cell, B_check_cell, g_is_count_below h h2, gt0, st0, gt1, st1, gt2, st2, gt3, st3, gt4, st4, gt5, st5, gt6, st6, gt7, st7, gt8, st8, gt9, st9, gt10, st10, gt11, st11, gt12, st12, gt13, st13, gt14, st14, gt15, st15, seqO, O.then, setO, putS, parO, dropO, retO, retL, ifO, setNO, retNO, appL, subO, unpO, R.toO, M.ret, M.bnd, M.lift, M.bin, M.un1, M.cons, M.bi, M.isB, M.notB, M.andB, M.orB, M.andV, M.orV, M.notV, M.ite, M.tup, M.frz, capL, M.call, M.callN, M.callI, M.callK, M.callD, callR, Sv.callN, Sv.callI, M.chain, M.idxT, M.idxL, rdVar, ixVar, lenVar, listAt, mutAt, putAt, hasS, startE, Tg.slots, setT, setVs, unS, isUn, mkTup, mkLst, iop, bop, addD, subD, negD, isiD, tyN, tb_int, tb_bool, tb_str, tb_tuple, tb_list, lenD, ixD, itemsS, items, tupleD, intD, max2D, min2D, isNoneD, notNoneD, isN, O.pur, O.inp, pick, rg1, rg2, atI, ixN, forO, forRO, M.lc, M.lcR, lcI, tYesM]
def mixS (c k : Int) : Int := (c * 2654435761 + 40503 * k * k + 97 * k + 13) % 2147483647
def mixF (c k : Int) : Int := (mixS c k * mixS c k + 7 * mixS c k + 11) % 2147483629 / 3
theorem mixF_pos (c k : Int) : 0 ≤ mixF c k := by unfold mixF; omega
theorem g_mixed {c k : Int} (h1 : 0 ≤ c) (h2 : c < 2147483647) (h3 : 0 ≤ k) (h4 : k < 1000000000000) : G_L_mixed [.int c, .int k] = .ret (.int (mixF c k)) [] := by
  simp (disch := omega) [G_L_mixed, B_L_mixed, mixF, mixS, mul_ok, mod_ok, fdiv_ok, gt0, st0, gt1, st1, gt2, st2, gt3, st3, gt4, st4, gt5, st5, gt6, st6, gt7, st7, gt8, st8, gt9, st9, gt10, st10, gt11, st11, gt12, st12, gt13, st13, gt14, st14, gt15, st15, seqO, O.then, setO, putS, parO, dropO, retO, retL, ifO, setNO, retNO, appL, subO, unpO, R.toO, M.ret, M.bnd, M.lift, M.bin, M.un1, M.cons, M.bi, M.isB, M.notB, M.andB, M.orB, M.andV, M.orV, M.notV, M.ite, M.tup, M.frz, capL, M.call, M.callN, M.callI, M.callK, M.callD, callR, Sv.callN, Sv.callI, M.chain, M.idxT, M.idxL, rdVar, ixVar, lenVar, listAt, mutAt, putAt, hasS, startE, Tg.slots, setT, setVs, unS, isUn, mkTup, mkLst, iop, bop, addD, subD, negD, isiD, tyN, tb_int, tb_bool, tb_str, tb_tuple, tb_list, lenD, ixD, itemsS, items, tupleD, intD, max2D, min2D, isNoneD, notNoneD, isN, O.pur, O.inp, pick, rg1, rg2, atI, ixN, forO, forRO, M.lc, M.lcR, lcI, tYesM]
theorem g_draw {a b c n : Int} (ha : 0 ≤ a) (hb : 0 ≤ b) (hb2 : b < 2147483647) (hc : 0 ≤ c) (hc2 : c < 900000000000) (hn : 0 < n) (hn2 : n < 1073741824) :
    ∃ d a' c', 0 ≤ d ∧ d < n ∧ 0 ≤ a' ∧ 0 ≤ c' ∧ c' ≤ c + 1 ∧ G_L_draw [.int a, .int b, .int c] [.int n] = .ret (.int d) [.ino [.int a', .int b, .int c']] := by
  by_cases h : 0 < a
  · refine ⟨a % n, a / n, c, Int.emod_nonneg _ (by omega), Int.emod_lt_of_pos _ hn, Int.ediv_nonneg ha (by omega), hc, by omega, ?_⟩
    simp (disch := omega) [G_L_draw, B_L_draw, h, mul_ok, mod_ok, fdiv_ok, gt0, st0, gt1, st1, gt2, st2, gt3, st3, gt4, st4, gt5, st5, gt6, st6, gt7, st7, gt8, st8, gt9, st9, gt10, st10, gt11, st11, gt12, st12, gt13, st13, gt14, st14, gt15, st15, seqO, O.then, setO, putS, parO, dropO, retO, retL, ifO, setNO, retNO, appL, subO, unpO, R.toO, M.ret, M.bnd, M.lift, M.bin, M.un1, M.cons, M.bi, M.isB, M.notB, M.andB, M.orB, M.andV, M.orV, M.notV, M.ite, M.tup, M.frz, capL, M.call, M.callN, M.callI, M.callK, M.callD, callR, Sv.callN, Sv.callI, M.chain, M.idxT, M.idxL, rdVar, ixVar, lenVar, listAt, mutAt, putAt, hasS, startE, Tg.slots, setT, setVs, unS, isUn, mkTup, mkLst, iop, bop, addD, subD, negD, isiD, tyN, tb_int, tb_bool, tb_str, tb_tuple, tb_list, lenD, ixD, itemsS, items, tupleD, intD, max2D, min2D, isNoneD, notNoneD, isN, O.pur, O.inp, pick, rg1, rg2, atI, ixN, forO, forRO, M.lc, M.lcR, lcI, tYesM]
  · refine ⟨mixF b (c + 1) % n, a, c + 1, Int.emod_nonneg _ (by omega), Int.emod_lt_of_pos _ hn, ha, by omega, by omega, ?_⟩
    simp (disch := omega) [G_L_draw, B_L_draw, h, g_mixed, mul_ok, mod_ok, fdiv_ok, gt0, st0, gt1, st1, gt2, st2, gt3, st3, gt4, st4, gt5, st5, gt6, st6, gt7, st7, gt8, st8, gt9, st9, gt10, st10, gt11, st11, gt12, st12, gt13, st13, gt14, st14, gt15, st15, seqO, O.then, setO, putS, parO, dropO, retO, retL, ifO, setNO, retNO, appL, subO, unpO, R.toO, M.ret, M.bnd, M.lift, M.bin, M.un1, M.cons, M.bi, M.isB, M.notB, M.andB, M.orB, M.andV, M.orV, M.notV, M.ite, M.tup, M.frz, capL, M.call, M.callN, M.callI, M.callK, M.callD, callR, Sv.callN, Sv.callI, M.chain, M.idxT, M.idxL, rdVar, ixVar, lenVar, listAt, mutAt, putAt, hasS, startE, Tg.slots, setT, setVs, unS, isUn, mkTup, mkLst, iop, bop, addD, subD, negD, isiD, tyN, tb_int, tb_bool, tb_str, tb_tuple, tb_list, lenD, ixD, itemsS, items, tupleD, intD, max2D, min2D, isNoneD, notNoneD, isN, O.pur, O.inp, pick, rg1, rg2, atI, ixN, forO, forRO, M.lc, M.lcR, lcI, tYesM]
end Sv.pw_cellpictures_k01_ways_and_maps

set_option linter.all false
set_option maxRecDepth 100000
set_option maxHeartbeats 1000000
namespace Sv.pw_cellpictures_k01_ways_and_maps
open PySem L2 PyProof.Rows Sv
/-! ## walks -/
theorem lcL_cons {t : Tg} {g : M Dat} {d y : Dat} {ds acc : List Dat} {ρ ρ1 ρ3 : En} (e1 : setT t d ρ = some ρ1) (e2 : g ρ1 = .ok y ρ3) (hl : acc.length < 1000000) : lcL t tYesM g (d :: ds) acc ρ = lcL t tYesM g ds (acc ++ [y]) (unS t.slots ρ3) := by
  have e : tYesM ρ1 = .ok true ρ1 := rfl
  rw [lcL]
  simp only [e1, e, e2]
  rw [if_pos hl]
theorem lcL_map {t : Tg} {g : M Dat} {F : Dat → Dat} {ρ : En} : ∀ {ds acc : List Dat}, (∀ d ∈ ds, ∃ ρ1 ρ3, setT t d ρ = some ρ1 ∧ g ρ1 = .ok (F d) ρ3 ∧ unS t.slots ρ3 = ρ) → acc.length + ds.length ≤ 1000000 → lcL t tYesM g ds acc ρ = .ok (acc ++ ds.map F) ρ
  | [], acc, _, _ => by simp [lcL]
  | d :: ds, acc, h, hl => by
    obtain ⟨ρ1, ρ3, e1, e2, e3⟩ := h d List.mem_cons_self
    have hl' : acc.length + (ds.length + 1) ≤ 1000000 := hl
    rw [lcL_cons e1 e2 (by omega), e3, lcL_map (F := F) (fun d hd => h d (List.mem_cons_of_mem _ hd)) (by simp; omega)]
    simp
theorem lcL_inv {t : Tg} {g : M Dat} {R : Dat → Prop} {P : Nat → En → Prop} {ds0 : List Dat} (N : Nat) (step : ∀ d ∈ ds0, ∀ k ρ, k < N → P k ρ → ∃ ρ1 y ρ3, setT t d ρ = some ρ1 ∧ g ρ1 = .ok y ρ3 ∧ R y ∧ P (k + 1) (unS t.slots ρ3)) :
    ∀ {ds acc : List Dat} {k : Nat} {ρ : En}, (∀ d ∈ ds, d ∈ ds0) → P k ρ → k + ds.length ≤ N → acc.length + ds.length ≤ 1000000 → ∃ ys ρ', lcL t tYesM g ds acc ρ = .ok (acc ++ ys) ρ' ∧ P (k + ds.length) ρ' ∧ ys.length = ds.length ∧ ∀ y ∈ ys, R y
  | [], acc, k, ρ, _, hp, _, _ => ⟨[], ρ, by simp [lcL], hp, rfl, by simp⟩
  | d :: ds, acc, k, ρ, hm, hp, hN, hl => by
    have hN' : k + (ds.length + 1) ≤ N := hN
    obtain ⟨ρ1, y, ρ3, e1, e2, hr, hp'⟩ := step d (hm d List.mem_cons_self) k ρ (by omega) hp
    have hl' : acc.length + (ds.length + 1) ≤ 1000000 := hl
    obtain ⟨ys, ρ', e, p', l', r'⟩ := lcL_inv N step (ds := ds) (acc := acc ++ [y]) (fun d hd => hm d (List.mem_cons_of_mem _ hd)) hp' (by omega) (by simp; omega)
    refine ⟨y :: ys, ρ', ?_, ?_, ?_, ?_⟩
    · rw [lcL_cons e1 e2 (by omega), e]
      simp
    · have : k + (d :: ds).length = k + 1 + ds.length := by simp; omega
      rw [this]; exact p'
    · simp [l']
    · intro z hz
      rcases List.mem_cons.mp hz with rfl | hz
      · exact hr
      · exact r' z hz
theorem forL_inv {t : Tg} {b : En → O} {P : Nat → En → Prop} {ds0 : List Dat} (N : Nat) (step : ∀ d ∈ ds0, ∀ k ρ, k < N → P k ρ → ∃ ρ1 ρ2, setT t d ρ = some ρ1 ∧ b ρ1 = .nxt ρ2 ∧ P (k + 1) ρ2) :
    ∀ {ds : List Dat} {k : Nat} {ρ : En}, (∀ d ∈ ds, d ∈ ds0) → P k ρ → k + ds.length ≤ N → ∃ ρ', forL t b ds ρ = .nxt ρ' ∧ P (k + ds.length) ρ'
  | [], k, ρ, _, hp, _ => ⟨ρ, rfl, hp⟩
  | d :: ds, k, ρ, hm, hp, hN => by
    have hN' : k + (ds.length + 1) ≤ N := hN
    obtain ⟨ρ1, ρ2, e1, e2, hp'⟩ := step d (hm d List.mem_cons_self) k ρ (by omega) hp
    obtain ⟨ρ', e, p'⟩ := forL_inv N step (ds := ds) (fun d hd => hm d (List.mem_cons_of_mem _ hd)) hp' (by omega)
    refine ⟨ρ', ?_, ?_⟩
    · unfold forL
      simp only [e1, e2]
      exact e
    · have : k + (d :: ds).length = k + 1 + ds.length := by simp; omega
      rw [this]; exact p'
/-! ## grids -/
structure GS where
  h : Nat
  w : Nat
  f : Nat → Nat → Int
def rw (w : Nat) (r : Nat → Int) : Dat := .tup ((List.range w).map fun j => .int (r j))
def D (g : GS) : Dat := .tup ((List.range g.h).map fun i => rw g.w (g.f i))
def rot (g : GS) : GS := ⟨g.w, g.h, fun i j => g.f (g.h - 1 - j) i⟩
def mir (g : GS) : GS := ⟨g.h, g.w, fun i j => g.f i (g.w - 1 - j)⟩
structure Ok (g : GS) : Prop where
  h1 : 0 < g.h
  h2 : g.h ≤ 5
  w1 : 0 < g.w
  w2 : g.w ≤ 5
  p : ∀ i j, i < g.h → j < g.w → 0 ≤ g.f i j
theorem Ok.rot {g : GS} (k : Ok g) : Ok (rot g) := ⟨k.w1, k.w2, k.h1, k.h2, fun i j hi hj => k.p _ _ (by show g.h - 1 - j < g.h; have := k.h1; omega) hi⟩
theorem Ok.mir {g : GS} (k : Ok g) : Ok (mir g) := ⟨k.h1, k.h2, k.w1, k.w2, fun i j hi hj => k.p _ _ hi (by show g.w - 1 - j < g.w; have := k.w1; omega)⟩
theorem rw_congr {w : Nat} {r r' : Nat → Int} (h : ∀ j, j < w → r j = r' j) : rw w r = rw w r' := by
  unfold rw
  congr 1
  exact List.map_congr_left fun j hj => by rw [h j (List.mem_range.mp hj)]
theorem D_congr {h w : Nat} {f f' : Nat → Nat → Int} (k : ∀ i j, i < h → j < w → f i j = f' i j) : D ⟨h, w, f⟩ = D ⟨h, w, f'⟩ := by
  unfold D
  congr 1
  exact List.map_congr_left fun i hi => rw_congr fun j hj => k i j (List.mem_range.mp hi) hj
theorem rev_range {α : Type} (n : Nat) (F : Nat → α) : ((List.range n).map F).reverse = (List.range n).map fun i => F (n - 1 - i) := by
  apply List.ext_getElem
  · simp
  · intro i h1 h2
    simp at h1 h2
    simp
theorem lc_ev {f : M Dat} {t : Tg} {tt : M Bool} {g : M Dat} {ρ ρ1 : En} {d : Dat} {ds : List Dat} {r : R (List Dat)} (h1 : f ρ = .ok d ρ1) (h2 : items d = some ds) (h3 : t.slots.all (isUn ρ1) = true) (h : lcL t tt g ds [] (unS t.slots ρ1) = r) : M.lc f t tt g ρ = r := by
  unfold M.lc M.bnd
  rw [h1]
  simp only [h2]
  unfold lcI
  rw [if_pos h3, h]
theorem lcR_ev {rg : List Dat → Option (List Dat)} {ga : M (List Dat)} {t : Tg} {tt : M Bool} {g : M Dat} {ρ ρ1 : En} {as ds : List Dat} {r : R (List Dat)} (h1 : ga ρ = .ok as ρ1) (h2 : rg as = some ds) (h3 : t.slots.all (isUn ρ1) = true) (h : lcL t tt g ds [] (unS t.slots ρ1) = r) : M.lcR rg ga t tt g ρ = r := by
  unfold M.lcR M.bnd
  rw [h1]
  simp only [h2]
  unfold lcI
  rw [if_pos h3, h]
theorem forR_ev {rg : List Dat → Option (List Dat)} {ga : M (List Dat)} {t : Tg} {b : En → O} {ρ ρ1 : En} {as ds : List Dat} {r : O} (h1 : ga ρ = .ok as ρ1) (h2 : rg as = some ds) (h : forL t b ds ρ1 = r) : forRO rg ga t b ρ = r := by
  unfold forRO
  rw [h1]
  simp only [R.toO, h2, h]
theorem for_ev {f : M Dat} {t : Tg} {b : En → O} {ρ ρ1 : En} {d : Dat} {ds : List Dat} {r : O} (h1 : f ρ = .ok d ρ1) (h2 : items d = some ds) (h : forL t b ds ρ1 = r) : forO f t b ρ = r := by
  unfold forO
  rw [h1]
  simp only [R.toO, h2, h]
theorem items_D (g : GS) : items (D g) = some ((List.range g.h).map fun i => rw g.w (g.f i)) := rfl
theorem items_rw (w : Nat) (r : Nat → Int) : items (rw w r) = some ((List.range w).map fun j => .int (r j)) := rfl
theorem tuple_L (ds : List Dat) : tupleD [.lst ds] = some (.tup ds) := rfl
theorem k_mirrored {g : GS} (k : Ok g) : C_mirrored_1 [.val (D g), .un] = .ok ((List.range g.h).map fun i => rw g.w ((mir g).f i)) [.val (D g), .un] := by
  have := k.h2
  refine lc_ev rfl (items_D g) rfl ?_
  show lcL _ _ _ _ [] [.val (D g), .un] = _
  rw [lcL_map (F := fun d => match d with | .tup ds => .tup ds.reverse | d => d)]
  · simp [rw, rev_range, mir]
  · intro d hd
    obtain ⟨i, hi, rfl⟩ := List.mem_map.mp hd
    exact ⟨_, _, rfl, rfl, rfl⟩
  · simp; omega
theorem g_mirrored {g : GS} (k : Ok g) : G_mirrored [D g] = .ret (D (mir g)) [] := by
  show (B_mirrored [.val (D g), .un]).pur = _
  simp only [B_mirrored, k_mirrored k, retO, M.bi, M.bnd, M.cons, M.frz, M.ret, M.lift, R.toO, tuple_L, O.pur]
  rfl
end Sv.pw_cellpictures_k01_ways_and_maps

set_option linter.all false
set_option maxRecDepth 100000
set_option maxHeartbeats 1000000
namespace Sv.pw_cellpictures_k01_ways_and_maps
open PySem L2 PyProof.Rows Sv
theorem atI_map {α : Type} {n : Nat} {F : Nat → α} {i : Nat} (h : i < n) : atI ((List.range n).map F) (i : Int) = some (F i) := by
  unfold atI ixN
  rw [if_pos (Int.natCast_nonneg i), List.length_map, List.length_range, if_pos (by omega)]
  simp [h]
theorem atI_map0 {α : Type} {n : Nat} {F : Nat → α} (h : 0 < n) : atI ((List.range n).map F) 0 = some (F 0) := atI_map (i := 0) h
theorem atI_mapI {α : Type} {n : Nat} {F : Nat → α} {i : Int} (h0 : 0 ≤ i) (h : i < n) : atI ((List.range n).map F) i = some (F i.toNat) := by
  obtain ⟨k, rfl⟩ := Int.eq_ofNat_of_zero_le h0
  rw [atI_map (by omega)]
  rfl
theorem tupsD_map {R : Nat → List Dat} : ∀ l : List Nat, tupsD (l.map fun i => .tup (R i)) = some (l.map R)
  | [] => rfl
  | i :: l => by rw [List.map_cons, tupsD, tupsD_map l]; rfl
theorem g_zip {g : GS} (k : Ok g) : zipSD (D g) = some (.tup ((List.range g.w).map fun j => rw g.h (fun i => g.f i j))) := by
  obtain ⟨n, hn⟩ : ∃ n, g.h = n + 1 := ⟨g.h - 1, by have := k.h1; omega⟩
  have h2 := k.h2
  have w2 := k.w2
  unfold zipSD D rw
  simp only []
  rw [tupsD_map (R := fun i => (List.range g.w).map fun j => Dat.int (g.f i j))]
  rw [hn, List.range_succ_eq_map, List.map_cons]
  simp only []
  rw [if_pos ⟨by simp, by simp; omega, by simp; exact k.w1, by simp; omega⟩]
  congr 2
  unfold zipCols
  simp only [List.length_map, List.length_range]
  refine List.map_congr_left fun j hj => ?_
  have hj := List.mem_range.mp hj
  simp [List.getD, hj]
def flip (g : GS) : GS := ⟨g.h, g.w, fun i j => g.f (g.h - 1 - i) j⟩
theorem Ok.flip {g : GS} (k : Ok g) : Ok (flip g) := ⟨k.h1, k.h2, k.w1, k.w2, fun i j hi hj => k.p _ _ (by show g.h - 1 - i < g.h; have := k.h1; omega) hj⟩
theorem rev_D (g : GS) : revD (D g) = some (D (flip g)) := by
  unfold revD D
  simp only [rev_range]
  rfl
theorem g_turned_once {g : GS} (k : Ok g) : G_turned_once [D g] = .ret (D (rot g)) [] := by
  show (B_turned_once [.val (D g), .un]).pur = _
  simp [B_turned_once, rev_D, g_zip k.flip, seqO, O.then, setO, putS, R.toO, retO, M.un1, M.bnd, M.lift, rdVar, O.pur]
  rfl
theorem ix_D {g : GS} {i : Int} (h0 : 0 ≤ i) (h : i < g.h) : ixD (D g) (.int i) = some (rw g.w (g.f i.toNat)) := by
  unfold ixD D itemsS
  simp only []
  rw [atI_mapI h0 h]
theorem ix_rw {w : Nat} {r : Nat → Int} {i : Int} (h0 : 0 ≤ i) (h : i < w) : ixD (rw w r) (.int i) = some (.int (r i.toNat)) := by
  unfold ixD rw itemsS
  simp only []
  rw [atI_mapI h0 h]
theorem len_D (g : GS) : lenD [D g] = some (.int g.h) := by unfold D lenD; simp
theorem len_rw (w : Nat) (r : Nat → Int) : lenD [rw w r] = some (.int w) := by unfold rw lenD; simp
theorem rgL_eq (n : Nat) : rgL 0 n = (List.range n).map fun i => Dat.int (i : Nat) := by unfold rgL; simp
theorem rg1_nat {n : Nat} (h : n < 1000000) : rg1 [.int n] = some ((List.range n).map fun i => Dat.int (i : Nat)) := by
  unfold rg1
  simp only []
  rw [if_pos (inR_of ⟨by omega, by omega⟩), Int.toNat_natCast, rgL_eq]
theorem kE_quarter {g : GS} (k : Ok g) {j : Int} (h0 : 0 ≤ j) (h : j < g.w) : C_L_quarter_1 [.val (D g), .val (.int j), .un] = .ok ((List.range g.h).map fun i => .int (g.f (g.h - 1 - i) j.toNat)) [.val (D g), .val (.int j), .un] := by
  have h2 := k.h2
  refine lc_ev (d := D (flip g)) (ρ1 := [.val (D g), .val (.int j), .un]) ?_ (items_D _) rfl ?_
  · simp only [M.un1, M.bnd, rdVar, gt0, rev_D, M.lift]
  show lcL _ _ _ _ [] [.val (D g), .val (.int j), .un] = _
  rw [lcL_map (F := fun d => ((ixD d (.int j)).getD .non))]
  · simp [ix_rw h0 h, flip]
  · intro d hd
    obtain ⟨i, hi, rfl⟩ := List.mem_map.mp hd
    refine ⟨_, [.val (D g), .val (.int j), .val (rw g.w ((flip g).f i))], rfl, ?_, rfl⟩
    have e := ix_rw (r := (flip g).f i) h0 h
    show E_L_quarter_0 [.val (D g), .val (.int j), .val (rw g.w ((flip g).f i))] = .ok ((ixD (rw g.w ((flip g).f i)) (.int j)).getD .non) _
    simp only [E_L_quarter_0, M.bin, M.bnd, rdVar, M.lift, gt0, gt1, gt2, e, Option.getD]
  · have : (flip g).h = g.h := rfl
    simp [this]; omega
theorem e_quarter {g : GS} (k : Ok g) {j : Int} (h0 : 0 ≤ j) (h : j < g.w) : E_L_quarter_2 [.val (D g), .val (.int j), .un] = .ok (rw g.h fun i => g.f (g.h - 1 - i) j.toNat) [.val (D g), .val (.int j), .un] := by
  simp only [E_L_quarter_2, kE_quarter k h0 h, M.bi, M.bnd, M.cons, M.frz, M.ret, M.lift, tuple_L]
  rfl
theorem key_quarter {g : GS} (k : Ok g) : C_L_quarter_3 [.val (D g), .un, .un] = .ok ((List.range g.w).map fun i => rw g.h ((rot g).f i)) [.val (D g), .un, .un] := by
  have w2 := k.w2
  have h1 := k.h1
  have e0 := ix_D (g := g) (i := 0) (Int.le_refl _) (Int.ofNat_lt.mpr h1)
  refine lcR_ev (as := [.int g.w]) (ρ1 := [.val (D g), .un, .un]) ?_ (rg1_nat (Nat.lt_of_le_of_lt w2 (by decide))) rfl ?_
  · simp only [M.cons, M.bi, M.bin, M.bnd, rdVar, gt0, e0, M.ret, M.lift, len_rw]
  show lcL _ _ _ _ [] [.val (D g), .un, .un] = _
  rw [lcL_map (F := fun d => match d with | .int j => rw g.h fun i => g.f (g.h - 1 - i) j.toNat | d => d)]
  · simp [rot]
  · intro d hd
    obtain ⟨i, hi, rfl⟩ := List.mem_map.mp hd
    have hi := List.mem_range.mp hi
    exact ⟨_, _, rfl, e_quarter k (Int.natCast_nonneg i) (Int.ofNat_lt.mpr hi), rfl⟩
  · simp; omega
theorem g_quarter {g : GS} (k : Ok g) : G_L_quarter [D g] = .ret (D (rot g)) [] := by
  show (B_L_quarter [.val (D g), .un, .un]).pur = _
  simp only [B_L_quarter, key_quarter k, retO, M.bi, M.bnd, M.cons, M.frz, M.ret, M.lift, R.toO, tuple_L, O.pur]
  rfl
end Sv.pw_cellpictures_k01_ways_and_maps

set_option linter.all false
set_option maxRecDepth 100000
set_option maxHeartbeats 1000000
namespace Sv.pw_cellpictures_k01_ways_and_maps
open PySem L2 PyProof.Rows Sv
def rotn : Nat → GS → GS
  | 0, g => g
  | n + 1, g => rotn n (rot g)
def T (t : Int) (g : GS) : GS := rotn (t % 4).toNat (if 4 ≤ t then mir g else g)
theorem Ok.rotn : ∀ (n : Nat) {g : GS}, Ok g → Ok (rotn n g)
  | 0, _, k => k
  | n + 1, _, k => Ok.rotn n k.rot
theorem Ok.T (t : Int) {g : GS} (k : Ok g) : Ok (T t g) := by
  unfold pw_cellpictures_k01_ways_and_maps.T
  split
  · exact Ok.rotn _ k.mir
  · exact Ok.rotn _ k
theorem f_rot {L : En → O} {a b : Sl} {tl : En} (h : ∀ g, Ok g → ∀ d, L (a :: b :: .val (D g) :: .val d :: tl) = .nxt (a :: b :: .val (D (rot g)) :: .val d :: tl)) :
    ∀ (ds : List Dat) (g : GS) (s : Sl), Ok g → (s = .un ∨ ∃ d, s = .val d) → ∃ s', forL (.one 3) L ds (a :: b :: .val (D g) :: s :: tl) = .nxt (a :: b :: .val (D (rotn ds.length g)) :: s' :: tl)
  | [], g, s, _, _ => ⟨s, rfl⟩
  | d :: ds, g, s, k, hs => by
    have e : setT (.one 3) d (a :: b :: .val (D g) :: s :: tl) = some (a :: b :: .val (D g) :: .val d :: tl) := by
      rcases hs with rfl | ⟨d', rfl⟩ <;> rfl
    obtain ⟨s', q⟩ := f_rot h ds (rot g) (.val d) k.rot (.inr ⟨d, rfl⟩)
    refine ⟨s', ?_⟩
    rw [forL]
    simp only [e, h g k d]
    exact q
theorem rg1_int {n : Int} (h : 0 ≤ n) (h2 : n < 1000000) : rg1 [.int n] = some (rgL 0 n.toNat) := by
  unfold rg1
  simp only []
  rw [if_pos (inR_of ⟨by omega, by omega⟩)]
theorem k_by1 {g : GS} (k : Ok g) (b : Sl) : C_L_by_1 [.val (D g), b, .un, .un, .un] = .ok ((List.range g.h).map fun i => rw g.w (g.f i)) [.val (D g), b, .un, .un, .un] := by
  have := k.h2
  refine lc_ev rfl (items_D g) rfl ?_
  show lcL _ _ _ _ [] [.val (D g), b, .un, .un, .un] = _
  rw [lcL_map (F := fun d => d)]
  · simp
  · intro d hd
    obtain ⟨i, hi, rfl⟩ := List.mem_map.mp hd
    exact ⟨_, _, rfl, rfl, rfl⟩
  · simp; omega
theorem k_by3 {g : GS} (k : Ok g) (a b : Sl) : C_L_by_3 [a, b, .val (D g), .un, .un] = .ok ((List.range g.h).map fun i => rw g.w ((mir g).f i)) [a, b, .val (D g), .un, .un] := by
  have := k.h2
  refine lc_ev rfl (items_D g) rfl ?_
  show lcL _ _ _ _ [] [a, b, .val (D g), .un, .un] = _
  rw [lcL_map (F := fun d => match d with | .tup ds => .tup ds.reverse | d => d)]
  · simp [rw, rev_range, mir]
  · intro d hd
    obtain ⟨i, hi, rfl⟩ := List.mem_map.mp hd
    exact ⟨_, _, rfl, rfl, rfl⟩
  · simp; omega
theorem k_by5 {g : GS} (k : Ok g) (a : Sl) {t : Int} (h0 : 0 ≤ t) : ∃ s', F_L_by_5 [a, .val (.int t), .val (D g), .un, .un] = .nxt [a, .val (.int t), .val (D (rotn (t % 4).toNat g)), s', .un] := by
  obtain ⟨s', e⟩ := f_rot (L := L_L_by_4) (a := a) (b := .val (.int t)) (tl := [.un]) (fun g k d => by
    simp only [L_L_by_4, setO, putS, M.call, M.cons, M.bnd, M.ret, rdVar, gt2, List.append_nil, g_quarter k, callR, R.toO, st2]) (rgL 0 (t % 4).toNat) g .un k (.inl rfl)
  refine ⟨s', ?_⟩
  rw [rgL_len] at e
  refine forR_ev (as := [.int (t % 4)]) ?_ (rg1_int (by omega) (by omega)) e
  simp only [M.cons, M.bin, M.bnd, M.ret, rdVar, gt1, M.lift, mod_ok (show (0 : Int) < 4 by decide)]
theorem g_by {g : GS} (k : Ok g) {t : Int} (h0 : 0 ≤ t) : G_L_by [D g, .int t] = .ret (D (T t g)) [] := by
  show (B_L_by [.val (D g), .val (.int t), .un, .un, .un]).pur = _
  by_cases h4 : 4 ≤ t
  · obtain ⟨s', e⟩ := k_by5 k.mir (.val (D g)) h0
    have m1 : Dat.tup ((List.range g.h).map fun i => rw g.w (g.f i)) = D g := rfl
    have m2 : Dat.tup ((List.range g.h).map fun i => rw g.w ((mir g).f i)) = D (mir g) := rfl
    simp only [B_L_by, seqO, O.then, setO, putS, k_by1 k, k_by3 k, m1, m2, e, ifO, retO, M.isB, M.bin, M.bi, M.bnd, M.cons, M.frz, M.ret, M.lift, R.toO, tuple_L, O.pur, gt2, st2, gt1, rdVar, bop, h4, decide_true, if_true, T]
  · obtain ⟨s', e⟩ := k_by5 k (.val (D g)) h0
    have m1 : Dat.tup ((List.range g.h).map fun i => rw g.w (g.f i)) = D g := rfl
    simp only [B_L_by, seqO, O.then, setO, putS, k_by1 k, m1, e, ifO, retO, M.isB, M.bin, M.bi, M.bnd, M.cons, M.frz, M.ret, M.lift, R.toO, tuple_L, O.pur, gt2, st2, gt1, rdVar, bop, h4, decide_false, if_false, Bool.false_eq_true, T]
abbrev fcD : Dat := .fn "is_count"
theorem callV_ev {i : Nat} {ga : M (List Dat)} {tbl : List (Str × (List Dat → O))} {ρ ρ1 : En} {d r : Dat} {G : List Dat → O} {ds : List Dat} (h1 : rdVar i ρ = .ok d ρ) (h2 : fnAt tbl d = some G) (h3 : ga ρ = .ok ds ρ1) (h4 : G ds = .ret r []) : M.callV i ga tbl ρ = .ok r ρ1 := by
  unfold M.callV M.bnd
  rw [h1]
  simp only [h2, h3, h4, callR]
theorem fn_at : fnAt [("is_count", G_is_count)] fcD = some G_is_count := by simp [fnAt, List.lookup]
theorem k_row {w : Nat} {r : Nat → Int} (hw : w ≤ 5) (h : ∀ j, j < w → 0 ≤ r j) : C_is_row_1 [.val (rw w r), .val fcD, .un] = .ok ((List.range w).map fun _ => .bl true) [.val (rw w r), .val fcD, .un] := by
  refine lc_ev rfl (items_rw w r) rfl ?_
  show lcL _ _ _ _ [] [.val (rw w r), .val fcD, .un] = _
  rw [lcL_map (F := fun d => .bl true)]
  · simp
  · intro d hd
    obtain ⟨i, hi, rfl⟩ := List.mem_map.mp hd
    refine ⟨_, [.val (rw w r), .val fcD, .val (.int (r i))], rfl, ?_, rfl⟩
    have e := g_is_count (r i)
    rw [decide_eq_true (h i (List.mem_range.mp hi))] at e
    exact callV_ev (ρ := [.val (rw w r), .val fcD, .val (.int (r i))]) (ds := [.int (r i)]) rfl fn_at rfl e
  · simp; omega
theorem all_true : ∀ n : Nat, allD [.lst ((List.range n).map fun _ => .bl true)] = some (.bl true) := by
  intro n
  have : ∀ l : List Nat, bools (l.map fun _ => Dat.bl true) = some (l.map fun _ => true) := by
    intro l
    induction l with
    | nil => rfl
    | cons a l ih => simp only [List.map_cons, bools, ih]; rfl
  unfold allD
  simp only [this]
  simp
theorem g_is_row {w : Nat} {r : Nat → Int} (h0 : 0 < w) (hw : w ≤ 5) (h : ∀ j, j < w → 0 ≤ r j) : G_is_row [rw w r, fcD] = .ret (.bl true) [] := by
  show (B_is_row [.val (rw w r), .val fcD, .un]).pur = _
  have e : isiD tb_tuple (rw w r) = some (.bl true) := rfl
  have e2 : (decide ((0 : Int) < (w : Int))) = true := by simp; omega
  simp only [B_is_row, retO, M.andV, M.un1, M.isB, M.bin, M.bi, M.bnd, M.cons, M.frz, M.ret, M.lift, R.toO, O.pur, rdVar, gt0, len_rw, e, bop, e2, if_true, k_row hw h, all_true]
theorem neD_int {i j : Int} : neD (.int i) (.int j) = some (.bl (!(i == j))) := rfl
theorem eqD_int {i j : Int} : eqD (.int i) (.int j) = some (.bl (i == j)) := rfl
theorem k_is_map {g : GS} (k : Ok g) : ∃ s, F_is_grid_1 [.val (D g), .val fcD, .un] = .nxt [.val (D g), .val fcD, s] := by
  have : ∀ ds : List Dat, (∀ d ∈ ds, d ∈ (List.range g.h).map fun i => rw g.w (g.f i)) → ∀ s : Sl, (s = .un ∨ ∃ d, s = .val d) → ∃ s', forL (.one 2) L_is_grid_0 ds [.val (D g), .val fcD, s] = .nxt [.val (D g), .val fcD, s'] := by
    intro ds
    induction ds with
    | nil => exact fun _ s _ => ⟨s, rfl⟩
    | cons d ds ih =>
      intro hm s hs
      have e : setT (.one 2) d [.val (D g), .val fcD, s] = some [.val (D g), .val fcD, .val d] := by rcases hs with rfl | ⟨d', rfl⟩ <;> rfl
      obtain ⟨s', q⟩ := ih (fun d hd => hm d (List.mem_cons_of_mem _ hd)) (.val d) (.inr ⟨d, rfl⟩)
      refine ⟨s', ?_⟩
      obtain ⟨i, hi, rfl⟩ := List.mem_map.mp (hm d List.mem_cons_self)
      have hi := List.mem_range.mp hi
      have e0 := ix_D (g := g) (i := 0) (Int.le_refl _) (Int.ofNat_lt.mpr k.h1)
      have eb : L_is_grid_0 [.val (D g), .val fcD, .val (rw g.w (g.f i))] = .nxt [.val (D g), .val fcD, .val (rw g.w (g.f i))] := by
        simp only [L_is_grid_0, ifO, M.orB, M.notB, M.isB, M.call, M.bin, M.bi, M.bnd, M.cons, M.ret, M.lift, R.toO, rdVar, gt0, gt1, gt2, List.append_nil, g_is_row k.w1 k.w2 (fun j hj => k.p i j hi hj), callR, len_rw, e0, neD_int, Bool.not_true, Bool.false_eq_true, if_false, beq_self_eq_true]
      rw [forL]
      simp only [e, eb]
      exact q
  obtain ⟨s, e⟩ := this _ (fun _ h => h) .un (.inl rfl)
  exact ⟨s, for_ev rfl (items_D g) e⟩
theorem g_is_map {g : GS} (k : Ok g) : G_is_grid [D g, fcD] = .ret (.bl true) [] := by
  show (B_is_grid [.val (D g), .val fcD, .un]).pur = _
  obtain ⟨s, e⟩ := k_is_map k
  have e1 : isiD tb_tuple (D g) = some (.bl true) := rfl
  have e2 : ((g.h : Int) == 0) = false := by have := k.h1; simp; omega
  simp only [B_is_grid, seqO, O.then, retO, ifO, M.orB, M.notB, M.un1, M.isB, M.bin, M.bi, M.bnd, M.cons, M.ret, M.lift, R.toO, O.pur, rdVar, gt0, len_D, e, e1, eqD_int, e2, Bool.not_true, Bool.false_eq_true, if_false]
theorem g_check_map {g : GS} (k : Ok g) : G_check_map [D g] = .ret .non [] := by
  show (B_check_map [.val (D g)]).pur = _
  simp only [B_check_map, ifO, M.notB, M.isB, M.call, M.bnd, M.cons, M.ret, M.lift, R.toO, O.pur, rdVar, gt0, List.append_nil, g_is_map k, callR, Bool.not_true, Bool.false_eq_true, if_false]
theorem g_turned_map {g : GS} (k : Ok g) {t : Int} (h0 : 0 ≤ t) (h8 : t < 8) : G_turned_map [D g, .int t] = .ret (D (T t g)) [] := by
  show (B_turned_map [.val (D g), .val (.int t), .un, .un]).pur = _
  have loop : ∀ g1 : GS, Ok g1 → ∃ s', F_turned_map_1 [.val (D g), .val (.int t), .val (D g1), .un] = .nxt [.val (D g), .val (.int t), .val (D (rotn (t % 4).toNat g1)), s'] := fun g1 k1 => by
    obtain ⟨s', e⟩ := f_rot (L := L_turned_map_0) (a := .val (D g)) (b := .val (.int t)) (tl := []) (fun g k d => by
      simp only [L_turned_map_0, setO, putS, M.call, M.cons, M.bnd, M.ret, rdVar, gt2, List.append_nil, g_turned_once k, callR, R.toO, st2]) (rgL 0 (t % 4).toNat) g1 .un k1 (.inl rfl)
    refine ⟨s', ?_⟩
    rw [rgL_len] at e
    refine forR_ev (as := [.int (t % 4)]) ?_ (rg1_int (by omega) (by omega)) e
    simp only [M.cons, M.bin, M.bnd, M.ret, rdVar, gt1, M.lift, mod_ok (show (0 : Int) < 4 by decide)]
  by_cases h4 : 4 ≤ t
  · obtain ⟨s', e⟩ := loop _ k.mir
    have h4' : ¬ t < 4 := by omega
    simp only [B_turned_map, seqO, O.then, dropO, setO, putS, retO, M.ite, M.isB, M.bin, M.call, M.bnd, M.cons, M.ret, M.lift, R.toO, O.pur, rdVar, gt0, gt1, gt2, st2, List.append_nil, g_check_map k, g_check_way h0 h8, g_mirrored k, callR, bop, h4', decide_false, Bool.false_eq_true, if_false, e, T, h4, if_true]
  · obtain ⟨s', e⟩ := loop _ k
    have h4' : t < 4 := by omega
    simp only [B_turned_map, seqO, O.then, dropO, setO, putS, retO, M.ite, M.isB, M.bin, M.call, M.bnd, M.cons, M.ret, M.lift, R.toO, O.pur, rdVar, gt0, gt1, gt2, st2, List.append_nil, g_check_map k, g_check_way h0 h8, callR, bop, h4', decide_true, if_true, e, T, h4, if_false]
end Sv.pw_cellpictures_k01_ways_and_maps

set_option linter.all false
set_option maxRecDepth 100000
set_option maxHeartbeats 1000000
namespace Sv.pw_cellpictures_k01_ways_and_maps
open PySem L2 PyProof.Rows Sv
/-! ## equal data -/
def lay (n : Nat) (d : Dat) : Prop := d.py.canLay0 = true ∧ d.py.depth ≤ n ∧ d.plain = true
theorem lay_int {n : Nat} (i : Int) : lay n (.int i) := ⟨rfl, Nat.zero_le _, rfl⟩
theorem lay_non {n : Nat} : lay n .non := ⟨rfl, Nat.zero_le _, rfl⟩
theorem lay_tup {n : Nat} {ds : List Dat} (h : ∀ d ∈ ds, lay n d) : lay (n + 1) (.tup ds) := by
  have key : ∀ ds : List Dat, (∀ d ∈ ds, lay n d) → PyData.canLayAll0 (Dat.pys ds) = true ∧ PyData.depthAll (Dat.pys ds) ≤ n ∧ Dat.plains ds = true := by
    intro ds
    induction ds with
    | nil => exact fun _ => ⟨rfl, Nat.zero_le _, rfl⟩
    | cons d ds ih =>
      intro h
      obtain ⟨a, b, c⟩ := ih fun d hd => h d (List.mem_cons_of_mem _ hd)
      obtain ⟨a', b', c'⟩ := h d List.mem_cons_self
      refine ⟨?_, ?_, ?_⟩
      · show (d.py.canLay0 && PyData.canLayAll0 (Dat.pys ds)) = true
        rw [a, a']; rfl
      · show max d.py.depth (PyData.depthAll (Dat.pys ds)) ≤ n
        omega
      · show (d.plain && Dat.plains ds) = true
        rw [c, c']; rfl
  obtain ⟨a, b, c⟩ := key ds h
  exact ⟨a, Nat.succ_le_succ b, c⟩
theorem okE_of {n : Nat} {d : Dat} (h : lay n d) (hn : n ≤ 64) : okE d = true := by
  unfold okE SeqAt.shaped
  rw [h.1, decide_eq_true (Nat.le_trans h.2.1 hn), h.2.2]
  rfl
theorem eqB_self {n : Nat} {d : Dat} (h : lay n d) : eqB d d = true := PySem.SeqAt.eqv_refl _ h.1
theorem eqD_self {d : Dat} (h : lay 5 d) : eqD d d = some (.bl true) := by
  unfold eqD
  rw [if_pos ⟨okE_of h (by decide), okE_of h (by decide)⟩, eqB_self h]
theorem neD_self {d : Dat} (h : lay 5 d) : neD d d = some (.bl false) := by
  unfold neD
  rw [if_pos ⟨okE_of h (by decide), okE_of h (by decide)⟩, eqB_self h]
  rfl
theorem lay_up {n m : Nat} {d : Dat} (h : lay n d) (k : n ≤ m) : lay m d := ⟨h.1, Nat.le_trans h.2.1 k, h.2.2⟩
theorem lay_rw (w : Nat) (r : Nat → Int) : lay 1 (rw w r) := lay_tup fun d hd => by
  obtain ⟨j, _, rfl⟩ := List.mem_map.mp hd
  exact lay_int _
theorem lay_D (g : GS) : lay 2 (D g) := lay_tup fun d hd => by
  obtain ⟨j, _, rfl⟩ := List.mem_map.mp hd
  exact lay_rw _ _
/-! ## windows -/
def eS (b : Bool) : Str := if b then "wrap" else "open"
def eD (a b : Bool) : Dat := .tup [.str (eS a), .str (eS b)]
def lineB (wrap : Bool) (n : Nat) (i : Int) : Option Int := if wrap = true then some (i % n) else if 0 ≤ i ∧ i < n then some i else none
def lineD (wrap : Bool) (n : Nat) (i : Int) : Dat := match lineB wrap n i with
  | some k => .int k
  | none => .non
def kindS (g : GS) (a d : Bool) (r c : Int) : Dat := match lineB d g.h r, lineB a g.w c with
  | some i, some j => .int (g.f i.toNat j.toNat)
  | _, _ => .non
theorem lay_kindS (g : GS) (a d : Bool) (r c : Int) : lay 0 (kindS g a d r c) := by
  unfold kindS
  split
  · exact lay_int _
  · exact lay_non
theorem eq_wrap : ∀ b : Bool, eqD (.str (eS b)) (.str "wrap") = some (.bl b)
  | true => by kernel_rfl
  | false => by kernel_rfl
theorem g_line_at {n : Nat} (hn : 0 < n) (i : Int) (b : Bool) : G_line_at [.int i, .int n, .str (eS b)] = .ret (lineD b n i) [] := by
  show (B_line_at [.val (.int i), .val (.int n), .val (.str (eS b))]).pur = _
  cases b with
  | true =>
    simp only [B_line_at, seqO, O.then, ifO, retO, M.isB, M.bin, M.bnd, M.ret, M.lift, R.toO, O.pur, rdVar, gt0, gt1, gt2, eq_wrap, if_true, mod_ok (show (0 : Int) < n by omega), lineD, lineB]
  | false =>
    by_cases h : 0 ≤ i
    · by_cases h2 : i < n
      · simp only [B_line_at, seqO, O.then, ifO, retO, M.isB, M.bin, M.ite, M.chain, M.bnd, M.ret, M.lift, R.toO, O.pur, rdVar, gt0, gt1, gt2, eq_wrap, Bool.false_eq_true, if_false, if_true, bop, h, h2, decide_true, lineD, lineB, and_self]
      · simp only [B_line_at, seqO, O.then, ifO, retO, M.isB, M.bin, M.ite, M.chain, M.bnd, M.ret, M.lift, R.toO, O.pur, rdVar, gt0, gt1, gt2, eq_wrap, Bool.false_eq_true, if_false, if_true, bop, h, h2, decide_true, decide_false, lineD, lineB, and_false]
    · simp only [B_line_at, seqO, O.then, ifO, retO, M.isB, M.bin, M.ite, M.chain, M.bnd, M.ret, M.lift, R.toO, O.pur, rdVar, gt0, gt1, gt2, eq_wrap, Bool.false_eq_true, if_false, if_true, bop, h, decide_false, lineD, lineB, false_and]
theorem lineB_some {b : Bool} {n : Nat} {i k : Int} (hn : 0 < n) (h : lineB b n i = some k) : 0 ≤ k ∧ k < n := by
  unfold lineB at h
  split at h
  · cases h
    exact ⟨Int.emod_nonneg _ (by omega), Int.emod_lt_of_pos _ (by omega)⟩
  · split at h
    · cases h; assumption
    · cases h
theorem g_kind_at {g : GS} (k : Ok g) (a d : Bool) (r c : Int) : G_kind_at [D g, .int r, .int c, eD a d] = .ret (kindS g a d r c) [] := by
  have e0 := ix_D (g := g) (i := 0) (Int.le_refl _) (Int.ofNat_lt.mpr k.h1)
  show (B_kind_at [.val (D g), .val (.int r), .val (.int c), .val (eD a d), .un, .un, .un, .un]).pur = _
  have es : setT (.tup [4, 5]) (eD a d) [.val (D g), .val (.int r), .val (.int c), .val (eD a d), .un, .un, .un, .un] = some [.val (D g), .val (.int r), .val (.int c), .val (eD a d), .val (.str (eS a)), .val (.str (eS d)), .un, .un] := rfl
  cases h1 : lineB d g.h r with
  | none =>
    have l1 : lineD d g.h r = .non := by unfold lineD; rw [h1]
    simp only [B_kind_at, unpO, seqO, O.then, setO, putS, ifO, retO, M.call, M.orB, M.isB, M.bin, M.bi, M.cons, M.bnd, M.ret, M.lift, R.toO, O.pur, rdVar, gt0, gt1, gt2, gt3, gt4, gt5, gt6, gt7, st6, st7, List.append_nil, es, len_D, g_line_at k.h1, g_line_at k.w1, callR, e0, len_rw, l1, isNoneD, isN, if_true, kindS, h1]
  | some i =>
    have l1 : lineD d g.h r = .int i := by unfold lineD; rw [h1]
    have b1 := lineB_some k.h1 h1
    cases h2 : lineB a g.w c with
    | none =>
      have l2 : lineD a g.w c = .non := by unfold lineD; rw [h2]
      simp only [B_kind_at, unpO, seqO, O.then, setO, putS, ifO, retO, M.call, M.orB, M.isB, M.bin, M.bi, M.cons, M.bnd, M.ret, M.lift, R.toO, O.pur, rdVar, gt0, gt1, gt2, gt3, gt4, gt5, gt6, gt7, st6, st7, List.append_nil, es, len_D, g_line_at k.h1, g_line_at k.w1, callR, e0, len_rw, l1, l2, isNoneD, isN, if_true, Bool.false_eq_true, if_false, kindS, h1, h2]
    | some j =>
      have l2 : lineD a g.w c = .int j := by unfold lineD; rw [h2]
      have b2 := lineB_some k.w1 h2
      simp only [B_kind_at, unpO, seqO, O.then, setO, putS, ifO, retO, M.call, M.orB, M.isB, M.bin, M.bi, M.cons, M.bnd, M.ret, M.lift, R.toO, O.pur, rdVar, gt0, gt1, gt2, gt3, gt4, gt5, gt6, gt7, st6, st7, List.append_nil, es, len_D, g_line_at k.h1, g_line_at k.w1, callR, e0, len_rw, l1, l2, isNoneD, isN, if_true, Bool.false_eq_true, if_false, kindS, h1, h2, ix_D b1.1 b1.2, ix_rw b2.1 b2.2]
theorem g_L_kind {g : GS} (k : Ok g) (a d : Bool) (r c : Int) : G_L_kind [D g, eD a d, .int r, .int c] = .ret (kindS g a d r c) [] := by
  have e0 := ix_D (g := g) (i := 0) (Int.le_refl _) (Int.ofNat_lt.mpr k.h1)
  have i1 : ixD (eD a d) (.int 1) = some (.str (eS d)) := rfl
  have i0 : ixD (eD a d) (.int 0) = some (.str (eS a)) := rfl
  have n1 : ∀ i : Int, intD [.int i] = some (.int i) := fun _ => rfl
  have mh : (0 : Int) < g.h := by have := k.h1; omega
  have mw : (0 : Int) < g.w := by have := k.w1; omega
  show (B_L_kind [.val (D g), .val (eD a d), .val (.int r), .val (.int c)]).pur = _
  -- the last part, for the places as they are then
  have fin : ∀ (r' c' : Int), ((seqO (ifO (M.andB (M.chain (M.ret (.int 0)) (rdVar 2) (M.bi (M.cons (rdVar 0) ((M.ret []))) lenD) leD ltD).isB (M.chain (M.ret (.int 0)) (rdVar 3) (M.bi (M.cons (M.bin (rdVar 0) (M.ret (.int 0)) ixD) ((M.ret []))) lenD) leD ltD).isB) (retO (M.bin (M.bin (rdVar 0) (rdVar 2) ixD) (rdVar 3) ixD)) O.nxt)
    (retO (M.ret .non))) [.val (D g), .val (eD a d), .val (.int r'), .val (.int c')]).pur = .ret (match (if 0 ≤ r' ∧ r' < g.h then some r' else none), (if 0 ≤ c' ∧ c' < g.w then some c' else none) with | some i, some j => .int (g.f i.toNat j.toNat) | _, _ => .non) [] := by
    intro r' c'
    by_cases h1 : 0 ≤ r'
    · by_cases h2 : r' < g.h
      · by_cases h3 : 0 ≤ c'
        · by_cases h4 : c' < g.w
          · simp only [seqO, O.then, ifO, retO, M.andB, M.isB, M.bin, M.bi, M.cons, M.chain, M.bnd, M.ret, M.lift, R.toO, O.pur, rdVar, gt0, gt1, gt2, gt3, bop, len_D, e0, len_rw, h1, h2, h3, h4, decide_true, if_true, and_self, ix_D h1 h2, ix_rw h3 h4]
          · simp only [seqO, O.then, ifO, retO, M.andB, M.isB, M.bin, M.bi, M.cons, M.chain, M.bnd, M.ret, M.lift, R.toO, O.pur, rdVar, gt0, gt1, gt2, gt3, bop, len_D, e0, len_rw, h1, h2, h3, h4, decide_true, decide_false, if_true, Bool.false_eq_true, if_false, and_self, and_false]
        · simp only [seqO, O.then, ifO, retO, M.andB, M.isB, M.bin, M.bi, M.cons, M.chain, M.bnd, M.ret, M.lift, R.toO, O.pur, rdVar, gt0, gt1, gt2, gt3, bop, len_D, e0, len_rw, h1, h2, h3, decide_true, decide_false, if_true, Bool.false_eq_true, if_false, and_self, false_and]
      · simp only [seqO, O.then, ifO, retO, M.andB, M.isB, M.bin, M.bi, M.cons, M.chain, M.bnd, M.ret, M.lift, R.toO, O.pur, rdVar, gt0, gt1, gt2, gt3, bop, len_D, e0, len_rw, h1, h2, decide_true, decide_false, if_true, Bool.false_eq_true, if_false, and_false]
    · simp only [seqO, O.then, ifO, retO, M.andB, M.isB, M.bin, M.bi, M.cons, M.chain, M.bnd, M.ret, M.lift, R.toO, O.pur, rdVar, gt0, gt1, gt2, gt3, bop, len_D, e0, len_rw, h1, decide_true, decide_false, if_true, Bool.false_eq_true, if_false, false_and]
  have pr : (0 ≤ r % (g.h : Int) ∧ r % (g.h : Int) < g.h) := ⟨Int.emod_nonneg _ (by omega), Int.emod_lt_of_pos _ mh⟩
  have pc : (0 ≤ c % (g.w : Int) ∧ c % (g.w : Int) < g.w) := ⟨Int.emod_nonneg _ (by omega), Int.emod_lt_of_pos _ mw⟩
  have go : ∀ (r' c' : Int), B_L_kind [.val (D g), .val (eD a d), .val (.int r), .val (.int c)] = ((seqO (ifO (M.andB (M.chain (M.ret (.int 0)) (rdVar 2) (M.bi (M.cons (rdVar 0) ((M.ret []))) lenD) leD ltD).isB (M.chain (M.ret (.int 0)) (rdVar 3) (M.bi (M.cons (M.bin (rdVar 0) (M.ret (.int 0)) ixD) ((M.ret []))) lenD) leD ltD).isB) (retO (M.bin (M.bin (rdVar 0) (rdVar 2) ixD) (rdVar 3) ixD)) O.nxt)
    (retO (M.ret .non))) [.val (D g), .val (eD a d), .val (.int r'), .val (.int c')]) → (match (if 0 ≤ r' ∧ r' < g.h then some r' else none), (if 0 ≤ c' ∧ c' < g.w then some c' else none) with | some i, some j => (.int (g.f i.toNat j.toNat) : Dat) | _, _ => .non) = kindS g a d r c → (B_L_kind [.val (D g), .val (eD a d), .val (.int r), .val (.int c)]).pur = .ret (kindS g a d r c) [] := fun r' c' q1 q2 => by rw [q1, fin, q2]
  cases d with
  | true =>
    cases a with
    | true =>
      refine go (r % g.h) (c % g.w) ?_ ?_
      · simp only [B_L_kind, seqO, O.then, setO, putS, ifO, M.isB, M.bin, M.bi, M.cons, M.bnd, M.ret, M.lift, R.toO, rdVar, gt0, gt1, gt2, gt3, st2, st3, i0, i1, eq_wrap, if_true, n1, len_D, e0, len_rw, mod_ok mh, mod_ok mw]
      · simp only [kindS, lineB, if_true, pr, pc, and_self]
    | false =>
      refine go (r % g.h) c ?_ ?_
      · simp only [B_L_kind, seqO, O.then, setO, putS, ifO, M.isB, M.bin, M.bi, M.cons, M.bnd, M.ret, M.lift, R.toO, rdVar, gt0, gt1, gt2, gt3, st2, st3, i0, i1, eq_wrap, if_true, Bool.false_eq_true, if_false, n1, len_D, e0, len_rw, mod_ok mh, mod_ok mw]
      · simp only [kindS, lineB, if_true, pr, and_self, Bool.false_eq_true, if_false]
  | false =>
    cases a with
    | true =>
      refine go r (c % g.w) ?_ ?_
      · simp only [B_L_kind, seqO, O.then, setO, putS, ifO, M.isB, M.bin, M.bi, M.cons, M.bnd, M.ret, M.lift, R.toO, rdVar, gt0, gt1, gt2, gt3, st2, st3, i0, i1, eq_wrap, if_true, Bool.false_eq_true, if_false, n1, len_D, e0, len_rw, mod_ok mh, mod_ok mw]
      · simp only [kindS, lineB, if_true, pc, and_self, Bool.false_eq_true, if_false]
    | false =>
      refine go r c ?_ ?_
      · simp only [B_L_kind, seqO, O.then, setO, putS, ifO, M.isB, M.bin, M.bi, M.cons, M.bnd, M.ret, M.lift, R.toO, rdVar, gt0, gt1, gt2, gt3, st2, st3, i0, i1, eq_wrap, Bool.false_eq_true, if_false]
      · simp only [kindS, lineB, Bool.false_eq_true, if_false]
end Sv.pw_cellpictures_k01_ways_and_maps

set_option linter.all false
set_option maxRecDepth 100000
set_option maxHeartbeats 1000000
namespace Sv.pw_cellpictures_k01_ways_and_maps
open PySem L2 PyProof.Rows Sv
def winS (g : GS) (a d : Bool) (r c : Int) : Dat := .tup [.int (g.f r.toNat c.toNat), .tup [kindS g a d (r + -1) (c + -1), kindS g a d (r + -1) (c + 0), kindS g a d (r + -1) (c + 1), kindS g a d (r + 0) (c + 1), kindS g a d (r + 1) (c + 1), kindS g a d (r + 1) (c + 0), kindS g a d (r + 1) (c + -1), kindS g a d (r + 0) (c + -1)]]
theorem lay_win (g : GS) (a d : Bool) (r c : Int) : lay 2 (winS g a d r c) := by
  refine lay_tup fun x hx => ?_
  simp only [List.mem_cons, List.not_mem_nil, or_false] at hx
  rcases hx with rfl | rfl
  · exact lay_int _
  · refine lay_tup fun x hx => ?_
    simp only [List.mem_cons, List.not_mem_nil, or_false] at hx
    rcases hx with rfl | rfl | rfl | rfl | rfl | rfl | rfl | rfl <;> exact lay_kindS _ _ _ _ _
theorem g_check_ends : ∀ a d : Bool, G_check_ends [eD a d] = .ret .non []
  | true, true => by kernel_rfl
  | true, false => by kernel_rfl
  | false, true => by kernel_rfl
  | false, false => by kernel_rfl
theorem addI (i j : Int) : addD (.int i) (.int j) = some (.int (i + j)) := rfl
theorem k_around {g : GS} (k : Ok g) (a d : Bool) (r c : Int) : C_kinds_around_1 [.val (D g), .val (.int r), .val (.int c), .val (eD a d), .un, .un] = .ok [kindS g a d (r + -1) (c + -1), kindS g a d (r + -1) (c + 0), kindS g a d (r + -1) (c + 1), kindS g a d (r + 0) (c + 1), kindS g a d (r + 1) (c + 1), kindS g a d (r + 1) (c + 0), kindS g a d (r + 1) (c + -1), kindS g a d (r + 0) (c + -1)] [.val (D g), .val (.int r), .val (.int c), .val (eD a d), .un, .un] := by
  refine lc_ev (d := k_STEPS) (ρ1 := [.val (D g), .val (.int r), .val (.int c), .val (eD a d), .un, .un]) rfl rfl rfl ?_
  show lcL _ _ _ _ [] [.val (D g), .val (.int r), .val (.int c), .val (eD a d), .un, .un] = _
  rw [lcL_map (F := fun d' => match d' with | .tup [.int x, .int y] => kindS g a d (r + x) (c + y) | d => d)]
  · rfl
  · intro q hq
    have ev : ∀ x y : Int, E_kinds_around_0 [.val (D g), .val (.int r), .val (.int c), .val (eD a d), .val (.int x), .val (.int y)] = .ok (kindS g a d (r + x) (c + y)) [.val (D g), .val (.int r), .val (.int c), .val (eD a d), .val (.int x), .val (.int y)] := fun x y => by
      simp only [E_kinds_around_0, M.call, M.bin, M.cons, M.bnd, M.ret, M.lift, rdVar, gt0, gt1, gt2, gt3, gt4, gt5, List.append_nil, addI, g_kind_at k, callR]
    simp only [List.mem_cons, List.not_mem_nil, or_false] at hq
    rcases hq with rfl | rfl | rfl | rfl | rfl | rfl | rfl | rfl <;> exact ⟨_, _, rfl, ev _ _, rfl⟩
  · decide
theorem g_kinds_around {g : GS} (k : Ok g) (a d : Bool) (r c : Int) : G_kinds_around [D g, .int r, .int c, eD a d] = .ret (.tup [kindS g a d (r + -1) (c + -1), kindS g a d (r + -1) (c + 0), kindS g a d (r + -1) (c + 1), kindS g a d (r + 0) (c + 1), kindS g a d (r + 1) (c + 1), kindS g a d (r + 1) (c + 0), kindS g a d (r + 1) (c + -1), kindS g a d (r + 0) (c + -1)]) [] := by
  show (B_kinds_around [.val (D g), .val (.int r), .val (.int c), .val (eD a d), .un, .un]).pur = _
  simp only [B_kinds_around, retO, M.frz, M.bi, M.cons, M.bnd, M.ret, M.lift, R.toO, O.pur, k_around k, tuple_L]
theorem g_window {g : GS} (k : Ok g) (a d : Bool) {r c : Int} (r0 : 0 ≤ r) (r1 : r < g.h) (c0 : 0 ≤ c) (c1 : c < g.w) : G_window [D g, .int r, .int c, eD a d] = .ret (winS g a d r c) [] := by
  have e0 := ix_D (g := g) (i := 0) (Int.le_refl _) (Int.ofNat_lt.mpr k.h1)
  show (B_window [.val (D g), .val (.int r), .val (.int c), .val (eD a d)]).pur = _
  simp only [B_window, seqO, O.then, dropO, retO, M.call, M.tup, M.bin, M.bi, M.cons, M.bnd, M.ret, M.lift, R.toO, O.pur, rdVar, gt0, gt1, gt2, gt3, List.append_nil, g_check_map k, callR, len_D, e0, len_rw, g_check_cell r0 r1, g_check_cell c0 c1, g_check_ends, g_kinds_around k, ix_D r0 r1, ix_rw c0 c1]
  rfl
theorem k_Lwin {g : GS} (k : Ok g) (a d : Bool) (r c x : Int) (f : Sl) : C_L_window_1 [.val (D g), .val (eD a d), .val (.int r), .val (.int c), f, .val (.int x), .un] =
    .ok [kindS g a d (r + x) (c + -1), kindS g a d (r + x) (c + 0), kindS g a d (r + x) (c + 1)] [.val (D g), .val (eD a d), .val (.int r), .val (.int c), f, .val (.int x), .un] := by
  refine lc_ev (d := .tup [.int (-1), .int 0, .int 1]) (ρ1 := [.val (D g), .val (eD a d), .val (.int r), .val (.int c), f, .val (.int x), .un]) rfl rfl rfl ?_
  show lcL _ _ _ _ [] [.val (D g), .val (eD a d), .val (.int r), .val (.int c), f, .val (.int x), .un] = _
  rw [lcL_map (F := fun d' => match d' with | .int y => kindS g a d (r + x) (c + y) | d => d)]
  · rfl
  · intro q hq
    have ev : ∀ y : Int, E_L_window_0 [.val (D g), .val (eD a d), .val (.int r), .val (.int c), f, .val (.int x), .val (.int y)] = .ok (kindS g a d (r + x) (c + y)) [.val (D g), .val (eD a d), .val (.int r), .val (.int c), f, .val (.int x), .val (.int y)] := fun y => by
      simp only [E_L_window_0, M.call, M.bin, M.cons, M.bnd, M.ret, M.lift, rdVar, gt0, gt1, gt2, gt3, gt5, gt6, List.append_nil, addI, g_L_kind k, callR]
    simp only [List.mem_cons, List.not_mem_nil, or_false] at hq
    rcases hq with rfl | rfl | rfl <;> exact ⟨_, _, rfl, ev _, rfl⟩
  · decide
theorem g_ring2 (a b c d e f g h x : Dat) : G_L_ring [.lst [.tup [a,b,c],.tup [d,x,e],.tup [f,g,h]]] = .ret (.tup [a,b,c,e,h,g,f,d]) [] := by kernel_rfl
theorem k_Lwin3 {g : GS} (k : Ok g) (a d : Bool) (r c : Int) : F_L_window_3 [.val (D g), .val (eD a d), .val (.int r), .val (.int c), .own [], .un, .un] =
    .nxt [.val (D g), .val (eD a d), .val (.int r), .val (.int c), .own [.tup [kindS g a d (r + -1) (c + -1), kindS g a d (r + -1) (c + 0), kindS g a d (r + -1) (c + 1)], .tup [kindS g a d (r + 0) (c + -1), kindS g a d (r + 0) (c + 0), kindS g a d (r + 0) (c + 1)], .tup [kindS g a d (r + 1) (c + -1), kindS g a d (r + 1) (c + 0), kindS g a d (r + 1) (c + 1)]], .val (.int 1), .un] := by
  refine for_ev (d := .tup [.int (-1), .int 0, .int 1]) (ρ1 := [.val (D g), .val (eD a d), .val (.int r), .val (.int c), .own [], .un, .un]) rfl rfl ?_
  have st : ∀ (x : Int) (f : List Dat), f.length < 1000000 → L_L_window_2 [.val (D g), .val (eD a d), .val (.int r), .val (.int c), .own f, .val (.int x), .un] = .nxt [.val (D g), .val (eD a d), .val (.int r), .val (.int c), .own (f ++ [.tup [kindS g a d (r + x) (c + -1), kindS g a d (r + x) (c + 0), kindS g a d (r + x) (c + 1)]]), .val (.int x), .un] := fun x f hf => by
    simp only [L_L_window_2, appL, mutAt, putAt, k_Lwin k, M.bi, M.cons, M.frz, M.bnd, M.ret, M.lift, R.toO, gt4, st4, tuple_L, hf, if_true]
  have s1 : ∀ (q : Dat) (x : List Dat) (s : Sl), (s = .un ∨ ∃ d, s = .val d) → setT (.one 5) q [.val (D g), .val (eD a d), .val (.int r), .val (.int c), .own x, s, .un] = some [.val (D g), .val (eD a d), .val (.int r), .val (.int c), .own x, .val q, .un] := fun q x s hs => by rcases hs with rfl | ⟨d', rfl⟩ <;> rfl
  simp only [forL, s1 _ _ .un (.inl rfl), st _ [] (by decide), s1 _ _ (.val _) (.inr ⟨_, rfl⟩), List.nil_append]
  rw [st _ _ (by simp)]
  simp only [s1 _ _ (.val _) (.inr ⟨_, rfl⟩)]
  rw [st _ _ (by simp)]
  rfl
theorem g_L_window {g : GS} (k : Ok g) (a d : Bool) {r c : Int} (r0 : 0 ≤ r) (r1 : r < g.h) (c0 : 0 ≤ c) (c1 : c < g.w) : G_L_window [D g, eD a d, .int r, .int c] = .ret (winS g a d r c) [] := by
  show (B_L_window [.val (D g), .val (eD a d), .val (.int r), .val (.int c), .un, .un, .un]).pur = _
  have n0 : ∀ ρ : En, capL [] ρ = .ok [] ρ := fun _ => rfl
  simp only [B_L_window, seqO, O.then, setNO, n0, R.toO, gt4, st4, k_Lwin3 k, retO, M.call, M.tup, M.bin, M.bi, M.cons, M.bnd, M.ret, M.lift, O.pur, rdVar, gt0, gt1, gt2, gt3, List.append_nil, ix_D r0 r1, ix_rw c0 c1, g_ring2, callR]
  rfl
/-! ## ways -/
theorem forall8 {P : Int → Prop} (h : P 0 ∧ P 1 ∧ P 2 ∧ P 3 ∧ P 4 ∧ P 5 ∧ P 6 ∧ P 7) {t : Int} (h0 : 0 ≤ t) (h8 : t < 8) : P t := by
  obtain ⟨a, b, c, d, e, f, g, i⟩ := h
  have : t = 0 ∨ t = 1 ∨ t = 2 ∨ t = 3 ∨ t = 4 ∨ t = 5 ∨ t = 6 ∨ t = 7 := by omega
  rcases this with rfl | rfl | rfl | rfl | rfl | rfl | rfl | rfl <;> assumption
def okT : O → Bool | .ret (.bl true) [] => true | _ => false
theorem okT_eq {o : O} (h : okT o = true) : o = .ret (.bl true) [] := by
  unfold okT at h; split at h
  · rfl
  · cases h
theorem wr : (List.range 8).all (fun t => (List.range 8).all fun b => okT (G_L_ways_right [.int (t : Nat), .int (b : Nat)])) = true := by decide +kernel
theorem g_ways_right {t b : Int} (t0 : 0 ≤ t) (t8 : t < 8) (b0 : 0 ≤ b) (b8 : b < 8) : G_L_ways_right [.int t, .int b] = .ret (.bl true) [] := by
  obtain ⟨n, rfl⟩ := Int.eq_ofNat_of_zero_le t0
  obtain ⟨m, rfl⟩ := Int.eq_ofNat_of_zero_le b0
  have h := wr
  rw [List.all_eq_true] at h
  have h := h n (List.mem_range.mpr (by omega))
  rw [List.all_eq_true] at h
  exact okT_eq (h m (List.mem_range.mpr (by omega)))
def bh (b t : Int) : Int := if b < 4 then t / 4 * 4 + (b + t) % 4 else (1 - t / 4) * 4 + (b - t) % 4
theorem bh_in {b t : Int} (t0 : 0 ≤ t) (t8 : t < 8) : 0 ≤ bh b t ∧ bh b t < 8 := by unfold bh; split <;> omega
theorem g_behind {b t : Int} (b0 : 0 ≤ b) (b8 : b < 8) (t0 : 0 ≤ t) (t8 : t < 8) : G_behind [.int b, .int t] = .ret (.int (bh b t)) [] := by
  show (B_behind [.val (.int b), .val (.int t)]).pur = _
  have f4 : ∀ i : Int, fdivD (.int i) (.int 4) = some (.int (i / 4)) := fun i => fdiv_ok (by decide)
  have m4 : ∀ i : Int, modD (.int i) (.int 4) = some (.int (i % 4)) := fun i => mod_ok (by decide)
  have u4 : ∀ i : Int, mulD (.int i) (.int 4) = some (.int (i * 4)) := fun i => mul_ok (.inr (by decide))
  have s1 : ∀ i j : Int, subD (.int i) (.int j) = some (.int (i - j)) := fun i j => rfl
  by_cases h : b < 4
  · simp only [B_behind, seqO, O.then, dropO, ifO, retO, M.call, M.isB, M.bin, M.cons, M.bnd, M.ret, M.lift, R.toO, O.pur, rdVar, gt0, gt1, List.append_nil, g_check_way b0 b8, g_check_way t0 t8, callR, bop, h, decide_true, if_true, f4, m4, u4, addI, bh]
  · simp only [B_behind, seqO, O.then, dropO, ifO, retO, M.call, M.isB, M.bin, M.cons, M.bnd, M.ret, M.lift, R.toO, O.pur, rdVar, gt0, gt1, List.append_nil, g_check_way b0 b8, g_check_way t0 t8, callR, bop, h, decide_false, Bool.false_eq_true, if_false, f4, m4, u4, addI, s1, bh]
theorem g_turned_ends (a d : Bool) {t : Int} (t0 : 0 ≤ t) (t8 : t < 8) : G_turned_ends [eD a d, .int t] = .ret (if t % 2 = 0 then eD a d else eD d a) [] := by
  refine forall8 (P := fun t => G_turned_ends [eD a d, .int t] = .ret (if t % 2 = 0 then eD a d else eD d a) []) ?_ t0 t8
  cases a <;> cases d <;> exact ⟨by kernel_rfl, by kernel_rfl, by kernel_rfl, by kernel_rfl, by kernel_rfl, by kernel_rfl, by kernel_rfl, by kernel_rfl⟩
/-! ## turned twice -/
theorem D_eq {g g' : GS} (h : g.h = g'.h) (w : g.w = g'.w) (k : ∀ i j, i < g.h → j < g.w → g.f i j = g'.f i j) : D g = D g' := by
  obtain ⟨a, b, f⟩ := g
  obtain ⟨a', b', f'⟩ := g'
  cases h; cases w
  exact D_congr k
theorem twice (g : GS) {b t : Int} (b0 : 0 ≤ b) (b8 : b < 8) (t0 : 0 ≤ t) (t8 : t < 8) : D (T b (T t g)) = D (T (bh b t) g) := by
  refine forall8 (P := fun b => D (T b (T t g)) = D (T (bh b t) g)) ?_ b0 b8
  refine forall8 (P := fun t => D (T 0 (T t g)) = D (T (bh 0 t) g) ∧ D (T 1 (T t g)) = D (T (bh 1 t) g) ∧ D (T 2 (T t g)) = D (T (bh 2 t) g) ∧ D (T 3 (T t g)) = D (T (bh 3 t) g) ∧ D (T 4 (T t g)) = D (T (bh 4 t) g) ∧ D (T 5 (T t g)) = D (T (bh 5 t) g) ∧ D (T 6 (T t g)) = D (T (bh 6 t) g) ∧ D (T 7 (T t g)) = D (T (bh 7 t) g)) ?_ t0 t8
  obtain ⟨h, w, f⟩ := g
  refine ⟨⟨?_, ?_, ?_, ?_, ?_, ?_, ?_, ?_⟩, ⟨?_, ?_, ?_, ?_, ?_, ?_, ?_, ?_⟩, ⟨?_, ?_, ?_, ?_, ?_, ?_, ?_, ?_⟩, ⟨?_, ?_, ?_, ?_, ?_, ?_, ?_, ?_⟩, ⟨?_, ?_, ?_, ?_, ?_, ?_, ?_, ?_⟩, ⟨?_, ?_, ?_, ?_, ?_, ?_, ?_, ?_⟩, ⟨?_, ?_, ?_, ?_, ?_, ?_, ?_, ?_⟩, ⟨?_, ?_, ?_, ?_, ?_, ?_, ?_, ?_⟩⟩ <;>
  · refine D_eq rfl rfl fun i j hi hj => ?_
    simp [T, bh, rotn, rot, mir] at hi hj ⊢
    try (congr 1 <;> omega)
end Sv.pw_cellpictures_k01_ways_and_maps

set_option linter.all false
set_option maxRecDepth 100000
set_option maxHeartbeats 1000000
namespace Sv.pw_cellpictures_k01_ways_and_maps
open PySem L2 PyProof.Rows Sv
/-! ## draws -/
def Pu (m : Int) (xs : List Dat) : Prop := ∃ a b c : Int, xs = [.int a, .int b, .int c] ∧ 0 ≤ a ∧ 0 ≤ b ∧ b < 2147483647 ∧ 0 ≤ c ∧ c ≤ m
theorem Pu.up {m m' : Int} {xs : List Dat} (h : Pu m xs) (k : m ≤ m') : Pu m' xs := by
  obtain ⟨a, b, c, e, h1, h2, h3, h4, h5⟩ := h
  exact ⟨a, b, c, e, h1, h2, h3, h4, by omega⟩
theorem dr {m n : Int} {xs : List Dat} (h : Pu m xs) (hm : m < 900000000) (hn : 0 < n) (hn2 : n < 1000000) : ∃ d ys, 0 ≤ d ∧ d < n ∧ Pu (m + 1) ys ∧ G_L_draw xs [.int n] = .ret (.int d) [.ino ys] := by
  obtain ⟨a, b, c, rfl, h1, h2, h3, h4, h5⟩ := h
  obtain ⟨d, a', c', q1, q2, q3, q4, q5, e⟩ := g_draw h1 h2 h3 h4 (show c < 900000000000 by omega) hn (show n < 1073741824 by omega)
  exact ⟨d, _, q1, q2, ⟨a', b, c', rfl, q3, h2, h3, q4, by omega⟩, e⟩
theorem ci {ga : M (List Dat)} {G : List Dat → List Dat → O} {xs xs1 ys : List Dat} {tl tl1 : En} {ds : List Dat} {d : Dat} (h : ga (.ino xs :: tl) = .ok ds (.ino xs1 :: tl1)) (hG : G xs1 ds = .ret d [.ino ys]) : M.callI 0 ga G (.ino xs :: tl) = .ok d (.ino ys :: tl1) := by
  have e : hasS (.ino xs :: tl) 0 = true := rfl
  unfold M.callI M.bnd
  rw [if_pos e, h]
  simp only [mutAt, gt0, hG, Sv.callI, putAt, st0]
theorem a0 {ρ : En} : (M.ret [] : M (List Dat)) ρ = .ok [] ρ := rfl
theorem a1 {f : M Dat} {ρ ρ1 : En} {d : Dat} (h : f ρ = .ok d ρ1) : (M.cons f (M.ret [])) ρ = .ok [d] ρ1 := by
  unfold M.cons M.bnd; rw [h]; rfl
theorem acons {f : M Dat} {g : M (List Dat)} {ρ ρ1 ρ2 : En} {d : Dat} {ds : List Dat} (h : f ρ = .ok d ρ1) (h2 : g ρ1 = .ok ds ρ2) : (M.cons f g) ρ = .ok (d :: ds) ρ2 := by
  unfold M.cons M.bnd; rw [h]; simp only [h2]; rfl
theorem tup_ev {g : M (List Dat)} {ρ ρ1 : En} {ds : List Dat} (h : g ρ = .ok ds ρ1) (hl : ds.length ≤ 1000000) : M.tup g ρ = .ok (.tup ds) ρ1 := by
  unfold M.tup M.bnd mkTup; rw [h]; simp only [if_pos hl, M.lift]
theorem bin_ev {f g : M Dat} {op : Dat → Dat → Option Dat} {ρ ρ1 ρ2 : En} {x y z : Dat} (h : f ρ = .ok x ρ1) (h2 : g ρ1 = .ok y ρ2) (h3 : op x y = some z) : M.bin f g op ρ = .ok z ρ2 := by
  unfold M.bin M.bnd; rw [h]; simp only [h2, h3, M.lift]
theorem lit {ρ : En} {d : Dat} : (M.ret d : M Dat) ρ = .ok d ρ := rfl
theorem ow : (M.frz ((M.cons (M.ret (.str "open")) ((M.cons (M.ret (.str "wrap")) ((M.ret []))))).bnd capL)) = M.ret (.lst [.str "open", .str "wrap"]) := rfl
theorem ix_ow {d : Int} (h0 : 0 ≤ d) (h : d < 2) : ixD (.lst [.str "open", .str "wrap"]) (.int d) = some (.str (eS (decide (d = 1)))) := by
  have : d = 0 ∨ d = 1 := by omega
  rcases this with rfl | rfl <;> rfl
theorem g_ends {m : Int} {xs : List Dat} (h : Pu m xs) (hm : m < 800000000) : ∃ a d ys, Pu (m + 2) ys ∧ G_L_ends xs [] = .ret (eD a d) [.ino ys] := by
  obtain ⟨d1, xs1, p1, p2, h1, e1⟩ := dr (n := 2) h (by omega) (by decide) (by decide)
  obtain ⟨d2, xs2, q1, q2, h2, e2⟩ := dr (n := 2) h1 (by omega) (by decide) (by decide)
  refine ⟨decide (d1 = 1), decide (d2 = 1), xs2, h2.up (by omega), ?_⟩
  have z1 : M.tup (M.cons (M.bin (M.frz ((M.cons (M.ret (.str "open")) ((M.cons (M.ret (.str "wrap")) ((M.ret []))))).bnd capL)) (M.callI 0 ((M.cons (M.ret (.int 2)) ((M.ret [])))) G_L_draw) ixD) ((M.cons (M.bin (M.frz ((M.cons (M.ret (.str "open")) ((M.cons (M.ret (.str "wrap")) ((M.ret []))))).bnd capL)) (M.callI 0 ((M.cons (M.ret (.int 2)) ((M.ret [])))) G_L_draw) ixD) ((M.ret []))))) [.ino xs] = .ok (eD (decide (d1 = 1)) (decide (d2 = 1))) [.ino xs2] :=
    tup_ev (acons (bin_ev (ow ▸ lit) (ci (a1 lit) e1) (ix_ow p1 p2)) (a1 (bin_ev (ow ▸ lit) (ci (a1 lit) e2) (ix_ow q1 q2)))) (Nat.le_of_ble_eq_true rfl)
  show (B_L_ends [.ino xs]).inp = _
  unfold B_L_ends retO
  rw [z1]
  rfl
theorem choose_map {α : Type} [Inhabited α] {F : α → Dat} {Q : α → Prop} : ∀ {ys : List Dat}, (∀ y ∈ ys, ∃ a, y = F a ∧ Q a) → ∃ f : Nat → α, ys = (List.range ys.length).map (fun i => F (f i)) ∧ ∀ i, i < ys.length → Q (f i)
  | [], _ => ⟨fun _ => default, rfl, fun i h => absurd h (Nat.not_lt_zero _)⟩
  | y :: ys, h => by
    obtain ⟨a, e, q⟩ := h y List.mem_cons_self
    obtain ⟨f, e', q'⟩ := choose_map (ys := ys) fun y hy => h y (List.mem_cons_of_mem _ hy)
    refine ⟨fun i => match i with | 0 => a | i + 1 => f i, ?_, ?_⟩
    · rw [List.length_cons, List.range_succ_eq_map, List.map_cons, List.map_map]
      show y :: ys = F a :: List.map _ _
      rw [e]
      congr 1
    · intro i hi
      cases i with
      | zero => exact q
      | succ i => exact q' i (Nat.lt_of_succ_lt_succ hi)
theorem k_map1 {m : Int} {xs : List Dat} {many : Int} {n : Nat} {h' w' t s : Sl} (h : Pu m xs) (hm : m < 800000000) (h1 : 0 < many) (h2 : many < 1000) (hn : n ≤ 5) : ∃ ys xs', Pu (m + n) xs' ∧ ys.length = n ∧ (∀ y ∈ ys, ∃ v : Int, y = .int v ∧ 0 ≤ v) ∧
    C_L_map_1 [.ino xs, .val (.int many), h', w', t, .val (.int n), s, .un] = .ok ys [.ino xs', .val (.int many), h', w', t, .val (.int n), s, .un] := by
  have st := lcL_inv (t := .one 7) (g := E_L_map_0) (R := fun y => ∃ v : Int, y = .int v ∧ 0 ≤ v) (P := fun k ρ => ∃ xs', Pu (m + k) xs' ∧ ρ = [.ino xs', .val (.int many), h', w', t, .val (.int n), s, .un]) (ds0 := (List.range n).map fun i => Dat.int (i : Nat)) n (fun d hd k ρ hk ⟨xs1, p1, e1⟩ => by
    subst e1
    obtain ⟨v, xs2, v0, v1, p2, e2⟩ := dr p1 (by omega) h1 (by omega)
    exact ⟨_, .int v, [.ino xs2, .val (.int many), h', w', t, .val (.int n), s, .val d], rfl, ci (a1 rfl) e2, ⟨v, rfl, v0⟩, xs2, by rw [Int.natCast_add]; exact p2.up (by omega), rfl⟩)
    (ds := (List.range n).map fun i => Dat.int (i : Nat)) (acc := []) (k := 0) (ρ := [.ino xs, .val (.int many), h', w', t, .val (.int n), s, .un]) (fun _ h => h) ⟨xs, by simpa using h, rfl⟩ (by simp) (by simp; omega)
  obtain ⟨ys, ρ', e, ⟨xs', p', rfl⟩, l, r⟩ := st
  refine ⟨ys, xs', ?_, by simpa using l, r, ?_⟩
  · simpa using p'
  · exact lcR_ev (as := [.int n]) (ρ1 := [.ino xs, .val (.int many), h', w', t, .val (.int n), s, .un]) rfl (rg1_nat (by omega)) rfl (by rw [List.nil_append] at e; exact e)
theorem g_map {m : Int} {xs : List Dat} {many : Int} (h : Pu m xs) (hm : m < 700000000) (h1 : 0 < many) (h2 : many < 1000) : ∃ g ys, Ok g ∧ Pu (m + 27) ys ∧ G_L_map xs [.int many, .int 5, .int 5] = .ret (D g) [.ino ys] := by
  obtain ⟨d1, xs1, p1, p2, k1, e1⟩ := dr (n := 5) h (by omega) (by decide) (by decide)
  obtain ⟨d2, xs2, q1, q2, k2, e2⟩ := dr (n := 5) k1 (by omega) (by decide) (by decide)
  obtain ⟨t, rfl⟩ := Int.eq_ofNat_of_zero_le p1
  obtain ⟨b, rfl⟩ := Int.eq_ofNat_of_zero_le q1
  have st := lcL_inv (t := .one 6) (g := E_L_map_2) (R := fun y => ∃ r : Nat → Int, y = rw (1 + b) r ∧ ∀ j, j < 1 + b → 0 ≤ r j) (P := fun k ρ => ∃ xs', Pu (m + 2 + 5 * k) xs' ∧ ρ = [.ino xs', .val (.int many), .val (.int 5), .val (.int 5), .val (.int ((1 + t : Nat) : Int)), .val (.int ((1 + b : Nat) : Int)), .un, .un]) (ds0 := (List.range (1 + t)).map fun i => Dat.int (i : Nat)) (1 + t) (fun d hd k ρ hk ⟨xs3, p3, e3⟩ => by
    subst e3
    obtain ⟨ys, xs4, p4, l4, r4, e4⟩ := k_map1 (n := 1 + b) (h' := .val (.int 5)) (w' := .val (.int 5)) (t := .val (.int ((1 + t : Nat) : Int))) (s := .val d) p3 (by omega) h1 h2 (by omega)
    obtain ⟨f, ey, hf⟩ := choose_map (F := fun v : Int => Dat.int v) (Q := fun v => 0 ≤ v) r4
    rw [l4] at ey hf
    refine ⟨_, rw (1 + b) f, [.ino xs4, .val (.int many), .val (.int 5), .val (.int 5), .val (.int ((1 + t : Nat) : Int)), .val (.int ((1 + b : Nat) : Int)), .val d, .un], rfl, ?_, ⟨f, rfl, hf⟩, xs4, by rw [Int.natCast_add]; exact p4.up (by omega), rfl⟩
    have e5 : E_L_map_2 [.ino xs3, .val (.int many), .val (.int 5), .val (.int 5), .val (.int ((1 + t : Nat) : Int)), .val (.int ((1 + b : Nat) : Int)), .val d, .un] = .ok (.tup ys) [.ino xs4, .val (.int many), .val (.int 5), .val (.int 5), .val (.int ((1 + t : Nat) : Int)), .val (.int ((1 + b : Nat) : Int)), .val d, .un] := by
      simp only [E_L_map_2, e4, M.bi, M.cons, M.frz, M.bnd, M.ret, M.lift, tuple_L]
    rw [ey] at e5
    exact e5)
    (ds := (List.range (1 + t)).map fun i => Dat.int (i : Nat)) (acc := []) (k := 0) (ρ := [.ino xs2, .val (.int many), .val (.int 5), .val (.int 5), .val (.int ((1 + t : Nat) : Int)), .val (.int ((1 + b : Nat) : Int)), .un, .un]) (fun _ h => h) ⟨xs2, k2.up (by omega), rfl⟩ (by simp) (by simp; omega)
  obtain ⟨ys, ρ', e, ⟨xs', p', rfl⟩, l, r⟩ := st
  obtain ⟨f, ey, hf⟩ := choose_map (F := fun r : Nat → Int => rw (1 + b) r) (Q := fun r => ∀ j, j < 1 + b → 0 ≤ r j) r
  have l' : ys.length = 1 + t := by simpa using l
  rw [l'] at ey hf
  refine ⟨⟨1 + t, 1 + b, f⟩, xs', ⟨by show 0 < 1 + t; omega, by show 1 + t ≤ 5; omega, by show 0 < 1 + b; omega, by show 1 + b ≤ 5; omega, fun i j hi hj => hf i hi j hj⟩, p'.up (by simp; omega), ?_⟩
  show (B_L_map [.ino xs, .val (.int many), .val (.int 5), .val (.int 5), .un, .un, .un, .un]).inp = _
  have c3 : C_L_map_3 [.ino xs2, .val (.int many), .val (.int 5), .val (.int 5), .val (.int ((1 + t : Nat) : Int)), .val (.int ((1 + b : Nat) : Int)), .un, .un] = .ok ys [.ino xs', .val (.int many), .val (.int 5), .val (.int 5), .val (.int ((1 + t : Nat) : Int)), .val (.int ((1 + b : Nat) : Int)), .un, .un] :=
    lcR_ev (as := [.int ((1 + t : Nat) : Int)]) (ρ1 := [.ino xs2, .val (.int many), .val (.int 5), .val (.int 5), .val (.int ((1 + t : Nat) : Int)), .val (.int ((1 + b : Nat) : Int)), .un, .un]) rfl (rg1_nat (by omega)) rfl (by rw [List.nil_append] at e; exact e)
  have t1 : (1 : Int) + (t : Nat) = ((1 + t : Nat) : Int) := by omega
  have b1 : (1 : Int) + (b : Nat) = ((1 + b : Nat) : Int) := by omega
  have z1 : M.tup (M.cons (M.bin (M.ret (.int 1)) (M.callI 0 ((M.cons (rdVar 2) ((M.ret [])))) G_L_draw) addD) ((M.cons (M.bin (M.ret (.int 1)) (M.callI 0 ((M.cons (rdVar 3) ((M.ret [])))) G_L_draw) addD) ((M.ret []))))) [.ino xs, .val (.int many), .val (.int 5), .val (.int 5), .un, .un, .un, .un] = .ok (.tup [.int ((1 + t : Nat) : Int), .int ((1 + b : Nat) : Int)]) [.ino xs2, .val (.int many), .val (.int 5), .val (.int 5), .un, .un, .un, .un] :=
    tup_ev (acons (bin_ev lit (ci (a1 rfl) e1) (by rw [addI, t1])) (a1 (bin_ev lit (ci (a1 rfl) e2) (by rw [addI, b1])))) (Nat.le_of_ble_eq_true rfl)
  have z2 : setT (.tup [4, 5]) (.tup [.int ((1 + t : Nat) : Int), .int ((1 + b : Nat) : Int)]) [.ino xs2, .val (.int many), .val (.int 5), .val (.int 5), .un, .un, .un, .un] = some [.ino xs2, .val (.int many), .val (.int 5), .val (.int 5), .val (.int ((1 + t : Nat) : Int)), .val (.int ((1 + b : Nat) : Int)), .un, .un] := rfl
  unfold B_L_map seqO unpO
  rw [z1]
  simp only [R.toO, z2, O.then, retO, c3, M.bi, M.cons, M.frz, M.bnd, M.ret, M.lift, tuple_L, O.inp]
  rw [ey]
  rfl
end Sv.pw_cellpictures_k01_ways_and_maps

set_option linter.all false
set_option maxRecDepth 100000
set_option maxHeartbeats 1000000
namespace Sv.pw_cellpictures_k01_ways_and_maps
open PySem L2 PyProof.Rows Sv
theorem p18 : powD (.int 10) (.int 18) = some (.int 1000000000000000000) := by kernel_rfl
theorem p60 : powD (.int 10) (.int 60) = some (.int 1000000000000000000000000000000000000000000000000000000000000) := by kernel_rfl
theorem p480 : powD (.int 1000000000000000000000000000000000000000000000000000000000000) (.int 8) = some (.int 1000000000000000000000000000000000000000000000000000000000000000000000000000000000000000000000000000000000000000000000000000000000000000000000000000000000000000000000000000000000000000000000000000000000000000000000000000000000000000000000000000000000000000000000000000000000000000000000000000000000000000000000000000000000000000000000000000000000000000000000000000000000000000000000000000000000000000000000000000000000000000000000000000000000000000000000000000000000000000000000000) := by kernel_rfl
theorem ev1 {ρ ρ1 : En} {ga : M (List Dat)} {op : List Dat → Option Dat} {ds : List Dat} {z : Dat} (h : ga ρ = .ok ds ρ1) (h2 : op ds = some z) : M.bi ga op ρ = .ok z ρ1 := by
  unfold M.bi M.bnd; rw [h]; simp only [h2, M.lift]
theorem g_purse {ns : List Int} {at' : Int} (h0 : 0 ≤ at') (h8 : at' < 100) : ∃ xs, Pu 100000 xs ∧ G_L_purse [.scr (ns.map Dat.int), .int at'] = .new xs [] := by
  have fin : ∀ v : Int, ∃ xs, Pu 100000 xs ∧ (retL (M.cons (M.bin (M.bi (M.cons (M.bi (M.cons (M.bin (rdVar 2) (M.bin (M.ret (.int 10)) (M.ret (.int 18)) powD) subD) ((M.cons (M.ret (.int 0)) ((M.ret []))))) max2D) ((M.ret []))) intD) (M.bin (M.bin (M.ret (.int 10)) (M.ret (.int 60)) powD) (M.ret (.int 8)) powD) modD) ((M.cons (M.bin (M.bi (M.cons (rdVar 2) ((M.ret []))) intD) (M.ret (.int 2147483647)) modD) ((M.cons (M.bin (M.ret (.int 1000)) (rdVar 1) mulD) ((M.ret []))))))) [.val (.scr (ns.map Dat.int)), .val (.int at'), .val (.int v)]) = .new xs [.val (.scr (ns.map Dat.int)), .val (.int at'), .val (.int v)] := fun v => by
    let mx : Int := if 0 > v - 1000000000000000000 then 0 else v - 1000000000000000000
    refine ⟨[.int (mx % 1000000000000000000000000000000000000000000000000000000000000000000000000000000000000000000000000000000000000000000000000000000000000000000000000000000000000000000000000000000000000000000000000000000000000000000000000000000000000000000000000000000000000000000000000000000000000000000000000000000000000000000000000000000000000000000000000000000000000000000000000000000000000000000000000000000000000000000000000000000000000000000000000000000000000000000000000000000000000000000000000), .int (v % 2147483647), .int (1000 * at')], ⟨_, _, _, rfl, Int.emod_nonneg _ (by decide), Int.emod_nonneg _ (by decide), Int.emod_lt_of_pos _ (by decide), by omega, by omega⟩, ?_⟩
    have e : (M.cons (M.bin (M.bi (M.cons (M.bi (M.cons (M.bin (rdVar 2) (M.bin (M.ret (.int 10)) (M.ret (.int 18)) powD) subD) ((M.cons (M.ret (.int 0)) ((M.ret []))))) max2D) ((M.ret []))) intD) (M.bin (M.bin (M.ret (.int 10)) (M.ret (.int 60)) powD) (M.ret (.int 8)) powD) modD) ((M.cons (M.bin (M.bi (M.cons (rdVar 2) ((M.ret []))) intD) (M.ret (.int 2147483647)) modD) ((M.cons (M.bin (M.ret (.int 1000)) (rdVar 1) mulD) ((M.ret []))))))) [.val (.scr (ns.map Dat.int)), .val (.int at'), .val (.int v)] = .ok [.int (mx % 1000000000000000000000000000000000000000000000000000000000000000000000000000000000000000000000000000000000000000000000000000000000000000000000000000000000000000000000000000000000000000000000000000000000000000000000000000000000000000000000000000000000000000000000000000000000000000000000000000000000000000000000000000000000000000000000000000000000000000000000000000000000000000000000000000000000000000000000000000000000000000000000000000000000000000000000000000000000000000000000000), .int (v % 2147483647), .int (1000 * at')] [.val (.scr (ns.map Dat.int)), .val (.int at'), .val (.int v)] :=
      acons (bin_ev (ev1 (a1 (ev1 (acons (bin_ev rfl (bin_ev lit lit p18) rfl) (a1 lit)) rfl)) rfl) (bin_ev (bin_ev lit lit p60) lit p480) (mod_ok (by decide)))
        (acons (bin_ev (ev1 (a1 rfl) rfl) lit (mod_ok (by decide))) (a1 (bin_ev lit rfl (mul_ok (.inl (by decide))))))
    unfold retL
    rw [e]
    rfl
  show ∃ xs, Pu 100000 xs ∧ (B_L_purse [.val (.scr (ns.map Dat.int)), .val (.int at'), .un]).pur = .new xs []
  have ln : lenD [.scr (ns.map Dat.int)] = some (.int ns.length) := by unfold lenD; simp
  by_cases h : at' < ns.length
  · obtain ⟨n, rfl⟩ := Int.eq_ofNat_of_zero_le h0
    have hn : n < ns.length := by omega
    have ix : ixD (.scr (ns.map Dat.int)) (.int (n : Nat)) = some (.int ns[n]) := by
      unfold ixD itemsS atI ixN
      simp only []
      rw [if_pos (Int.natCast_nonneg n), List.length_map, if_pos h]
      simp [hn]
    obtain ⟨xs, hp, e⟩ := fin ns[n]
    refine ⟨xs, hp, ?_⟩
    simp only [B_L_purse, seqO, O.then, setO, putS, ifO, M.isB, M.bin, M.bi, M.cons, M.bnd, M.ret, M.lift, R.toO, rdVar, gt0, gt1, gt2, st2, ln, bop, h, decide_true, if_true, ix] at e ⊢
    rw [e]
    rfl
  · obtain ⟨xs, hp, e⟩ := fin 0
    refine ⟨xs, hp, ?_⟩
    simp only [B_L_purse, seqO, O.then, setO, putS, ifO, M.isB, M.bin, M.bi, M.cons, M.bnd, M.ret, M.lift, R.toO, rdVar, gt0, gt1, gt2, st2, ln, bop, h, decide_false, Bool.false_eq_true, if_false] at e ⊢
    rw [e]
    rfl
end Sv.pw_cellpictures_k01_ways_and_maps

set_option linter.all false
set_option maxRecDepth 100000
set_option maxHeartbeats 1000000
namespace Sv.pw_cellpictures_k01_ways_and_maps
open PySem L2 PyProof.Rows Sv
theorem seq_step {f g : En → O} {ρ ρ1 : En} {r : O} (h : f ρ = .nxt ρ1) (h2 : g ρ1 = r) : seqO f g ρ = r := by
  unfold seqO; rw [h]; exact h2
theorem par_ev {f g : M Dat} {i j : Nat} {ρ ρ1 ρ2 ρ3 : En} {x y : Dat} (h : f ρ = .ok x ρ1) (h2 : g ρ1 = .ok y ρ2) (h3 : (putS i x ρ2).then (putS j y) = .nxt ρ3) : parO f g i j ρ = .nxt ρ3 := by
  unfold parO M.bnd; rw [h]; simp only [h2, M.ret, R.toO, h3]
theorem if_no {c : M Bool} {f : En → O} {ρ ρ1 : En} (h : c ρ = .ok false ρ1) : ifO c f O.nxt ρ = .nxt ρ1 := by
  unfold ifO; rw [h]; rfl
theorem or_no {f g : M Bool} {ρ ρ1 : En} {r : R Bool} (h : f ρ = .ok false ρ1) (h2 : g ρ1 = r) : M.orB f g ρ = r := by
  unfold M.orB M.bnd; rw [h]; exact h2
theorem not_ev {f : M Bool} {ρ ρ1 : En} {b : Bool} (h : f ρ = .ok b ρ1) : M.notB f ρ = .ok (!b) ρ1 := by
  unfold M.notB M.bnd; rw [h]; rfl
theorem isB_ev {f : M Dat} {ρ ρ1 : En} {b : Bool} (h : f ρ = .ok (.bl b) ρ1) : M.isB f ρ = .ok b ρ1 := by
  unfold M.isB M.bnd; rw [h]; rfl
theorem call_ev {ga : M (List Dat)} {G : List Dat → O} {ρ ρ1 : En} {ds : List Dat} {d : Dat} (h : ga ρ = .ok ds ρ1) (h2 : G ds = .ret d []) : M.call ga [] G ρ = .ok d ρ1 := by
  unfold M.call M.bnd; rw [h]; simp only [List.append_nil, h2, callR]
theorem callK_ev {ga gk : M (List Dat)} {ix : List Nat} {G : List Dat → O} {ρ ρ1 ρ2 : En} {ds zs as : List Dat} {d : Dat} (h : ga ρ = .ok ds ρ1) (h2 : gk ρ1 = .ok zs ρ2) (hp : pick ix (ds ++ zs ++ []) = as) (h3 : G as = .ret d []) : M.callK ga gk ix [] G ρ = .ok d ρ2 := by
  unfold M.callK M.bnd; rw [h]; simp only [h2, hp, h3, callR]
theorem callD_ev {ga : M (List Dat)} {dd : List Dat} {G : List Dat → O} {ρ ρ1 : En} {ds : List Dat} {d : Dat} (h : ga ρ = .ok ds ρ1) (h2 : G (ds ++ dd) = .ret d []) : M.callD ga dd G ρ = .ok d ρ1 := by
  unfold M.callD M.bnd; rw [h]; simp only [h2, callR]
theorem set_ev {f : M Dat} {i : Nat} {ρ ρ1 ρ2 : En} {d : Dat} (h : f ρ = .ok d ρ1) (h2 : putS i d ρ1 = .nxt ρ2) : setO f i ρ = .nxt ρ2 := by
  unfold setO; rw [h]; exact h2
theorem ret_ev {f : M Dat} {ρ ρ1 : En} {d : Dat} (h : f ρ = .ok d ρ1) : retO f ρ = .ret d ρ1 := by
  unfold retO; rw [h]; rfl
theorem un_ev {f : M Dat} {op : Dat → Option Dat} {ρ ρ1 : En} {x z : Dat} (h : f ρ = .ok x ρ1) (h3 : op x = some z) : M.un1 f op ρ = .ok z ρ1 := by
  unfold M.un1 M.bnd; rw [h]; simp only [h3, M.lift]
theorem lst2_ev {g : M (List Dat)} {ρ ρ1 : En} {x y : Dat} (h : g ρ = .ok [x, y] ρ1) : M.frz (g.bnd capL) ρ = .ok (.lst [x, y]) ρ1 := by
  unfold M.frz M.bnd; rw [h]; rfl
theorem g_right {m : Int} {xs : List Dat} (h : Pu m xs) (hm : m < 600000000) : ∃ ys, Pu (m + 50) ys ∧ G_L_right xs [] = .ret (.bl true) [.ino ys] := by
  obtain ⟨t, x1, t0, t8, h1, e1⟩ := dr (n := 8) h (by omega) (by decide) (by decide)
  obtain ⟨b, x2, b0, b8, h2, e2⟩ := dr (n := 8) h1 (by omega) (by decide) (by decide)
  obtain ⟨k, x3, k0, k9, h3, e3⟩ := dr (n := 9) h2 (by omega) (by decide) (by decide)
  obtain ⟨g, x4, ok, h4, e4⟩ := g_map (many := 1 + k) h3 (by omega) (by omega) (by omega)
  obtain ⟨a, d, x5, h5, e5⟩ := g_ends h4 (by omega)
  have hh := ok.h1
  have hw := ok.w1
  have hh5 := ok.h2
  have hw5 := ok.w2
  obtain ⟨r, x6, r0, r1, h6, e6⟩ := dr (n := (g.h : Int)) h5 (by omega) (by omega) (by omega)
  obtain ⟨c, x7, c0, c1, h7, e7⟩ := dr (n := (g.w : Int)) h6 (by omega) (by omega) (by omega)
  refine ⟨x7, h7.up (by omega), ?_⟩
  have i0 := ix_D (g := g) (i := 0) (Int.le_refl _) (Int.ofNat_lt.mpr hh)
  have tm := g_turned_map ok t0 t8
  have tm2 := g_turned_map (ok.T t) b0 b8
  have bb := bh_in (b := b) t0 t8
  have tm3 := g_turned_map ok bb.1 bb.2
  have te := g_turned_ends a d t0 t8
  have wi := g_window ok a d r0 r1 c0 c1
  have wo := g_window ok false false r0 r1 c0 c1
  have li := g_L_window ok a d r0 r1 c0 c1
  have lo := g_L_window ok false false r0 r1 c0 c1
  have du : ixD (.lst [eD a d, eD d a]) (.int (t % 2)) = some (if t % 2 = 0 then eD a d else eD d a) := by
    have : t % 2 = 0 ∨ t % 2 = 1 := by omega
    rcases this with e | e <;> rw [e] <;> rfl
  have ldu : lay 5 (if t % 2 = 0 then eD a d else eD d a) := by
    have : ∀ a b : Bool, lay 5 (eD a b) := fun a b => lay_up (n := 1) (lay_tup fun x hx => by
      simp only [List.mem_cons, List.not_mem_nil, or_false] at hx
      rcases hx with rfl | rfl
      · cases a <;> exact ⟨by decide +kernel, Nat.zero_le _, rfl⟩
      · cases b <;> exact ⟨by decide +kernel, Nat.zero_le _, rfl⟩) (by decide)
    split
    · exact this _ _
    · exact this _ _
  generalize hdu : (if t % 2 = 0 then eD a d else eD d a) = dr' at du ldu te
  have key : B_L_right [.ino xs, .un, .un, .un, .un, .un, .un, .un, .un] = .ret (.bl true) [.ino x7, .val (.int t), .val (.int b), .val (D g), .val (eD a d), .val dr', .val (.int r), .val (.int c), .val (winS g a d r c)] := by
    refine seq_step (par_ev (ci (a1 lit) e1) (ci (a1 lit) e2) rfl) ?_
    refine seq_step (par_ev (ci (acons (bin_ev lit (ci (a1 lit) e3) rfl) (acons lit (a1 lit))) e4) (ci a0 e5) rfl) ?_
    refine seq_step (if_no (or_no (not_ev (isB_ev (call_ev (acons rfl (a1 rfl)) (g_ways_right t0 t8 b0 b8)))) (isB_ev (bin_ev (call_ev (acons rfl (a1 rfl)) tm) (call_ev (acons rfl (a1 rfl)) (g_by ok t0)) (neD_self (lay_up (lay_D _) (by decide))))))) ?_
    refine seq_step (if_no (isB_ev (bin_ev (callK_ev a0 (acons rfl (a1 (call_ev (acons rfl (a1 rfl)) tm))) rfl tm2) (call_ev (acons rfl (a1 (call_ev (acons rfl (a1 rfl)) (g_behind b0 b8 t0 t8)))) tm3) (by rw [← twice g b0 b8 t0 t8]; exact neD_self (lay_up (lay_D _) (by decide)))))) ?_
    refine seq_step (set_ev (bin_ev (lst2_ev (acons rfl (a1 (un_ev rfl rfl)))) (bin_ev rfl lit (mod_ok (by decide))) du) rfl) ?_
    refine seq_step (if_no (or_no (isB_ev (bin_ev (call_ev (acons rfl (a1 rfl)) te) rfl (neD_self ldu))) (isB_ev (bin_ev (callK_ev a0 (acons rfl (a1 rfl)) rfl te) rfl (neD_self ldu))))) ?_
    refine seq_step (par_ev (ci (a1 (ev1 (a1 rfl) (len_D g))) e6) (ci (a1 (ev1 (a1 (bin_ev rfl lit i0)) (len_rw _ _))) e7) rfl) ?_
    refine seq_step (set_ev (call_ev (acons rfl (acons rfl (acons rfl (a1 rfl)))) li) rfl) ?_
    refine seq_step (if_no (or_no (isB_ev (bin_ev (callK_ev (acons rfl (acons rfl (a1 rfl))) (a1 rfl) rfl wi) rfl (neD_self (lay_up (lay_win _ _ _ _ _) (by decide))))) (isB_ev (bin_ev (callK_ev a0 (acons rfl (acons rfl (acons rfl (a1 rfl)))) rfl wi) rfl (neD_self (lay_up (lay_win _ _ _ _ _) (by decide))))))) ?_
    exact ret_ev (bin_ev (callD_ev (acons rfl (acons rfl (a1 rfl))) wo) (call_ev (acons rfl (acons (tup_ev (acons lit (a1 lit)) (Nat.le_of_ble_eq_true rfl)) (acons rfl (a1 rfl)))) lo) (eqD_self (lay_up (lay_win _ _ _ _ _) (by decide))))
  show (B_L_right [.ino xs, .un, .un, .un, .un, .un, .un, .un, .un]).inp = _
  rw [key]
  rfl
end Sv.pw_cellpictures_k01_ways_and_maps

set_option linter.all false
set_option maxRecDepth 100000
set_option maxHeartbeats 1000000
namespace Sv.pw_cellpictures_k01_ways_and_maps
open PySem L2 PyProof.Rows Sv
def UV (s : Sl) : Prop := s = .un ∨ ∃ d, s = .val d
theorem ci2 {ga : M (List Dat)} {G : List Dat → List Dat → O} {a b : Sl} {xs ys : List Dat} {tl : En} {ds : List Dat} {d : Dat} (h : ga (a :: b :: .own xs :: tl) = .ok ds (a :: b :: .own xs :: tl)) (hG : G xs ds = .ret d [.ino ys]) : M.callI 2 ga G (a :: b :: .own xs :: tl) = .ok d (a :: b :: .own ys :: tl) := by
  have e : hasS (a :: b :: .own xs :: tl) 2 = true := rfl
  unfold M.callI M.bnd
  rw [if_pos e, h]
  simp only [mutAt, gt2, hG, Sv.callI, putAt, st2, gt0]
theorem k_law1 {a b s : Sl} {xs : List Dat} (h : Pu 100000 xs) (hs : UV s) : ∃ ys s', UV s' ∧ F_law_1 [a, b, .own xs, s, .un, .un, .un, .un] = .nxt [a, b, .own ys, s', .un, .un, .un, .un] := by
  obtain ⟨ρ', e, ys, s', _, rfl, hs'⟩ := forL_inv (t := .one 3) (b := L_law_0) (P := fun k ρ => ∃ ys s', Pu (100000 + 50 * k) ys ∧ ρ = [a, b, .own ys, s', .un, .un, .un, .un] ∧ UV s') (ds0 := rgL 0 6) 6 (fun d hd k ρ hk ⟨ys, s', p, e, hs⟩ => by
    subst e
    obtain ⟨zs, p2, e2⟩ := g_right p (by omega)
    have s1 : setT (.one 3) d [a, b, .own ys, s', .un, .un, .un, .un] = some [a, b, .own ys, .val d, .un, .un, .un, .un] := by rcases hs with rfl | ⟨d', rfl⟩ <;> rfl
    exact ⟨_, _, s1, if_no (not_ev (isB_ev (ci2 a0 e2))), zs, .val d, p2.up (by omega), rfl, .inr ⟨d, rfl⟩⟩) (ds := rgL 0 6) (k := 0) (ρ := [a, b, .own xs, s, .un, .un, .un, .un]) (fun _ h => h) ⟨xs, s, by simpa using h, rfl, hs⟩ (by decide)
  exact ⟨ys, s', hs', forR_ev (as := [.int 6]) (ρ1 := [a, b, .own xs, s, .un, .un, .un, .un]) rfl rfl e⟩
theorem k_law3 {ns : List Int} : ∃ s1 s2 s3, UV s3 ∧ F_law_3 [.val (.scr (ns.map Dat.int)), .un, .un, .un, .un, .un, .un, .un] = .nxt [.val (.scr (ns.map Dat.int)), s1, s2, s3, .un, .un, .un, .un] := by
  let n : Int := 1 + (if (ns.length : Int) < 8 then (ns.length : Int) else 8)
  have n0 : 0 ≤ n := by show 0 ≤ 1 + (if (ns.length : Int) < 8 then (ns.length : Int) else 8); split <;> omega
  have n9 : n ≤ 9 := by show 1 + (if (ns.length : Int) < 8 then (ns.length : Int) else 8) ≤ 9; split <;> omega
  obtain ⟨ρ', e, s1, s2, s3, rfl, _, _, h3⟩ := forL_inv (t := .one 1) (b := L_law_2) (P := fun k ρ => ∃ s1 s2 s3, ρ = [.val (.scr (ns.map Dat.int)), s1, s2, s3, .un, .un, .un, .un] ∧ UV s1 ∧ (s2 = .un ∨ ∃ ys, s2 = .own ys) ∧ UV s3) (ds0 := rgL 0 n.toNat) n.toNat (fun d hd k ρ hk ⟨s1, s2, s3, e, q1, q2, q3⟩ => by
    subst e
    obtain ⟨i, hi, rfl⟩ := List.mem_map.mp hd
    have hi := List.mem_range.mp hi
    obtain ⟨xs, p, e2⟩ := g_purse (ns := ns) (at' := (0 : Int) + (i : Nat)) (by omega) (by omega)
    obtain ⟨ys, s', hs', e3⟩ := k_law1 (a := .val (.scr (ns.map Dat.int))) (b := .val (.int ((0 : Int) + (i : Nat)))) p q3
    have t1 : setT (.one 1) (.int ((0 : Int) + (i : Nat))) [.val (.scr (ns.map Dat.int)), s1, s2, s3, .un, .un, .un, .un] = some [.val (.scr (ns.map Dat.int)), .val (.int ((0 : Int) + (i : Nat))), s2, s3, .un, .un, .un, .un] := by rcases q1 with rfl | ⟨d', rfl⟩ <;> rfl
    have t2 : setNO (M.callN (M.cons (rdVar 0) ((M.cons (rdVar 1) ((M.ret []))))) [] G_L_purse) 2 [.val (.scr (ns.map Dat.int)), .val (.int ((0 : Int) + (i : Nat))), s2, s3, .un, .un, .un, .un] = .nxt [.val (.scr (ns.map Dat.int)), .val (.int ((0 : Int) + (i : Nat))), .own xs, s3, .un, .un, .un, .un] := by
      rcases q2 with rfl | ⟨ys, rfl⟩ <;> simp only [setNO, M.callN, M.cons, M.bnd, M.ret, rdVar, gt0, gt1, gt2, List.append_nil, e2, Sv.callN, R.toO, st2]
    exact ⟨_, _, t1, seq_step t2 e3, _, _, _, rfl, .inr ⟨_, rfl⟩, .inr ⟨_, rfl⟩, hs'⟩) (ds := rgL 0 n.toNat) (k := 0) (ρ := [.val (.scr (ns.map Dat.int)), .un, .un, .un, .un, .un, .un, .un]) (fun _ h => h) ⟨_, _, _, rfl, .inl rfl, .inl rfl, .inl rfl⟩ (by rw [rgL_len]; omega)
  have ln : lenD [.scr (ns.map Dat.int)] = some (.int ns.length) := by unfold lenD; simp
  refine ⟨s1, s2, s3, h3, forR_ev (as := [.int n]) (ρ1 := [.val (.scr (ns.map Dat.int)), .un, .un, .un, .un, .un, .un, .un]) ?_ (rg1_int n0 (by omega)) e⟩
  exact a1 (bin_ev lit (ev1 (acons lit (a1 (ev1 (a1 rfl) ln))) rfl) rfl)
theorem k_law6 {s0 s1 s2 s3 : Sl} (h3 : UV s3) : ∃ s3' s4', F_law_6 [s0, s1, s2, s3, .un, .un, .un, .un] = .nxt [s0, s1, s2, s3', s4', .un, .un, .un] := by
  have r8 : ∀ d ∈ rgL 0 8, ∃ i : Int, d = .int i ∧ 0 ≤ i ∧ i < 8 := fun d hd => by
    obtain ⟨i, hi, rfl⟩ := List.mem_map.mp hd
    have hi := List.mem_range.mp hi
    exact ⟨_, rfl, by omega, by omega⟩
  have inner : ∀ (t : Int), 0 ≤ t → t < 8 → ∀ s4, UV s4 → ∃ s4', UV s4' ∧ F_law_5 [s0, s1, s2, .val (.int t), s4, .un, .un, .un] = .nxt [s0, s1, s2, .val (.int t), s4', .un, .un, .un] := fun t t0 t8 s4 h4 => by
    obtain ⟨ρ', e, s4', rfl, hs'⟩ := forL_inv (t := .one 4) (b := L_law_4) (P := fun k ρ => ∃ s4', ρ = [s0, s1, s2, .val (.int t), s4', .un, .un, .un] ∧ UV s4') (ds0 := rgL 0 8) 8 (fun d hd k ρ hk ⟨s', e, hs⟩ => by
      subst e
      obtain ⟨b, rfl, b0, b8⟩ := r8 d hd
      have q1 : setT (.one 4) (.int b) [s0, s1, s2, .val (.int t), s', .un, .un, .un] = some [s0, s1, s2, .val (.int t), .val (.int b), .un, .un, .un] := by rcases hs with rfl | ⟨d', rfl⟩ <;> rfl
      exact ⟨_, _, q1, if_no (not_ev (isB_ev (call_ev (acons rfl (a1 rfl)) (g_ways_right t0 t8 b0 b8)))), _, rfl, .inr ⟨_, rfl⟩⟩) (ds := rgL 0 8) (k := 0) (ρ := [s0, s1, s2, .val (.int t), s4, .un, .un, .un]) (fun _ h => h) ⟨s4, rfl, h4⟩ (by decide)
    exact ⟨s4', hs', forR_ev (as := [.int 8]) (ρ1 := [s0, s1, s2, .val (.int t), s4, .un, .un, .un]) rfl rfl e⟩
  obtain ⟨ρ', e, s3', s4', rfl, _, _⟩ := forL_inv (t := .one 3) (b := F_law_5) (P := fun k ρ => ∃ s3' s4', ρ = [s0, s1, s2, s3', s4', .un, .un, .un] ∧ UV s3' ∧ UV s4') (ds0 := rgL 0 8) 8 (fun d hd k ρ hk ⟨s3', s4', e, q3, q4⟩ => by
    subst e
    obtain ⟨t, rfl, t0, t8⟩ := r8 d hd
    obtain ⟨s', hs', e'⟩ := inner t t0 t8 s4' q4
    have q1 : setT (.one 3) (.int t) [s0, s1, s2, s3', s4', .un, .un, .un] = some [s0, s1, s2, .val (.int t), s4', .un, .un, .un] := by rcases q3 with rfl | ⟨d', rfl⟩ <;> rfl
    exact ⟨_, _, q1, e', _, _, rfl, .inr ⟨_, rfl⟩, hs'⟩) (ds := rgL 0 8) (k := 0) (ρ := [s0, s1, s2, s3, .un, .un, .un, .un]) (fun _ h => h) ⟨s3, .un, rfl, h3, .inl rfl⟩ (by decide)
  exact ⟨s3', s4', forR_ev (as := [.int 8]) (ρ1 := [s0, s1, s2, s3, .un, .un, .un, .un]) rfl rfl e⟩
theorem law_true (ns : List Int) (h : ns.length ≤ 63) : G_law [.scr (ns.map Dat.int)] = .ret (.bl true) [] := by
  obtain ⟨s1, s2, s3, h3, e3⟩ := k_law3 (ns := ns)
  obtain ⟨s3', s4', e6⟩ := k_law6 (s0 := .val (.scr (ns.map Dat.int))) (s1 := s1) (s2 := s2) h3
  show (B_law [.val (.scr (ns.map Dat.int)), .un, .un, .un, .un, .un, .un, .un]).pur = _
  generalize Sl.val (.scr (ns.map Dat.int)) = s0 at e3 e6 ⊢
  have key : B_law [s0, .un, .un, .un, .un, .un, .un, .un] = .ret (.bl true) [s0, s1, s2, s3', s4', .val (.lst [.int 2, .int 3, .int 4, .int 5, .int 6, .int 7, .int 0, .int 1, .int 0, .int 3, .int 2, .int 1]), .un, .un] := by
    refine seq_step e3 (seq_step e6 ?_)
    kernel_rfl
  rw [key]
  rfl
end Sv.pw_cellpictures_k01_ways_and_maps

set_option Elab.async false
set_option linter.all false
set_option maxRecDepth 100000
set_option maxHeartbeats 4000000
namespace Sv.pw_cellpictures_k01_ways_and_maps
open PySem L2 PyProof.Rows Sv
theorem all_mk {l : PySem.W.OpenLaw} {w : World} {K : PySem.W.Frag} {h : Heap} {mg : Str → Option Value} {fa : Addr} (X : K.In h) (G : h.Ns mainGlobals mg) (hfa : mg "law" = some (.ref fa))
    {C_PictureError : Addr} {C_InvalidNumber : Addr} {C_InvalidWay : Addr} {C_InvalidMap : Addr} {C_InvalidEnds : Addr} {C_InvalidCell : Addr} {fi_InvalidNumber ns_InvalidNumber : Addr} {nm_InvalidNumber qn_InvalidNumber : Str} {bs_InvalidNumber : List Value} {sn_InvalidNumber : List Str} {sb_InvalidNumber : List Value} {ab_InvalidNumber : Bool} {co_InvalidNumber : Option Bool} {dd_InvalidNumber od_InvalidNumber an_InvalidNumber : Option Addr} {k0_InvalidNumber k1_InvalidNumber k2_InvalidNumber k3_InvalidNumber k5_InvalidNumber : Option Value} {oc_InvalidNumber dc_InvalidNumber pm_InvalidNumber cd_InvalidNumber cw_InvalidNumber : Value} {os_InvalidNumber : Array (Option Value)} {fi_InvalidWay ns_InvalidWay : Addr} {nm_InvalidWay qn_InvalidWay : Str} {bs_InvalidWay : List Value} {sn_InvalidWay : List Str} {sb_InvalidWay : List Value} {ab_InvalidWay : Bool} {co_InvalidWay : Option Bool} {dd_InvalidWay od_InvalidWay an_InvalidWay : Option Addr} {k0_InvalidWay k1_InvalidWay k2_InvalidWay k3_InvalidWay k5_InvalidWay : Option Value} {oc_InvalidWay dc_InvalidWay pm_InvalidWay cd_InvalidWay cw_InvalidWay : Value} {os_InvalidWay : Array (Option Value)} {fi_InvalidMap ns_InvalidMap : Addr} {nm_InvalidMap qn_InvalidMap : Str} {bs_InvalidMap : List Value} {sn_InvalidMap : List Str} {sb_InvalidMap : List Value} {ab_InvalidMap : Bool} {co_InvalidMap : Option Bool} {dd_InvalidMap od_InvalidMap an_InvalidMap : Option Addr} {k0_InvalidMap k1_InvalidMap k2_InvalidMap k3_InvalidMap k5_InvalidMap : Option Value} {oc_InvalidMap dc_InvalidMap pm_InvalidMap cd_InvalidMap cw_InvalidMap : Value} {os_InvalidMap : Array (Option Value)} {fi_InvalidEnds ns_InvalidEnds : Addr} {nm_InvalidEnds qn_InvalidEnds : Str} {bs_InvalidEnds : List Value} {sn_InvalidEnds : List Str} {sb_InvalidEnds : List Value} {ab_InvalidEnds : Bool} {co_InvalidEnds : Option Bool} {dd_InvalidEnds od_InvalidEnds an_InvalidEnds : Option Addr} {k0_InvalidEnds k1_InvalidEnds k2_InvalidEnds k3_InvalidEnds k5_InvalidEnds : Option Value} {oc_InvalidEnds dc_InvalidEnds pm_InvalidEnds cd_InvalidEnds cw_InvalidEnds : Value} {os_InvalidEnds : Array (Option Value)} {fi_InvalidCell ns_InvalidCell : Addr} {nm_InvalidCell qn_InvalidCell : Str} {bs_InvalidCell : List Value} {sn_InvalidCell : List Str} {sb_InvalidCell : List Value} {ab_InvalidCell : Bool} {co_InvalidCell : Option Bool} {dd_InvalidCell od_InvalidCell an_InvalidCell : Option Addr} {k0_InvalidCell k1_InvalidCell k2_InvalidCell k3_InvalidCell k5_InvalidCell : Option Value} {oc_InvalidCell dc_InvalidCell pm_InvalidCell cd_InvalidCell cw_InvalidCell : Value} {os_InvalidCell : Array (Option Value)} {tk11} {tk12} {ad13 : Addr} {n13} {sl13} {tk14} {tk15} {ad16 : Addr} {n16} {sl16} {tk17} {tk18} {ad19 : Addr} {n19} {sl19} {tk20} {tk21} {ad22 : Addr} {n22} {sl22} {tk23} {tk24} {ad25 : Addr} {n25} {sl25} {tk26} {tk27} {ad28 : Addr} {n28} {sl28} {tk29} {tk30} {ad31 : Addr} {n31} {sl31} {tk32} {tk33} {ad34 : Addr} {n34} {sl34} {ad35 : Addr} {n35} {sl35} {kV_L_purse : Value} {f_L_purse : Addr} {od_L_purse an_L_purse : Option Addr} {os_L_purse : Array (Option Value)} {oc_L_purse dc_L_purse pm_L_purse cd_L_purse ct_L_purse : Value} {kV_L_mixed : Value} {f_L_mixed : Addr} {od_L_mixed an_L_mixed : Option Addr} {os_L_mixed : Array (Option Value)} {oc_L_mixed dc_L_mixed pm_L_mixed cd_L_mixed ct_L_mixed : Value} {kV_L_draw : Value} {f_L_draw : Addr} {od_L_draw an_L_draw : Option Addr} {os_L_draw : Array (Option Value)} {oc_L_draw dc_L_draw pm_L_draw cd_L_draw ct_L_draw : Value} {kV_L_map : Value} {f_L_map : Addr} {od_L_map an_L_map : Option Addr} {os_L_map : Array (Option Value)} {oc_L_map dc_L_map pm_L_map cd_L_map ct_L_map : Value} {kV_L_ends : Value} {f_L_ends : Addr} {od_L_ends an_L_ends : Option Addr} {os_L_ends : Array (Option Value)} {oc_L_ends dc_L_ends pm_L_ends cd_L_ends ct_L_ends : Value} {kV_is_count : Value} {f_is_count : Addr} {od_is_count an_is_count : Option Addr} {os_is_count : Array (Option Value)} {oc_is_count dc_is_count pm_is_count cd_is_count ct_is_count : Value} {kV_is_count_below : Value} {f_is_count_below : Addr} {od_is_count_below an_is_count_below : Option Addr} {os_is_count_below : Array (Option Value)} {oc_is_count_below dc_is_count_below pm_is_count_below cd_is_count_below ct_is_count_below : Value} {kV_is_way : Value} {f_is_way : Addr} {od_is_way an_is_way : Option Addr} {os_is_way : Array (Option Value)} {oc_is_way dc_is_way pm_is_way cd_is_way ct_is_way : Value} {kV_check_way : Value} {f_check_way : Addr} {od_check_way an_check_way : Option Addr} {os_check_way : Array (Option Value)} {oc_check_way dc_check_way pm_check_way cd_check_way ct_check_way : Value} {kV_behind : Value} {f_behind : Addr} {od_behind an_behind : Option Addr} {os_behind : Array (Option Value)} {oc_behind dc_behind pm_behind cd_behind ct_behind : Value} {kV_L_quarter : Value} {f_L_quarter : Addr} {od_L_quarter an_L_quarter : Option Addr} {os_L_quarter : Array (Option Value)} {oc_L_quarter dc_L_quarter pm_L_quarter cd_L_quarter ct_L_quarter : Value} {kV_L_by : Value} {f_L_by : Addr} {od_L_by an_L_by : Option Addr} {os_L_by : Array (Option Value)} {oc_L_by dc_L_by pm_L_by cd_L_by ct_L_by : Value} {kV_L_after : Value} {f_L_after : Addr} {od_L_after an_L_after : Option Addr} {os_L_after : Array (Option Value)} {oc_L_after dc_L_after pm_L_after cd_L_after ct_L_after : Value} {kV_inverse : Value} {f_inverse : Addr} {od_inverse an_inverse : Option Addr} {os_inverse : Array (Option Value)} {oc_inverse dc_inverse pm_inverse cd_inverse ct_inverse : Value} {kV_L_ring : Value} {f_L_ring : Addr} {od_L_ring an_L_ring : Option Addr} {os_L_ring : Array (Option Value)} {oc_L_ring dc_L_ring pm_L_ring cd_L_ring ct_L_ring : Value} {kV_L_places : Value} {f_L_places : Addr} {od_L_places an_L_places : Option Addr} {os_L_places : Array (Option Value)} {oc_L_places dc_L_places pm_L_places cd_L_places ct_L_places : Value} {kV_check_number : Value} {f_check_number : Addr} {od_check_number an_check_number : Option Addr} {os_check_number : Array (Option Value)} {oc_check_number dc_check_number pm_check_number cd_check_number ct_check_number : Value} {kV_place_to : Value} {f_place_to : Addr} {od_place_to an_place_to : Option Addr} {os_place_to : Array (Option Value)} {oc_place_to dc_place_to pm_place_to cd_place_to ct_place_to : Value} {kV_side_to : Value} {f_side_to : Addr} {od_side_to an_side_to : Option Addr} {os_side_to : Array (Option Value)} {oc_side_to dc_side_to pm_side_to cd_side_to ct_side_to : Value} {kV_L_ways_right : Value} {f_L_ways_right : Addr} {od_L_ways_right an_L_ways_right : Option Addr} {os_L_ways_right : Array (Option Value)} {oc_L_ways_right dc_L_ways_right pm_L_ways_right cd_L_ways_right ct_L_ways_right : Value} {kV_is_row : Value} {f_is_row : Addr} {od_is_row an_is_row : Option Addr} {os_is_row : Array (Option Value)} {oc_is_row dc_is_row pm_is_row cd_is_row ct_is_row : Value} {kV_is_grid : Value} {f_is_grid : Addr} {od_is_grid an_is_grid : Option Addr} {os_is_grid : Array (Option Value)} {oc_is_grid dc_is_grid pm_is_grid cd_is_grid ct_is_grid : Value} {kV_check_map : Value} {f_check_map : Addr} {od_check_map an_check_map : Option Addr} {os_check_map : Array (Option Value)} {oc_check_map dc_check_map pm_check_map cd_check_map ct_check_map : Value} {kV_mirrored : Value} {f_mirrored : Addr} {od_mirrored an_mirrored : Option Addr} {os_mirrored : Array (Option Value)} {oc_mirrored dc_mirrored pm_mirrored cd_mirrored ct_mirrored : Value} {kV_turned_once : Value} {f_turned_once : Addr} {od_turned_once an_turned_once : Option Addr} {os_turned_once : Array (Option Value)} {oc_turned_once dc_turned_once pm_turned_once cd_turned_once ct_turned_once : Value} {kV_turned_map : Value} {f_turned_map : Addr} {od_turned_map an_turned_map : Option Addr} {os_turned_map : Array (Option Value)} {oc_turned_map dc_turned_map pm_turned_map cd_turned_map ct_turned_map : Value} {kV_is_end : Value} {f_is_end : Addr} {od_is_end an_is_end : Option Addr} {os_is_end : Array (Option Value)} {oc_is_end dc_is_end pm_is_end cd_is_end ct_is_end : Value} {kV_check_ends : Value} {f_check_ends : Addr} {od_check_ends an_check_ends : Option Addr} {os_check_ends : Array (Option Value)} {oc_check_ends dc_check_ends pm_check_ends cd_check_ends ct_check_ends : Value} {kV_turned_ends : Value} {f_turned_ends : Addr} {od_turned_ends an_turned_ends : Option Addr} {os_turned_ends : Array (Option Value)} {oc_turned_ends dc_turned_ends pm_turned_ends cd_turned_ends ct_turned_ends : Value} {kV_L_kind : Value} {f_L_kind : Addr} {od_L_kind an_L_kind : Option Addr} {os_L_kind : Array (Option Value)} {oc_L_kind dc_L_kind pm_L_kind cd_L_kind ct_L_kind : Value} {kV_L_window : Value} {f_L_window : Addr} {od_L_window an_L_window : Option Addr} {os_L_window : Array (Option Value)} {oc_L_window dc_L_window pm_L_window cd_L_window ct_L_window : Value} {kV_check_cell : Value} {f_check_cell : Addr} {od_check_cell an_check_cell : Option Addr} {os_check_cell : Array (Option Value)} {oc_check_cell dc_check_cell pm_check_cell cd_check_cell ct_check_cell : Value} {kV_line_at : Value} {f_line_at : Addr} {od_line_at an_line_at : Option Addr} {os_line_at : Array (Option Value)} {oc_line_at dc_line_at pm_line_at cd_line_at ct_line_at : Value} {kV_kind_at : Value} {f_kind_at : Addr} {od_kind_at an_kind_at : Option Addr} {os_kind_at : Array (Option Value)} {oc_kind_at dc_kind_at pm_kind_at cd_kind_at ct_kind_at : Value} {kV_kinds_around : Value} {f_kinds_around : Addr} {od_kinds_around an_kinds_around : Option Addr} {os_kinds_around : Array (Option Value)} {oc_kinds_around dc_kinds_around pm_kinds_around cd_kinds_around ct_kinds_around : Value} {kD_window : Addr} {f_window : Addr} {od_window an_window : Option Addr} {os_window : Array (Option Value)} {oc_window dc_window pm_window cd_window ct_window : Value} {kV_L_right : Value} {f_L_right : Addr} {od_L_right an_L_right : Option Addr} {os_L_right : Array (Option Value)} {oc_L_right dc_L_right pm_L_right cd_L_right ct_L_right : Value} {kV_law : Value} {f_law : Addr} {od_law an_law : Option Addr} {os_law : Array (Option Value)} {oc_law dc_law pm_law cd_law ct_law : Value} {tk112} {tk113} {ad114 : Addr} {n114} {sl114}
    (ca_PictureError : PySem.W.nsIn K mainGlobals "PictureError" = some (some (.ref C_PictureError)))
    (ca_InvalidNumber : PySem.W.nsIn K mainGlobals "InvalidNumber" = some (some (.ref C_InvalidNumber)))
    (ca_InvalidWay : PySem.W.nsIn K mainGlobals "InvalidWay" = some (some (.ref C_InvalidWay)))
    (ca_InvalidMap : PySem.W.nsIn K mainGlobals "InvalidMap" = some (some (.ref C_InvalidMap)))
    (ca_InvalidEnds : PySem.W.nsIn K mainGlobals "InvalidEnds" = some (some (.ref C_InvalidEnds)))
    (ca_InvalidCell : PySem.W.nsIn K mainGlobals "InvalidCell" = some (some (.ref C_InvalidCell)))
    (cl_InvalidNumber : K.lookup C_InvalidNumber = some (excClassObj nm_InvalidNumber qn_InvalidNumber C_InvalidNumber ns_InvalidNumber bs_InvalidNumber [.ref C_PictureError, .type "ValueError", .type "Exception", .type "BaseException", .type "object"] true sn_InvalidNumber sb_InvalidNumber ab_InvalidNumber co_InvalidNumber dd_InvalidNumber k0_InvalidNumber k1_InvalidNumber k2_InvalidNumber k3_InvalidNumber k5_InvalidNumber "ValueError.__new__"))
    (csa_InvalidNumber : PySem.W.findIn K (.ref C_InvalidNumber) "__setattr__" = some (some (.builtin "object.__setattr__")))
    (cga_InvalidNumber : PySem.W.findIn K (.ref C_InvalidNumber) "__getattribute__" = some (some (.builtin "BaseException.__getattribute__")))
    (cgg_InvalidNumber : PySem.W.findIn K (.ref C_InvalidNumber) "__getattr__" = some none)
    (cno_InvalidNumber : PySem.W.findIn K (.ref C_InvalidNumber) "thing" = some none)
    (cin_InvalidNumber : PySem.W.findIn K (.ref C_InvalidNumber) "__init__" = some (some (.ref fi_InvalidNumber)))
    (cf_InvalidNumber : PySem.W.typeIn K (.ref fi_InvalidNumber) = some (.type "function"))
    (ck_InvalidNumber : PySem.W.keepIn K (.ref C_InvalidNumber) = true)
    (ch_InvalidNumber : PySem.W.hasDictIn K C_InvalidNumber = true)
    (ce_InvalidNumber : PySem.W.subIn K (.ref C_InvalidNumber) (.type "BaseException") = some true)
    (ct_InvalidNumber : PySem.W.typeIn K (.ref C_InvalidNumber) = some (.type "type"))
    (ci_InvalidNumber : PySem.W.isClsIn K C_InvalidNumber = true)
    (cs_InvalidNumber : PySem.W.subIn K (.ref C_InvalidNumber) (.ref C_InvalidNumber) = some true)
    (cn_InvalidNumber : K.lookup fi_InvalidNumber = some ⟨oc_InvalidNumber, od_InvalidNumber, .func (PySem.W.fnOf "__init__" "InvalidNumber.__init__" (PySem.LowXT.iA ⟨6, 17, 6, 21⟩ ⟨6, 23, 6, 28⟩) (PySem.LowXT.iB ⟨7, 8, 7, 12⟩ ⟨7, 8, 7, 18⟩ ⟨7, 21, 7, 26⟩ ⟨7, 8, 7, 26⟩) PySem.LowXT.iS .none .none dc_InvalidNumber pm_InvalidNumber an_InvalidNumber cd_InvalidNumber cw_InvalidNumber), os_InvalidNumber⟩)
    (cc_InvalidNumber : PySem.W.codeIn K cd_InvalidNumber "InvalidNumber.__init__" = true)
    (cl_InvalidWay : K.lookup C_InvalidWay = some (excClassObj nm_InvalidWay qn_InvalidWay C_InvalidWay ns_InvalidWay bs_InvalidWay [.ref C_PictureError, .type "ValueError", .type "Exception", .type "BaseException", .type "object"] true sn_InvalidWay sb_InvalidWay ab_InvalidWay co_InvalidWay dd_InvalidWay k0_InvalidWay k1_InvalidWay k2_InvalidWay k3_InvalidWay k5_InvalidWay "ValueError.__new__"))
    (csa_InvalidWay : PySem.W.findIn K (.ref C_InvalidWay) "__setattr__" = some (some (.builtin "object.__setattr__")))
    (cga_InvalidWay : PySem.W.findIn K (.ref C_InvalidWay) "__getattribute__" = some (some (.builtin "BaseException.__getattribute__")))
    (cgg_InvalidWay : PySem.W.findIn K (.ref C_InvalidWay) "__getattr__" = some none)
    (cno_InvalidWay : PySem.W.findIn K (.ref C_InvalidWay) "thing" = some none)
    (cin_InvalidWay : PySem.W.findIn K (.ref C_InvalidWay) "__init__" = some (some (.ref fi_InvalidWay)))
    (cf_InvalidWay : PySem.W.typeIn K (.ref fi_InvalidWay) = some (.type "function"))
    (ck_InvalidWay : PySem.W.keepIn K (.ref C_InvalidWay) = true)
    (ch_InvalidWay : PySem.W.hasDictIn K C_InvalidWay = true)
    (ce_InvalidWay : PySem.W.subIn K (.ref C_InvalidWay) (.type "BaseException") = some true)
    (ct_InvalidWay : PySem.W.typeIn K (.ref C_InvalidWay) = some (.type "type"))
    (ci_InvalidWay : PySem.W.isClsIn K C_InvalidWay = true)
    (cs_InvalidWay : PySem.W.subIn K (.ref C_InvalidWay) (.ref C_InvalidWay) = some true)
    (cn_InvalidWay : K.lookup fi_InvalidWay = some ⟨oc_InvalidWay, od_InvalidWay, .func (PySem.W.fnOf "__init__" "InvalidWay.__init__" (PySem.LowXT.iA ⟨10, 17, 10, 21⟩ ⟨10, 23, 10, 28⟩) (PySem.LowXT.iB ⟨11, 8, 11, 12⟩ ⟨11, 8, 11, 18⟩ ⟨11, 21, 11, 26⟩ ⟨11, 8, 11, 26⟩) PySem.LowXT.iS .none .none dc_InvalidWay pm_InvalidWay an_InvalidWay cd_InvalidWay cw_InvalidWay), os_InvalidWay⟩)
    (cc_InvalidWay : PySem.W.codeIn K cd_InvalidWay "InvalidWay.__init__" = true)
    (cl_InvalidMap : K.lookup C_InvalidMap = some (excClassObj nm_InvalidMap qn_InvalidMap C_InvalidMap ns_InvalidMap bs_InvalidMap [.ref C_PictureError, .type "ValueError", .type "Exception", .type "BaseException", .type "object"] true sn_InvalidMap sb_InvalidMap ab_InvalidMap co_InvalidMap dd_InvalidMap k0_InvalidMap k1_InvalidMap k2_InvalidMap k3_InvalidMap k5_InvalidMap "ValueError.__new__"))
    (csa_InvalidMap : PySem.W.findIn K (.ref C_InvalidMap) "__setattr__" = some (some (.builtin "object.__setattr__")))
    (cga_InvalidMap : PySem.W.findIn K (.ref C_InvalidMap) "__getattribute__" = some (some (.builtin "BaseException.__getattribute__")))
    (cgg_InvalidMap : PySem.W.findIn K (.ref C_InvalidMap) "__getattr__" = some none)
    (cno_InvalidMap : PySem.W.findIn K (.ref C_InvalidMap) "thing" = some none)
    (cin_InvalidMap : PySem.W.findIn K (.ref C_InvalidMap) "__init__" = some (some (.ref fi_InvalidMap)))
    (cf_InvalidMap : PySem.W.typeIn K (.ref fi_InvalidMap) = some (.type "function"))
    (ck_InvalidMap : PySem.W.keepIn K (.ref C_InvalidMap) = true)
    (ch_InvalidMap : PySem.W.hasDictIn K C_InvalidMap = true)
    (ce_InvalidMap : PySem.W.subIn K (.ref C_InvalidMap) (.type "BaseException") = some true)
    (ct_InvalidMap : PySem.W.typeIn K (.ref C_InvalidMap) = some (.type "type"))
    (ci_InvalidMap : PySem.W.isClsIn K C_InvalidMap = true)
    (cs_InvalidMap : PySem.W.subIn K (.ref C_InvalidMap) (.ref C_InvalidMap) = some true)
    (cn_InvalidMap : K.lookup fi_InvalidMap = some ⟨oc_InvalidMap, od_InvalidMap, .func (PySem.W.fnOf "__init__" "InvalidMap.__init__" (PySem.LowXT.iA ⟨14, 17, 14, 21⟩ ⟨14, 23, 14, 28⟩) (PySem.LowXT.iB ⟨15, 8, 15, 12⟩ ⟨15, 8, 15, 18⟩ ⟨15, 21, 15, 26⟩ ⟨15, 8, 15, 26⟩) PySem.LowXT.iS .none .none dc_InvalidMap pm_InvalidMap an_InvalidMap cd_InvalidMap cw_InvalidMap), os_InvalidMap⟩)
    (cc_InvalidMap : PySem.W.codeIn K cd_InvalidMap "InvalidMap.__init__" = true)
    (cl_InvalidEnds : K.lookup C_InvalidEnds = some (excClassObj nm_InvalidEnds qn_InvalidEnds C_InvalidEnds ns_InvalidEnds bs_InvalidEnds [.ref C_PictureError, .type "ValueError", .type "Exception", .type "BaseException", .type "object"] true sn_InvalidEnds sb_InvalidEnds ab_InvalidEnds co_InvalidEnds dd_InvalidEnds k0_InvalidEnds k1_InvalidEnds k2_InvalidEnds k3_InvalidEnds k5_InvalidEnds "ValueError.__new__"))
    (csa_InvalidEnds : PySem.W.findIn K (.ref C_InvalidEnds) "__setattr__" = some (some (.builtin "object.__setattr__")))
    (cga_InvalidEnds : PySem.W.findIn K (.ref C_InvalidEnds) "__getattribute__" = some (some (.builtin "BaseException.__getattribute__")))
    (cgg_InvalidEnds : PySem.W.findIn K (.ref C_InvalidEnds) "__getattr__" = some none)
    (cno_InvalidEnds : PySem.W.findIn K (.ref C_InvalidEnds) "thing" = some none)
    (cin_InvalidEnds : PySem.W.findIn K (.ref C_InvalidEnds) "__init__" = some (some (.ref fi_InvalidEnds)))
    (cf_InvalidEnds : PySem.W.typeIn K (.ref fi_InvalidEnds) = some (.type "function"))
    (ck_InvalidEnds : PySem.W.keepIn K (.ref C_InvalidEnds) = true)
    (ch_InvalidEnds : PySem.W.hasDictIn K C_InvalidEnds = true)
    (ce_InvalidEnds : PySem.W.subIn K (.ref C_InvalidEnds) (.type "BaseException") = some true)
    (ct_InvalidEnds : PySem.W.typeIn K (.ref C_InvalidEnds) = some (.type "type"))
    (ci_InvalidEnds : PySem.W.isClsIn K C_InvalidEnds = true)
    (cs_InvalidEnds : PySem.W.subIn K (.ref C_InvalidEnds) (.ref C_InvalidEnds) = some true)
    (cn_InvalidEnds : K.lookup fi_InvalidEnds = some ⟨oc_InvalidEnds, od_InvalidEnds, .func (PySem.W.fnOf "__init__" "InvalidEnds.__init__" (PySem.LowXT.iA ⟨18, 17, 18, 21⟩ ⟨18, 23, 18, 28⟩) (PySem.LowXT.iB ⟨19, 8, 19, 12⟩ ⟨19, 8, 19, 18⟩ ⟨19, 21, 19, 26⟩ ⟨19, 8, 19, 26⟩) PySem.LowXT.iS .none .none dc_InvalidEnds pm_InvalidEnds an_InvalidEnds cd_InvalidEnds cw_InvalidEnds), os_InvalidEnds⟩)
    (cc_InvalidEnds : PySem.W.codeIn K cd_InvalidEnds "InvalidEnds.__init__" = true)
    (cl_InvalidCell : K.lookup C_InvalidCell = some (excClassObj nm_InvalidCell qn_InvalidCell C_InvalidCell ns_InvalidCell bs_InvalidCell [.ref C_PictureError, .type "ValueError", .type "Exception", .type "BaseException", .type "object"] true sn_InvalidCell sb_InvalidCell ab_InvalidCell co_InvalidCell dd_InvalidCell k0_InvalidCell k1_InvalidCell k2_InvalidCell k3_InvalidCell k5_InvalidCell "ValueError.__new__"))
    (csa_InvalidCell : PySem.W.findIn K (.ref C_InvalidCell) "__setattr__" = some (some (.builtin "object.__setattr__")))
    (cga_InvalidCell : PySem.W.findIn K (.ref C_InvalidCell) "__getattribute__" = some (some (.builtin "BaseException.__getattribute__")))
    (cgg_InvalidCell : PySem.W.findIn K (.ref C_InvalidCell) "__getattr__" = some none)
    (cno_InvalidCell : PySem.W.findIn K (.ref C_InvalidCell) "thing" = some none)
    (cin_InvalidCell : PySem.W.findIn K (.ref C_InvalidCell) "__init__" = some (some (.ref fi_InvalidCell)))
    (cf_InvalidCell : PySem.W.typeIn K (.ref fi_InvalidCell) = some (.type "function"))
    (ck_InvalidCell : PySem.W.keepIn K (.ref C_InvalidCell) = true)
    (ch_InvalidCell : PySem.W.hasDictIn K C_InvalidCell = true)
    (ce_InvalidCell : PySem.W.subIn K (.ref C_InvalidCell) (.type "BaseException") = some true)
    (ct_InvalidCell : PySem.W.typeIn K (.ref C_InvalidCell) = some (.type "type"))
    (ci_InvalidCell : PySem.W.isClsIn K C_InvalidCell = true)
    (cs_InvalidCell : PySem.W.subIn K (.ref C_InvalidCell) (.ref C_InvalidCell) = some true)
    (cn_InvalidCell : K.lookup fi_InvalidCell = some ⟨oc_InvalidCell, od_InvalidCell, .func (PySem.W.fnOf "__init__" "InvalidCell.__init__" (PySem.LowXT.iA ⟨22, 17, 22, 21⟩ ⟨22, 23, 22, 28⟩) (PySem.LowXT.iB ⟨23, 8, 23, 12⟩ ⟨23, 8, 23, 18⟩ ⟨23, 21, 23, 26⟩ ⟨23, 8, 23, 26⟩) PySem.LowXT.iS .none .none dc_InvalidCell pm_InvalidCell an_InvalidCell cd_InvalidCell cw_InvalidCell), os_InvalidCell⟩)
    (cc_InvalidCell : PySem.W.codeIn K cd_InvalidCell "InvalidCell.__init__" = true)
    (nc_STEPS : PySem.W.nsIn K mainGlobals "STEPS" = some (some (.ref ad35)))
    (t35 : K.lookup ad35 = some ⟨.type "tuple", none, .seq #[.ref ad13, .ref ad16, .ref ad19, .ref ad22, .ref ad25, .ref ad28, .ref ad31, .ref ad34] n35, sl35⟩)
    (t34 : K.lookup ad34 = some ⟨.type "tuple", none, .seq #[.int 0 tk32, .int (-1) tk33] n34, sl34⟩)
    (t31 : K.lookup ad31 = some ⟨.type "tuple", none, .seq #[.int 1 tk29, .int (-1) tk30] n31, sl31⟩)
    (t28 : K.lookup ad28 = some ⟨.type "tuple", none, .seq #[.int 1 tk26, .int 0 tk27] n28, sl28⟩)
    (t25 : K.lookup ad25 = some ⟨.type "tuple", none, .seq #[.int 1 tk23, .int 1 tk24] n25, sl25⟩)
    (t22 : K.lookup ad22 = some ⟨.type "tuple", none, .seq #[.int 0 tk20, .int 1 tk21] n22, sl22⟩)
    (t19 : K.lookup ad19 = some ⟨.type "tuple", none, .seq #[.int (-1) tk17, .int 1 tk18] n19, sl19⟩)
    (t16 : K.lookup ad16 = some ⟨.type "tuple", none, .seq #[.int (-1) tk14, .int 0 tk15] n16, sl16⟩)
    (t13 : K.lookup ad13 = some ⟨.type "tuple", none, .seq #[.int (-1) tk11, .int (-1) tk12] n13, sl13⟩)
    (a_L_purse : PySem.W.nsIn K mainGlobals "_law_purse" = some (some (.ref f_L_purse)))
    (l_L_purse : K.lookup f_L_purse = some ⟨oc_L_purse, od_L_purse, .func (PySem.W.fnOf "_law_purse" "_law_purse" (defArgs st_L_purse) (defBody st_L_purse) (defScope st_L_purse) .none kV_L_purse dc_L_purse pm_L_purse an_L_purse cd_L_purse ct_L_purse), os_L_purse⟩)
    (c_L_purse : PySem.W.codeIn K cd_L_purse "_law_purse" = true)
    (k_L_purse : PySem.W.keepIn K (.ref f_L_purse) = true)
    (a_L_mixed : PySem.W.nsIn K mainGlobals "_law_mixed" = some (some (.ref f_L_mixed)))
    (l_L_mixed : K.lookup f_L_mixed = some ⟨oc_L_mixed, od_L_mixed, .func (PySem.W.fnOf "_law_mixed" "_law_mixed" (defArgs st_L_mixed) (defBody st_L_mixed) (defScope st_L_mixed) .none kV_L_mixed dc_L_mixed pm_L_mixed an_L_mixed cd_L_mixed ct_L_mixed), os_L_mixed⟩)
    (c_L_mixed : PySem.W.codeIn K cd_L_mixed "_law_mixed" = true)
    (k_L_mixed : PySem.W.keepIn K (.ref f_L_mixed) = true)
    (a_L_draw : PySem.W.nsIn K mainGlobals "_law_draw" = some (some (.ref f_L_draw)))
    (l_L_draw : K.lookup f_L_draw = some ⟨oc_L_draw, od_L_draw, .func (PySem.W.fnOf "_law_draw" "_law_draw" (defArgs st_L_draw) (defBody st_L_draw) (defScope st_L_draw) .none kV_L_draw dc_L_draw pm_L_draw an_L_draw cd_L_draw ct_L_draw), os_L_draw⟩)
    (c_L_draw : PySem.W.codeIn K cd_L_draw "_law_draw" = true)
    (k_L_draw : PySem.W.keepIn K (.ref f_L_draw) = true)
    (a_L_map : PySem.W.nsIn K mainGlobals "_law_map" = some (some (.ref f_L_map)))
    (l_L_map : K.lookup f_L_map = some ⟨oc_L_map, od_L_map, .func (PySem.W.fnOf "_law_map" "_law_map" (defArgs st_L_map) (defBody st_L_map) (defScope st_L_map) .none kV_L_map dc_L_map pm_L_map an_L_map cd_L_map ct_L_map), os_L_map⟩)
    (c_L_map : PySem.W.codeIn K cd_L_map "_law_map" = true)
    (k_L_map : PySem.W.keepIn K (.ref f_L_map) = true)
    (a_L_ends : PySem.W.nsIn K mainGlobals "_law_ends" = some (some (.ref f_L_ends)))
    (l_L_ends : K.lookup f_L_ends = some ⟨oc_L_ends, od_L_ends, .func (PySem.W.fnOf "_law_ends" "_law_ends" (defArgs st_L_ends) (defBody st_L_ends) (defScope st_L_ends) .none kV_L_ends dc_L_ends pm_L_ends an_L_ends cd_L_ends ct_L_ends), os_L_ends⟩)
    (c_L_ends : PySem.W.codeIn K cd_L_ends "_law_ends" = true)
    (k_L_ends : PySem.W.keepIn K (.ref f_L_ends) = true)
    (a_is_count : PySem.W.nsIn K mainGlobals "is_count" = some (some (.ref f_is_count)))
    (l_is_count : K.lookup f_is_count = some ⟨oc_is_count, od_is_count, .func (PySem.W.fnOf "is_count" "is_count" (defArgs st_is_count) (defBody st_is_count) (defScope st_is_count) .none kV_is_count dc_is_count pm_is_count an_is_count cd_is_count ct_is_count), os_is_count⟩)
    (c_is_count : PySem.W.codeIn K cd_is_count "is_count" = true)
    (k_is_count : PySem.W.keepIn K (.ref f_is_count) = true)
    (a_is_count_below : PySem.W.nsIn K mainGlobals "is_count_below" = some (some (.ref f_is_count_below)))
    (l_is_count_below : K.lookup f_is_count_below = some ⟨oc_is_count_below, od_is_count_below, .func (PySem.W.fnOf "is_count_below" "is_count_below" (defArgs st_is_count_below) (defBody st_is_count_below) (defScope st_is_count_below) .none kV_is_count_below dc_is_count_below pm_is_count_below an_is_count_below cd_is_count_below ct_is_count_below), os_is_count_below⟩)
    (c_is_count_below : PySem.W.codeIn K cd_is_count_below "is_count_below" = true)
    (k_is_count_below : PySem.W.keepIn K (.ref f_is_count_below) = true)
    (a_is_way : PySem.W.nsIn K mainGlobals "is_way" = some (some (.ref f_is_way)))
    (l_is_way : K.lookup f_is_way = some ⟨oc_is_way, od_is_way, .func (PySem.W.fnOf "is_way" "is_way" (defArgs st_is_way) (defBody st_is_way) (defScope st_is_way) .none kV_is_way dc_is_way pm_is_way an_is_way cd_is_way ct_is_way), os_is_way⟩)
    (c_is_way : PySem.W.codeIn K cd_is_way "is_way" = true)
    (k_is_way : PySem.W.keepIn K (.ref f_is_way) = true)
    (a_check_way : PySem.W.nsIn K mainGlobals "check_way" = some (some (.ref f_check_way)))
    (l_check_way : K.lookup f_check_way = some ⟨oc_check_way, od_check_way, .func (PySem.W.fnOf "check_way" "check_way" (defArgs st_check_way) (defBody st_check_way) (defScope st_check_way) .none kV_check_way dc_check_way pm_check_way an_check_way cd_check_way ct_check_way), os_check_way⟩)
    (c_check_way : PySem.W.codeIn K cd_check_way "check_way" = true)
    (k_check_way : PySem.W.keepIn K (.ref f_check_way) = true)
    (a_behind : PySem.W.nsIn K mainGlobals "behind" = some (some (.ref f_behind)))
    (l_behind : K.lookup f_behind = some ⟨oc_behind, od_behind, .func (PySem.W.fnOf "behind" "behind" (defArgs st_behind) (defBody st_behind) (defScope st_behind) .none kV_behind dc_behind pm_behind an_behind cd_behind ct_behind), os_behind⟩)
    (c_behind : PySem.W.codeIn K cd_behind "behind" = true)
    (k_behind : PySem.W.keepIn K (.ref f_behind) = true)
    (a_L_quarter : PySem.W.nsIn K mainGlobals "_law_quarter" = some (some (.ref f_L_quarter)))
    (l_L_quarter : K.lookup f_L_quarter = some ⟨oc_L_quarter, od_L_quarter, .func (PySem.W.fnOf "_law_quarter" "_law_quarter" (defArgs st_L_quarter) (defBody st_L_quarter) (defScope st_L_quarter) .none kV_L_quarter dc_L_quarter pm_L_quarter an_L_quarter cd_L_quarter ct_L_quarter), os_L_quarter⟩)
    (c_L_quarter : PySem.W.codeIn K cd_L_quarter "_law_quarter" = true)
    (k_L_quarter : PySem.W.keepIn K (.ref f_L_quarter) = true)
    (a_L_by : PySem.W.nsIn K mainGlobals "_law_by" = some (some (.ref f_L_by)))
    (l_L_by : K.lookup f_L_by = some ⟨oc_L_by, od_L_by, .func (PySem.W.fnOf "_law_by" "_law_by" (defArgs st_L_by) (defBody st_L_by) (defScope st_L_by) .none kV_L_by dc_L_by pm_L_by an_L_by cd_L_by ct_L_by), os_L_by⟩)
    (c_L_by : PySem.W.codeIn K cd_L_by "_law_by" = true)
    (k_L_by : PySem.W.keepIn K (.ref f_L_by) = true)
    (a_L_after : PySem.W.nsIn K mainGlobals "_law_after" = some (some (.ref f_L_after)))
    (l_L_after : K.lookup f_L_after = some ⟨oc_L_after, od_L_after, .func (PySem.W.fnOf "_law_after" "_law_after" (defArgs st_L_after) (defBody st_L_after) (defScope st_L_after) .none kV_L_after dc_L_after pm_L_after an_L_after cd_L_after ct_L_after), os_L_after⟩)
    (c_L_after : PySem.W.codeIn K cd_L_after "_law_after" = true)
    (k_L_after : PySem.W.keepIn K (.ref f_L_after) = true)
    (a_inverse : PySem.W.nsIn K mainGlobals "inverse" = some (some (.ref f_inverse)))
    (l_inverse : K.lookup f_inverse = some ⟨oc_inverse, od_inverse, .func (PySem.W.fnOf "inverse" "inverse" (defArgs st_inverse) (defBody st_inverse) (defScope st_inverse) .none kV_inverse dc_inverse pm_inverse an_inverse cd_inverse ct_inverse), os_inverse⟩)
    (c_inverse : PySem.W.codeIn K cd_inverse "inverse" = true)
    (k_inverse : PySem.W.keepIn K (.ref f_inverse) = true)
    (a_L_ring : PySem.W.nsIn K mainGlobals "_law_ring" = some (some (.ref f_L_ring)))
    (l_L_ring : K.lookup f_L_ring = some ⟨oc_L_ring, od_L_ring, .func (PySem.W.fnOf "_law_ring" "_law_ring" (defArgs st_L_ring) (defBody st_L_ring) (defScope st_L_ring) .none kV_L_ring dc_L_ring pm_L_ring an_L_ring cd_L_ring ct_L_ring), os_L_ring⟩)
    (c_L_ring : PySem.W.codeIn K cd_L_ring "_law_ring" = true)
    (k_L_ring : PySem.W.keepIn K (.ref f_L_ring) = true)
    (a_L_places : PySem.W.nsIn K mainGlobals "_law_places" = some (some (.ref f_L_places)))
    (l_L_places : K.lookup f_L_places = some ⟨oc_L_places, od_L_places, .func (PySem.W.fnOf "_law_places" "_law_places" (defArgs st_L_places) (defBody st_L_places) (defScope st_L_places) .none kV_L_places dc_L_places pm_L_places an_L_places cd_L_places ct_L_places), os_L_places⟩)
    (c_L_places : PySem.W.codeIn K cd_L_places "_law_places" = true)
    (k_L_places : PySem.W.keepIn K (.ref f_L_places) = true)
    (a_check_number : PySem.W.nsIn K mainGlobals "check_number" = some (some (.ref f_check_number)))
    (l_check_number : K.lookup f_check_number = some ⟨oc_check_number, od_check_number, .func (PySem.W.fnOf "check_number" "check_number" (defArgs st_check_number) (defBody st_check_number) (defScope st_check_number) .none kV_check_number dc_check_number pm_check_number an_check_number cd_check_number ct_check_number), os_check_number⟩)
    (c_check_number : PySem.W.codeIn K cd_check_number "check_number" = true)
    (k_check_number : PySem.W.keepIn K (.ref f_check_number) = true)
    (a_place_to : PySem.W.nsIn K mainGlobals "place_to" = some (some (.ref f_place_to)))
    (l_place_to : K.lookup f_place_to = some ⟨oc_place_to, od_place_to, .func (PySem.W.fnOf "place_to" "place_to" (defArgs st_place_to) (defBody st_place_to) (defScope st_place_to) .none kV_place_to dc_place_to pm_place_to an_place_to cd_place_to ct_place_to), os_place_to⟩)
    (c_place_to : PySem.W.codeIn K cd_place_to "place_to" = true)
    (k_place_to : PySem.W.keepIn K (.ref f_place_to) = true)
    (a_side_to : PySem.W.nsIn K mainGlobals "side_to" = some (some (.ref f_side_to)))
    (l_side_to : K.lookup f_side_to = some ⟨oc_side_to, od_side_to, .func (PySem.W.fnOf "side_to" "side_to" (defArgs st_side_to) (defBody st_side_to) (defScope st_side_to) .none kV_side_to dc_side_to pm_side_to an_side_to cd_side_to ct_side_to), os_side_to⟩)
    (c_side_to : PySem.W.codeIn K cd_side_to "side_to" = true)
    (k_side_to : PySem.W.keepIn K (.ref f_side_to) = true)
    (a_L_ways_right : PySem.W.nsIn K mainGlobals "_law_ways_right" = some (some (.ref f_L_ways_right)))
    (l_L_ways_right : K.lookup f_L_ways_right = some ⟨oc_L_ways_right, od_L_ways_right, .func (PySem.W.fnOf "_law_ways_right" "_law_ways_right" (defArgs st_L_ways_right) (defBody st_L_ways_right) (defScope st_L_ways_right) .none kV_L_ways_right dc_L_ways_right pm_L_ways_right an_L_ways_right cd_L_ways_right ct_L_ways_right), os_L_ways_right⟩)
    (c_L_ways_right : PySem.W.codeIn K cd_L_ways_right "_law_ways_right" = true)
    (k_L_ways_right : PySem.W.keepIn K (.ref f_L_ways_right) = true)
    (a_is_row : PySem.W.nsIn K mainGlobals "is_row" = some (some (.ref f_is_row)))
    (l_is_row : K.lookup f_is_row = some ⟨oc_is_row, od_is_row, .func (PySem.W.fnOf "is_row" "is_row" (defArgs st_is_row) (defBody st_is_row) (defScope st_is_row) .none kV_is_row dc_is_row pm_is_row an_is_row cd_is_row ct_is_row), os_is_row⟩)
    (c_is_row : PySem.W.codeIn K cd_is_row "is_row" = true)
    (k_is_row : PySem.W.keepIn K (.ref f_is_row) = true)
    (a_is_grid : PySem.W.nsIn K mainGlobals "is_grid" = some (some (.ref f_is_grid)))
    (l_is_grid : K.lookup f_is_grid = some ⟨oc_is_grid, od_is_grid, .func (PySem.W.fnOf "is_grid" "is_grid" (defArgs st_is_grid) (defBody st_is_grid) (defScope st_is_grid) .none kV_is_grid dc_is_grid pm_is_grid an_is_grid cd_is_grid ct_is_grid), os_is_grid⟩)
    (c_is_grid : PySem.W.codeIn K cd_is_grid "is_grid" = true)
    (k_is_grid : PySem.W.keepIn K (.ref f_is_grid) = true)
    (a_check_map : PySem.W.nsIn K mainGlobals "check_map" = some (some (.ref f_check_map)))
    (l_check_map : K.lookup f_check_map = some ⟨oc_check_map, od_check_map, .func (PySem.W.fnOf "check_map" "check_map" (defArgs st_check_map) (defBody st_check_map) (defScope st_check_map) .none kV_check_map dc_check_map pm_check_map an_check_map cd_check_map ct_check_map), os_check_map⟩)
    (c_check_map : PySem.W.codeIn K cd_check_map "check_map" = true)
    (k_check_map : PySem.W.keepIn K (.ref f_check_map) = true)
    (a_mirrored : PySem.W.nsIn K mainGlobals "mirrored" = some (some (.ref f_mirrored)))
    (l_mirrored : K.lookup f_mirrored = some ⟨oc_mirrored, od_mirrored, .func (PySem.W.fnOf "mirrored" "mirrored" (defArgs st_mirrored) (defBody st_mirrored) (defScope st_mirrored) .none kV_mirrored dc_mirrored pm_mirrored an_mirrored cd_mirrored ct_mirrored), os_mirrored⟩)
    (c_mirrored : PySem.W.codeIn K cd_mirrored "mirrored" = true)
    (k_mirrored : PySem.W.keepIn K (.ref f_mirrored) = true)
    (a_turned_once : PySem.W.nsIn K mainGlobals "turned_once" = some (some (.ref f_turned_once)))
    (l_turned_once : K.lookup f_turned_once = some ⟨oc_turned_once, od_turned_once, .func (PySem.W.fnOf "turned_once" "turned_once" (defArgs st_turned_once) (defBody st_turned_once) (defScope st_turned_once) .none kV_turned_once dc_turned_once pm_turned_once an_turned_once cd_turned_once ct_turned_once), os_turned_once⟩)
    (c_turned_once : PySem.W.codeIn K cd_turned_once "turned_once" = true)
    (k_turned_once : PySem.W.keepIn K (.ref f_turned_once) = true)
    (a_turned_map : PySem.W.nsIn K mainGlobals "turned_map" = some (some (.ref f_turned_map)))
    (l_turned_map : K.lookup f_turned_map = some ⟨oc_turned_map, od_turned_map, .func (PySem.W.fnOf "turned_map" "turned_map" (defArgs st_turned_map) (defBody st_turned_map) (defScope st_turned_map) .none kV_turned_map dc_turned_map pm_turned_map an_turned_map cd_turned_map ct_turned_map), os_turned_map⟩)
    (c_turned_map : PySem.W.codeIn K cd_turned_map "turned_map" = true)
    (k_turned_map : PySem.W.keepIn K (.ref f_turned_map) = true)
    (a_is_end : PySem.W.nsIn K mainGlobals "is_end" = some (some (.ref f_is_end)))
    (l_is_end : K.lookup f_is_end = some ⟨oc_is_end, od_is_end, .func (PySem.W.fnOf "is_end" "is_end" (defArgs st_is_end) (defBody st_is_end) (defScope st_is_end) .none kV_is_end dc_is_end pm_is_end an_is_end cd_is_end ct_is_end), os_is_end⟩)
    (c_is_end : PySem.W.codeIn K cd_is_end "is_end" = true)
    (k_is_end : PySem.W.keepIn K (.ref f_is_end) = true)
    (a_check_ends : PySem.W.nsIn K mainGlobals "check_ends" = some (some (.ref f_check_ends)))
    (l_check_ends : K.lookup f_check_ends = some ⟨oc_check_ends, od_check_ends, .func (PySem.W.fnOf "check_ends" "check_ends" (defArgs st_check_ends) (defBody st_check_ends) (defScope st_check_ends) .none kV_check_ends dc_check_ends pm_check_ends an_check_ends cd_check_ends ct_check_ends), os_check_ends⟩)
    (c_check_ends : PySem.W.codeIn K cd_check_ends "check_ends" = true)
    (k_check_ends : PySem.W.keepIn K (.ref f_check_ends) = true)
    (a_turned_ends : PySem.W.nsIn K mainGlobals "turned_ends" = some (some (.ref f_turned_ends)))
    (l_turned_ends : K.lookup f_turned_ends = some ⟨oc_turned_ends, od_turned_ends, .func (PySem.W.fnOf "turned_ends" "turned_ends" (defArgs st_turned_ends) (defBody st_turned_ends) (defScope st_turned_ends) .none kV_turned_ends dc_turned_ends pm_turned_ends an_turned_ends cd_turned_ends ct_turned_ends), os_turned_ends⟩)
    (c_turned_ends : PySem.W.codeIn K cd_turned_ends "turned_ends" = true)
    (k_turned_ends : PySem.W.keepIn K (.ref f_turned_ends) = true)
    (a_L_kind : PySem.W.nsIn K mainGlobals "_law_kind" = some (some (.ref f_L_kind)))
    (l_L_kind : K.lookup f_L_kind = some ⟨oc_L_kind, od_L_kind, .func (PySem.W.fnOf "_law_kind" "_law_kind" (defArgs st_L_kind) (defBody st_L_kind) (defScope st_L_kind) .none kV_L_kind dc_L_kind pm_L_kind an_L_kind cd_L_kind ct_L_kind), os_L_kind⟩)
    (c_L_kind : PySem.W.codeIn K cd_L_kind "_law_kind" = true)
    (k_L_kind : PySem.W.keepIn K (.ref f_L_kind) = true)
    (a_L_window : PySem.W.nsIn K mainGlobals "_law_window" = some (some (.ref f_L_window)))
    (l_L_window : K.lookup f_L_window = some ⟨oc_L_window, od_L_window, .func (PySem.W.fnOf "_law_window" "_law_window" (defArgs st_L_window) (defBody st_L_window) (defScope st_L_window) .none kV_L_window dc_L_window pm_L_window an_L_window cd_L_window ct_L_window), os_L_window⟩)
    (c_L_window : PySem.W.codeIn K cd_L_window "_law_window" = true)
    (k_L_window : PySem.W.keepIn K (.ref f_L_window) = true)
    (a_check_cell : PySem.W.nsIn K mainGlobals "check_cell" = some (some (.ref f_check_cell)))
    (l_check_cell : K.lookup f_check_cell = some ⟨oc_check_cell, od_check_cell, .func (PySem.W.fnOf "check_cell" "check_cell" (defArgs st_check_cell) (defBody st_check_cell) (defScope st_check_cell) .none kV_check_cell dc_check_cell pm_check_cell an_check_cell cd_check_cell ct_check_cell), os_check_cell⟩)
    (c_check_cell : PySem.W.codeIn K cd_check_cell "check_cell" = true)
    (k_check_cell : PySem.W.keepIn K (.ref f_check_cell) = true)
    (a_line_at : PySem.W.nsIn K mainGlobals "line_at" = some (some (.ref f_line_at)))
    (l_line_at : K.lookup f_line_at = some ⟨oc_line_at, od_line_at, .func (PySem.W.fnOf "line_at" "line_at" (defArgs st_line_at) (defBody st_line_at) (defScope st_line_at) .none kV_line_at dc_line_at pm_line_at an_line_at cd_line_at ct_line_at), os_line_at⟩)
    (c_line_at : PySem.W.codeIn K cd_line_at "line_at" = true)
    (k_line_at : PySem.W.keepIn K (.ref f_line_at) = true)
    (a_kind_at : PySem.W.nsIn K mainGlobals "kind_at" = some (some (.ref f_kind_at)))
    (l_kind_at : K.lookup f_kind_at = some ⟨oc_kind_at, od_kind_at, .func (PySem.W.fnOf "kind_at" "kind_at" (defArgs st_kind_at) (defBody st_kind_at) (defScope st_kind_at) .none kV_kind_at dc_kind_at pm_kind_at an_kind_at cd_kind_at ct_kind_at), os_kind_at⟩)
    (c_kind_at : PySem.W.codeIn K cd_kind_at "kind_at" = true)
    (k_kind_at : PySem.W.keepIn K (.ref f_kind_at) = true)
    (a_kinds_around : PySem.W.nsIn K mainGlobals "kinds_around" = some (some (.ref f_kinds_around)))
    (l_kinds_around : K.lookup f_kinds_around = some ⟨oc_kinds_around, od_kinds_around, .func (PySem.W.fnOf "kinds_around" "kinds_around" (defArgs st_kinds_around) (defBody st_kinds_around) (defScope st_kinds_around) .none kV_kinds_around dc_kinds_around pm_kinds_around an_kinds_around cd_kinds_around ct_kinds_around), os_kinds_around⟩)
    (c_kinds_around : PySem.W.codeIn K cd_kinds_around "kinds_around" = true)
    (k_kinds_around : PySem.W.keepIn K (.ref f_kinds_around) = true)
    (a_window : PySem.W.nsIn K mainGlobals "window" = some (some (.ref f_window)))
    (l_window : K.lookup f_window = some ⟨oc_window, od_window, .func (PySem.W.fnOf "window" "window" (defArgs st_window) (defBody st_window) (defScope st_window) .none (.ref kD_window) dc_window pm_window an_window cd_window ct_window), os_window⟩)
    (c_window : PySem.W.codeIn K cd_window "window" = true)
    (k_window : PySem.W.keepIn K (.ref f_window) = true)
    (a_L_right : PySem.W.nsIn K mainGlobals "_law_right" = some (some (.ref f_L_right)))
    (l_L_right : K.lookup f_L_right = some ⟨oc_L_right, od_L_right, .func (PySem.W.fnOf "_law_right" "_law_right" (defArgs st_L_right) (defBody st_L_right) (defScope st_L_right) .none kV_L_right dc_L_right pm_L_right an_L_right cd_L_right ct_L_right), os_L_right⟩)
    (c_L_right : PySem.W.codeIn K cd_L_right "_law_right" = true)
    (k_L_right : PySem.W.keepIn K (.ref f_L_right) = true)
    (a_law : PySem.W.nsIn K mainGlobals "law" = some (some (.ref f_law)))
    (l_law : K.lookup f_law = some ⟨oc_law, od_law, .func (PySem.W.fnOf "law" "law" (defArgs st_law) (defBody st_law) (defScope st_law) .none kV_law dc_law pm_law an_law cd_law ct_law), os_law⟩)
    (c_law : PySem.W.codeIn K cd_law "law" = true)
    (k_law : PySem.W.keepIn K (.ref f_law) = true)
    (dk_window_ends : PySem.W.nsIn K kD_window "ends" = some (some (.ref ad114)))
    (t114 : K.lookup ad114 = some ⟨.type "tuple", none, .seq #[.str "open" tk112, .str "open" tk113] n114, sl114⟩)
    (zz_all : PySem.W.nsIn K mainGlobals "all" = some none)
    (zz_bool : PySem.W.nsIn K mainGlobals "bool" = some none)
    (zz_int : PySem.W.nsIn K mainGlobals "int" = some none)
    (zz_isinstance : PySem.W.nsIn K mainGlobals "isinstance" = some none)
    (zz_len : PySem.W.nsIn K mainGlobals "len" = some none)
    (zz_max : PySem.W.nsIn K mainGlobals "max" = some none)
    (zz_min : PySem.W.nsIn K mainGlobals "min" = some none)
    (zz_range : PySem.W.nsIn K mainGlobals "range" = some none)
    (zz_str : PySem.W.nsIn K mainGlobals "str" = some none)
    (zz_tuple : PySem.W.nsIn K mainGlobals "tuple" = some none)
    (zz_zip : PySem.W.nsIn K mainGlobals "zip" = some none) :
    ∃ fd : FuncData, (∀ (s : Shared) (v : Value), BindsTo s fd ⟨[v], []⟩ [("script", v)]) ∧ ∀ base : Heap, K.In base → base.Ns mainGlobals mg → FnG l.prog w K mg base (L2.CX l.prog w) 9 fa fd ["script"] (spLaw K) := by
  have e := hfa.symm.trans (PySem.W.mg_of X G a_law)
  cases e
  have F_L_purse : Fun K "_law_purse" "_law_purse" st_L_purse _ _ := fun_mk l_L_purse c_L_purse k_L_purse
  have m_L_purse := PySem.W.mg_of X G a_L_purse
  have F_L_mixed : Fun K "_law_mixed" "_law_mixed" st_L_mixed _ _ := fun_mk l_L_mixed c_L_mixed k_L_mixed
  have m_L_mixed := PySem.W.mg_of X G a_L_mixed
  have F_L_draw : Fun K "_law_draw" "_law_draw" st_L_draw _ _ := fun_mk l_L_draw c_L_draw k_L_draw
  have m_L_draw := PySem.W.mg_of X G a_L_draw
  have F_L_map : Fun K "_law_map" "_law_map" st_L_map _ _ := fun_mk l_L_map c_L_map k_L_map
  have m_L_map := PySem.W.mg_of X G a_L_map
  have F_L_ends : Fun K "_law_ends" "_law_ends" st_L_ends _ _ := fun_mk l_L_ends c_L_ends k_L_ends
  have m_L_ends := PySem.W.mg_of X G a_L_ends
  have F_is_count : Fun K "is_count" "is_count" st_is_count _ _ := fun_mk l_is_count c_is_count k_is_count
  have m_is_count := PySem.W.mg_of X G a_is_count
  have F_is_count_below : Fun K "is_count_below" "is_count_below" st_is_count_below _ _ := fun_mk l_is_count_below c_is_count_below k_is_count_below
  have m_is_count_below := PySem.W.mg_of X G a_is_count_below
  have F_is_way : Fun K "is_way" "is_way" st_is_way _ _ := fun_mk l_is_way c_is_way k_is_way
  have m_is_way := PySem.W.mg_of X G a_is_way
  have F_check_way : Fun K "check_way" "check_way" st_check_way _ _ := fun_mk l_check_way c_check_way k_check_way
  have m_check_way := PySem.W.mg_of X G a_check_way
  have F_behind : Fun K "behind" "behind" st_behind _ _ := fun_mk l_behind c_behind k_behind
  have m_behind := PySem.W.mg_of X G a_behind
  have F_L_quarter : Fun K "_law_quarter" "_law_quarter" st_L_quarter _ _ := fun_mk l_L_quarter c_L_quarter k_L_quarter
  have m_L_quarter := PySem.W.mg_of X G a_L_quarter
  have F_L_by : Fun K "_law_by" "_law_by" st_L_by _ _ := fun_mk l_L_by c_L_by k_L_by
  have m_L_by := PySem.W.mg_of X G a_L_by
  have F_L_after : Fun K "_law_after" "_law_after" st_L_after _ _ := fun_mk l_L_after c_L_after k_L_after
  have m_L_after := PySem.W.mg_of X G a_L_after
  have F_inverse : Fun K "inverse" "inverse" st_inverse _ _ := fun_mk l_inverse c_inverse k_inverse
  have m_inverse := PySem.W.mg_of X G a_inverse
  have F_L_ring : Fun K "_law_ring" "_law_ring" st_L_ring _ _ := fun_mk l_L_ring c_L_ring k_L_ring
  have m_L_ring := PySem.W.mg_of X G a_L_ring
  have F_L_places : Fun K "_law_places" "_law_places" st_L_places _ _ := fun_mk l_L_places c_L_places k_L_places
  have m_L_places := PySem.W.mg_of X G a_L_places
  have F_check_number : Fun K "check_number" "check_number" st_check_number _ _ := fun_mk l_check_number c_check_number k_check_number
  have m_check_number := PySem.W.mg_of X G a_check_number
  have F_place_to : Fun K "place_to" "place_to" st_place_to _ _ := fun_mk l_place_to c_place_to k_place_to
  have m_place_to := PySem.W.mg_of X G a_place_to
  have F_side_to : Fun K "side_to" "side_to" st_side_to _ _ := fun_mk l_side_to c_side_to k_side_to
  have m_side_to := PySem.W.mg_of X G a_side_to
  have F_L_ways_right : Fun K "_law_ways_right" "_law_ways_right" st_L_ways_right _ _ := fun_mk l_L_ways_right c_L_ways_right k_L_ways_right
  have m_L_ways_right := PySem.W.mg_of X G a_L_ways_right
  have F_is_row : Fun K "is_row" "is_row" st_is_row _ _ := fun_mk l_is_row c_is_row k_is_row
  have m_is_row := PySem.W.mg_of X G a_is_row
  have F_is_grid : Fun K "is_grid" "is_grid" st_is_grid _ _ := fun_mk l_is_grid c_is_grid k_is_grid
  have m_is_grid := PySem.W.mg_of X G a_is_grid
  have F_check_map : Fun K "check_map" "check_map" st_check_map _ _ := fun_mk l_check_map c_check_map k_check_map
  have m_check_map := PySem.W.mg_of X G a_check_map
  have F_mirrored : Fun K "mirrored" "mirrored" st_mirrored _ _ := fun_mk l_mirrored c_mirrored k_mirrored
  have m_mirrored := PySem.W.mg_of X G a_mirrored
  have F_turned_once : Fun K "turned_once" "turned_once" st_turned_once _ _ := fun_mk l_turned_once c_turned_once k_turned_once
  have m_turned_once := PySem.W.mg_of X G a_turned_once
  have F_turned_map : Fun K "turned_map" "turned_map" st_turned_map _ _ := fun_mk l_turned_map c_turned_map k_turned_map
  have m_turned_map := PySem.W.mg_of X G a_turned_map
  have F_is_end : Fun K "is_end" "is_end" st_is_end _ _ := fun_mk l_is_end c_is_end k_is_end
  have m_is_end := PySem.W.mg_of X G a_is_end
  have F_check_ends : Fun K "check_ends" "check_ends" st_check_ends _ _ := fun_mk l_check_ends c_check_ends k_check_ends
  have m_check_ends := PySem.W.mg_of X G a_check_ends
  have F_turned_ends : Fun K "turned_ends" "turned_ends" st_turned_ends _ _ := fun_mk l_turned_ends c_turned_ends k_turned_ends
  have m_turned_ends := PySem.W.mg_of X G a_turned_ends
  have F_L_kind : Fun K "_law_kind" "_law_kind" st_L_kind _ _ := fun_mk l_L_kind c_L_kind k_L_kind
  have m_L_kind := PySem.W.mg_of X G a_L_kind
  have F_L_window : Fun K "_law_window" "_law_window" st_L_window _ _ := fun_mk l_L_window c_L_window k_L_window
  have m_L_window := PySem.W.mg_of X G a_L_window
  have F_check_cell : Fun K "check_cell" "check_cell" st_check_cell _ _ := fun_mk l_check_cell c_check_cell k_check_cell
  have m_check_cell := PySem.W.mg_of X G a_check_cell
  have F_line_at : Fun K "line_at" "line_at" st_line_at _ _ := fun_mk l_line_at c_line_at k_line_at
  have m_line_at := PySem.W.mg_of X G a_line_at
  have F_kind_at : Fun K "kind_at" "kind_at" st_kind_at _ _ := fun_mk l_kind_at c_kind_at k_kind_at
  have m_kind_at := PySem.W.mg_of X G a_kind_at
  have F_kinds_around : Fun K "kinds_around" "kinds_around" st_kinds_around _ _ := fun_mk l_kinds_around c_kinds_around k_kinds_around
  have m_kinds_around := PySem.W.mg_of X G a_kinds_around
  have F_window : Fun K "window" "window" st_window _ _ := fun_mk l_window c_window k_window
  have m_window := PySem.W.mg_of X G a_window
  have F_L_right : Fun K "_law_right" "_law_right" st_L_right _ _ := fun_mk l_L_right c_L_right k_L_right
  have m_L_right := PySem.W.mg_of X G a_L_right
  have F_law : Fun K "law" "law" st_law _ _ := fun_mk l_law c_law k_law
  have m_law := PySem.W.mg_of X G a_law
  have m_PictureError := PySem.W.mg_of X G ca_PictureError
  have m_InvalidNumber := PySem.W.mg_of X G ca_InvalidNumber
  have m_InvalidWay := PySem.W.mg_of X G ca_InvalidWay
  have m_InvalidMap := PySem.W.mg_of X G ca_InvalidMap
  have m_InvalidEnds := PySem.W.mg_of X G ca_InvalidEnds
  have m_InvalidCell := PySem.W.mg_of X G ca_InvalidCell
  have x_InvalidNumber : ExT K mg "InvalidNumber" := ⟨_, _, _, { gC := m_InvalidNumber, cls := ⟨_, _, _, _, _, _, _, _, _, _, _, _, _, _, _, cl_InvalidNumber, by rfl⟩, sa := csa_InvalidNumber, ga := cga_InvalidNumber, gg := cgg_InvalidNumber, noN := cno_InvalidNumber, iC := cin_InvalidNumber, tC := cf_InvalidNumber, kC := ck_InvalidNumber, exC := ce_InvalidNumber, tyC := ct_InvalidNumber, hdC := ch_InvalidNumber, te := exm_pair ce_InvalidNumber ci_InvalidNumber ct_InvalidNumber cs_InvalidNumber, fn := ⟨_, _, _, _, _, _, _, _, _, _, _, _, _, _, cn_InvalidNumber, cc_InvalidNumber⟩ }⟩
  have x_InvalidWay : ExT K mg "InvalidWay" := ⟨_, _, _, { gC := m_InvalidWay, cls := ⟨_, _, _, _, _, _, _, _, _, _, _, _, _, _, _, cl_InvalidWay, by rfl⟩, sa := csa_InvalidWay, ga := cga_InvalidWay, gg := cgg_InvalidWay, noN := cno_InvalidWay, iC := cin_InvalidWay, tC := cf_InvalidWay, kC := ck_InvalidWay, exC := ce_InvalidWay, tyC := ct_InvalidWay, hdC := ch_InvalidWay, te := exm_pair ce_InvalidWay ci_InvalidWay ct_InvalidWay cs_InvalidWay, fn := ⟨_, _, _, _, _, _, _, _, _, _, _, _, _, _, cn_InvalidWay, cc_InvalidWay⟩ }⟩
  have x_InvalidMap : ExT K mg "InvalidMap" := ⟨_, _, _, { gC := m_InvalidMap, cls := ⟨_, _, _, _, _, _, _, _, _, _, _, _, _, _, _, cl_InvalidMap, by rfl⟩, sa := csa_InvalidMap, ga := cga_InvalidMap, gg := cgg_InvalidMap, noN := cno_InvalidMap, iC := cin_InvalidMap, tC := cf_InvalidMap, kC := ck_InvalidMap, exC := ce_InvalidMap, tyC := ct_InvalidMap, hdC := ch_InvalidMap, te := exm_pair ce_InvalidMap ci_InvalidMap ct_InvalidMap cs_InvalidMap, fn := ⟨_, _, _, _, _, _, _, _, _, _, _, _, _, _, cn_InvalidMap, cc_InvalidMap⟩ }⟩
  have x_InvalidEnds : ExT K mg "InvalidEnds" := ⟨_, _, _, { gC := m_InvalidEnds, cls := ⟨_, _, _, _, _, _, _, _, _, _, _, _, _, _, _, cl_InvalidEnds, by rfl⟩, sa := csa_InvalidEnds, ga := cga_InvalidEnds, gg := cgg_InvalidEnds, noN := cno_InvalidEnds, iC := cin_InvalidEnds, tC := cf_InvalidEnds, kC := ck_InvalidEnds, exC := ce_InvalidEnds, tyC := ct_InvalidEnds, hdC := ch_InvalidEnds, te := exm_pair ce_InvalidEnds ci_InvalidEnds ct_InvalidEnds cs_InvalidEnds, fn := ⟨_, _, _, _, _, _, _, _, _, _, _, _, _, _, cn_InvalidEnds, cc_InvalidEnds⟩ }⟩
  have x_InvalidCell : ExT K mg "InvalidCell" := ⟨_, _, _, { gC := m_InvalidCell, cls := ⟨_, _, _, _, _, _, _, _, _, _, _, _, _, _, _, cl_InvalidCell, by rfl⟩, sa := csa_InvalidCell, ga := cga_InvalidCell, gg := cgg_InvalidCell, noN := cno_InvalidCell, iC := cin_InvalidCell, tC := cf_InvalidCell, kC := ck_InvalidCell, exC := ce_InvalidCell, tyC := ct_InvalidCell, hdC := ch_InvalidCell, te := exm_pair ce_InvalidCell ci_InvalidCell ct_InvalidCell cs_InvalidCell, fn := ⟨_, _, _, _, _, _, _, _, _, _, _, _, _, _, cn_InvalidCell, cc_InvalidCell⟩ }⟩
  have C_STEPS := kv_glob (PySem.W.mg_of X G nc_STEPS) (kv_tup t35 (Nat.le_of_ble_eq_true rfl) (kvs_cons (kv_tup t13 (Nat.le_of_ble_eq_true rfl) (kvs_cons kv_int (kvs_cons kv_int kvs_nil))) (kvs_cons (kv_tup t16 (Nat.le_of_ble_eq_true rfl) (kvs_cons kv_int (kvs_cons kv_int kvs_nil))) (kvs_cons (kv_tup t19 (Nat.le_of_ble_eq_true rfl) (kvs_cons kv_int (kvs_cons kv_int kvs_nil))) (kvs_cons (kv_tup t22 (Nat.le_of_ble_eq_true rfl) (kvs_cons kv_int (kvs_cons kv_int kvs_nil))) (kvs_cons (kv_tup t25 (Nat.le_of_ble_eq_true rfl) (kvs_cons kv_int (kvs_cons kv_int kvs_nil))) (kvs_cons (kv_tup t28 (Nat.le_of_ble_eq_true rfl) (kvs_cons kv_int (kvs_cons kv_int kvs_nil))) (kvs_cons (kv_tup t31 (Nat.le_of_ble_eq_true rfl) (kvs_cons kv_int (kvs_cons kv_int kvs_nil))) (kvs_cons (kv_tup t34 (Nat.le_of_ble_eq_true rfl) (kvs_cons kv_int (kvs_cons kv_int kvs_nil))) kvs_nil)))))))))
  have FD_window : FunD K "window" "window" (defArgs st_window) (defBody st_window) (defScope st_window) [] [("ends", .ref ad114)] f_window _ := ⟨⟨_, _, _, _, _, _, _, _, _, _, rfl, l_window, c_window, .inl ⟨rfl, rfl⟩, .inr ⟨_, rfl, (kwc dk_window_ends (kv_tup t114 (Nat.le_of_ble_eq_true rfl) (kvs_cons kv_str (kvs_cons kv_str kvs_nil))) kwn)⟩⟩, k_window⟩
  have B_window := bdD_mk FD_window F_window m_window (ps := ["rows", "row", "column", "ends"]) (FD_window.binds0 3 (List.cons_ne_nil _ _) rfl fun D doc pm an cdv ct us ks h1 h2 => match us, ks, h1, h2 with | [_, _, _], [_], _, _ => ⟨_, _, _, _, _, _, rfl, rfl, rfl⟩)
  have KD_window : ∀ H, RepA K H [.ref ad114] dd_window := kvs_rep (kvs_cons (kv_tup t114 (Nat.le_of_ble_eq_true rfl) (kvs_cons kv_str (kvs_cons kv_str kvs_nil))) kvs_nil)
  refine ⟨_, fun s v => .of_eq rfl, fun base _ _ => law_ok (F := F_law) (hm := m_law) (D := all_fd ⟨⟨_, _, F_L_purse, m_L_purse⟩⟩ ⟨⟨_, _, F_L_mixed, m_L_mixed⟩⟩ ⟨⟨_, _, F_L_draw, m_L_draw⟩⟩ ⟨⟨_, _, F_L_map, m_L_map⟩⟩ ⟨⟨_, _, F_L_ends, m_L_ends⟩⟩ ⟨⟨_, _, F_is_count, m_is_count⟩⟩ ⟨⟨_, _, F_is_count_below, m_is_count_below⟩⟩ ⟨⟨_, _, F_is_way, m_is_way⟩⟩ ⟨⟨_, _, F_check_way, m_check_way⟩⟩ ⟨⟨_, _, F_behind, m_behind⟩⟩ ⟨⟨_, _, F_L_quarter, m_L_quarter⟩⟩ ⟨⟨_, _, F_L_by, m_L_by⟩⟩ ⟨⟨_, _, F_L_after, m_L_after⟩⟩ ⟨⟨_, _, F_inverse, m_inverse⟩⟩ ⟨⟨_, _, F_L_ring, m_L_ring⟩⟩ ⟨⟨_, _, F_L_places, m_L_places⟩⟩ ⟨⟨_, _, F_check_number, m_check_number⟩⟩ ⟨⟨_, _, F_place_to, m_place_to⟩⟩ ⟨⟨_, _, F_side_to, m_side_to⟩⟩ ⟨⟨_, _, F_L_ways_right, m_L_ways_right⟩⟩ ⟨⟨_, _, F_is_row, m_is_row⟩⟩ ⟨⟨_, _, F_is_grid, m_is_grid⟩⟩ ⟨⟨_, _, F_check_map, m_check_map⟩⟩ ⟨⟨_, _, F_mirrored, m_mirrored⟩⟩ ⟨⟨_, _, F_turned_once, m_turned_once⟩⟩ ⟨⟨_, _, F_turned_map, m_turned_map⟩⟩ ⟨⟨_, _, F_is_end, m_is_end⟩⟩ ⟨⟨_, _, F_check_ends, m_check_ends⟩⟩ ⟨⟨_, _, F_turned_ends, m_turned_ends⟩⟩ ⟨⟨_, _, F_L_kind, m_L_kind⟩⟩ ⟨⟨_, _, F_L_window, m_L_window⟩⟩ ⟨⟨_, _, F_check_cell, m_check_cell⟩⟩ ⟨⟨_, _, F_line_at, m_line_at⟩⟩ ⟨⟨_, _, F_kind_at, m_kind_at⟩⟩ ⟨⟨_, _, F_kinds_around, m_kinds_around⟩⟩ ⟨⟨_, _, F_window, m_window⟩⟩ ⟨⟨_, _, F_L_right, m_L_right⟩⟩ ⟨⟨_, _, F_law, m_law⟩⟩ (PySem.W.mg_none_of X G zz_all) (PySem.W.mg_none_of X G zz_bool) (PySem.W.mg_none_of X G zz_int) (PySem.W.mg_none_of X G zz_isinstance) (PySem.W.mg_none_of X G zz_len) (PySem.W.mg_none_of X G zz_max) (PySem.W.mg_none_of X G zz_min) (PySem.W.mg_none_of X G zz_range) (PySem.W.mg_none_of X G zz_str) (PySem.W.mg_none_of X G zz_tuple) (PySem.W.mg_none_of X G zz_zip) C_STEPS B_window KD_window x_InvalidNumber x_InvalidWay x_InvalidMap x_InvalidEnds x_InvalidCell ⟨_, a_is_count, m_is_count⟩) fun ns h => law_true ns h⟩
end Sv.pw_cellpictures_k01_ways_and_maps
open PySem PySem.W PyProof.Rows in
set_option maxRecDepth 100000 in
set_option maxHeartbeats 0 in
theorem PySem.Challenge.cw_cellpictures_k01_ways_and_maps_holds : PySem.Challenge.rw_cellpictures_k01_ways_and_maps.Holds := by
  w_on; o_law; k_head; (case hw => w_witness2)
  k_fill
  refine Sv.walk (l := PySem.Challenge.rw_cellpictures_k01_ways_and_maps) (k := 9) rfl rfl ⟨rfl, by decide, by decide⟩ (fun w h Y => PySem.W.kIn_of Y) ?F
  case F =>
    intro w mg fa h KX G hmg
    refine' Sv.pw_cellpictures_k01_ways_and_maps.all_mk KX G hmg ?ca_PictureError ?ca_InvalidNumber ?ca_InvalidWay ?ca_InvalidMap ?ca_InvalidEnds ?ca_InvalidCell ?cl_InvalidNumber ?csa_InvalidNumber ?cga_InvalidNumber ?cgg_InvalidNumber ?cno_InvalidNumber ?cin_InvalidNumber ?cf_InvalidNumber ?ck_InvalidNumber ?ch_InvalidNumber ?ce_InvalidNumber ?ct_InvalidNumber ?ci_InvalidNumber ?cs_InvalidNumber ?cn_InvalidNumber ?cc_InvalidNumber ?cl_InvalidWay ?csa_InvalidWay ?cga_InvalidWay ?cgg_InvalidWay ?cno_InvalidWay ?cin_InvalidWay ?cf_InvalidWay ?ck_InvalidWay ?ch_InvalidWay ?ce_InvalidWay ?ct_InvalidWay ?ci_InvalidWay ?cs_InvalidWay ?cn_InvalidWay ?cc_InvalidWay ?cl_InvalidMap ?csa_InvalidMap ?cga_InvalidMap ?cgg_InvalidMap ?cno_InvalidMap ?cin_InvalidMap ?cf_InvalidMap ?ck_InvalidMap ?ch_InvalidMap ?ce_InvalidMap ?ct_InvalidMap ?ci_InvalidMap ?cs_InvalidMap ?cn_InvalidMap ?cc_InvalidMap ?cl_InvalidEnds ?csa_InvalidEnds ?cga_InvalidEnds ?cgg_InvalidEnds ?cno_InvalidEnds ?cin_InvalidEnds ?cf_InvalidEnds ?ck_InvalidEnds ?ch_InvalidEnds ?ce_InvalidEnds ?ct_InvalidEnds ?ci_InvalidEnds ?cs_InvalidEnds ?cn_InvalidEnds ?cc_InvalidEnds ?cl_InvalidCell ?csa_InvalidCell ?cga_InvalidCell ?cgg_InvalidCell ?cno_InvalidCell ?cin_InvalidCell ?cf_InvalidCell ?ck_InvalidCell ?ch_InvalidCell ?ce_InvalidCell ?ct_InvalidCell ?ci_InvalidCell ?cs_InvalidCell ?cn_InvalidCell ?cc_InvalidCell ?nc_STEPS ?t35 ?t34 ?t31 ?t28 ?t25 ?t22 ?t19 ?t16 ?t13 ?a_L_purse ?l_L_purse ?c_L_purse ?k_L_purse ?a_L_mixed ?l_L_mixed ?c_L_mixed ?k_L_mixed ?a_L_draw ?l_L_draw ?c_L_draw ?k_L_draw ?a_L_map ?l_L_map ?c_L_map ?k_L_map ?a_L_ends ?l_L_ends ?c_L_ends ?k_L_ends ?a_is_count ?l_is_count ?c_is_count ?k_is_count ?a_is_count_below ?l_is_count_below ?c_is_count_below ?k_is_count_below ?a_is_way ?l_is_way ?c_is_way ?k_is_way ?a_check_way ?l_check_way ?c_check_way ?k_check_way ?a_behind ?l_behind ?c_behind ?k_behind ?a_L_quarter ?l_L_quarter ?c_L_quarter ?k_L_quarter ?a_L_by ?l_L_by ?c_L_by ?k_L_by ?a_L_after ?l_L_after ?c_L_after ?k_L_after ?a_inverse ?l_inverse ?c_inverse ?k_inverse ?a_L_ring ?l_L_ring ?c_L_ring ?k_L_ring ?a_L_places ?l_L_places ?c_L_places ?k_L_places ?a_check_number ?l_check_number ?c_check_number ?k_check_number ?a_place_to ?l_place_to ?c_place_to ?k_place_to ?a_side_to ?l_side_to ?c_side_to ?k_side_to ?a_L_ways_right ?l_L_ways_right ?c_L_ways_right ?k_L_ways_right ?a_is_row ?l_is_row ?c_is_row ?k_is_row ?a_is_grid ?l_is_grid ?c_is_grid ?k_is_grid ?a_check_map ?l_check_map ?c_check_map ?k_check_map ?a_mirrored ?l_mirrored ?c_mirrored ?k_mirrored ?a_turned_once ?l_turned_once ?c_turned_once ?k_turned_once ?a_turned_map ?l_turned_map ?c_turned_map ?k_turned_map ?a_is_end ?l_is_end ?c_is_end ?k_is_end ?a_check_ends ?l_check_ends ?c_check_ends ?k_check_ends ?a_turned_ends ?l_turned_ends ?c_turned_ends ?k_turned_ends ?a_L_kind ?l_L_kind ?c_L_kind ?k_L_kind ?a_L_window ?l_L_window ?c_L_window ?k_L_window ?a_check_cell ?l_check_cell ?c_check_cell ?k_check_cell ?a_line_at ?l_line_at ?c_line_at ?k_line_at ?a_kind_at ?l_kind_at ?c_kind_at ?k_kind_at ?a_kinds_around ?l_kinds_around ?c_kinds_around ?k_kinds_around ?a_window ?l_window ?c_window ?k_window ?a_L_right ?l_L_right ?c_L_right ?k_L_right ?a_law ?l_law ?c_law ?k_law ?dk_window_ends ?t114 ?zz_all ?zz_bool ?zz_int ?zz_isinstance ?zz_len ?zz_max ?zz_min ?zz_range ?zz_str ?zz_tuple ?zz_zip
    (case ca_PictureError => k_is)
    (case ca_InvalidNumber => k_is)
    (case ca_InvalidWay => k_is)
    (case ca_InvalidMap => k_is)
    (case ca_InvalidEnds => k_is)
    (case ca_InvalidCell => k_is)
    (case cl_InvalidNumber => k_is)
    (case csa_InvalidNumber => k_is)
    (case cga_InvalidNumber => k_is)
    (case cgg_InvalidNumber => k_is)
    (case cno_InvalidNumber => k_is)
    (case cin_InvalidNumber => k_is)
    (case cf_InvalidNumber => k_is)
    (case ck_InvalidNumber => k_is)
    (case ch_InvalidNumber => k_is)
    (case ce_InvalidNumber => k_is)
    (case ct_InvalidNumber => k_is)
    (case ci_InvalidNumber => k_is)
    (case cs_InvalidNumber => k_is)
    (case cn_InvalidNumber => k_is)
    (case cc_InvalidNumber => k_is)
    (case cl_InvalidWay => k_is)
    (case csa_InvalidWay => k_is)
    (case cga_InvalidWay => k_is)
    (case cgg_InvalidWay => k_is)
    (case cno_InvalidWay => k_is)
    (case cin_InvalidWay => k_is)
    (case cf_InvalidWay => k_is)
    (case ck_InvalidWay => k_is)
    (case ch_InvalidWay => k_is)
    (case ce_InvalidWay => k_is)
    (case ct_InvalidWay => k_is)
    (case ci_InvalidWay => k_is)
    (case cs_InvalidWay => k_is)
    (case cn_InvalidWay => k_is)
    (case cc_InvalidWay => k_is)
    (case cl_InvalidMap => k_is)
    (case csa_InvalidMap => k_is)
    (case cga_InvalidMap => k_is)
    (case cgg_InvalidMap => k_is)
    (case cno_InvalidMap => k_is)
    (case cin_InvalidMap => k_is)
    (case cf_InvalidMap => k_is)
    (case ck_InvalidMap => k_is)
    (case ch_InvalidMap => k_is)
    (case ce_InvalidMap => k_is)
    (case ct_InvalidMap => k_is)
    (case ci_InvalidMap => k_is)
    (case cs_InvalidMap => k_is)
    (case cn_InvalidMap => k_is)
    (case cc_InvalidMap => k_is)
    (case cl_InvalidEnds => k_is)
    (case csa_InvalidEnds => k_is)
    (case cga_InvalidEnds => k_is)
    (case cgg_InvalidEnds => k_is)
    (case cno_InvalidEnds => k_is)
    (case cin_InvalidEnds => k_is)
    (case cf_InvalidEnds => k_is)
    (case ck_InvalidEnds => k_is)
    (case ch_InvalidEnds => k_is)
    (case ce_InvalidEnds => k_is)
    (case ct_InvalidEnds => k_is)
    (case ci_InvalidEnds => k_is)
    (case cs_InvalidEnds => k_is)
    (case cn_InvalidEnds => k_is)
    (case cc_InvalidEnds => k_is)
    (case cl_InvalidCell => k_is)
    (case csa_InvalidCell => k_is)
    (case cga_InvalidCell => k_is)
    (case cgg_InvalidCell => k_is)
    (case cno_InvalidCell => k_is)
    (case cin_InvalidCell => k_is)
    (case cf_InvalidCell => k_is)
    (case ck_InvalidCell => k_is)
    (case ch_InvalidCell => k_is)
    (case ce_InvalidCell => k_is)
    (case ct_InvalidCell => k_is)
    (case ci_InvalidCell => k_is)
    (case cs_InvalidCell => k_is)
    (case cn_InvalidCell => k_is)
    (case cc_InvalidCell => k_is)
    (case nc_STEPS => k_is)
    (case t35 => k_is)
    (case t34 => k_is)
    (case t31 => k_is)
    (case t28 => k_is)
    (case t25 => k_is)
    (case t22 => k_is)
    (case t19 => k_is)
    (case t16 => k_is)
    (case t13 => k_is)
    (case a_L_purse => k_is)
    (case l_L_purse => k_is)
    (case c_L_purse => k_is)
    (case k_L_purse => k_is)
    (case a_L_mixed => k_is)
    (case l_L_mixed => k_is)
    (case c_L_mixed => k_is)
    (case k_L_mixed => k_is)
    (case a_L_draw => k_is)
    (case l_L_draw => k_is)
    (case c_L_draw => k_is)
    (case k_L_draw => k_is)
    (case a_L_map => k_is)
    (case l_L_map => k_is)
    (case c_L_map => k_is)
    (case k_L_map => k_is)
    (case a_L_ends => k_is)
    (case l_L_ends => k_is)
    (case c_L_ends => k_is)
    (case k_L_ends => k_is)
    (case a_is_count => k_is)
    (case l_is_count => k_is)
    (case c_is_count => k_is)
    (case k_is_count => k_is)
    (case a_is_count_below => k_is)
    (case l_is_count_below => k_is)
    (case c_is_count_below => k_is)
    (case k_is_count_below => k_is)
    (case a_is_way => k_is)
    (case l_is_way => k_is)
    (case c_is_way => k_is)
    (case k_is_way => k_is)
    (case a_check_way => k_is)
    (case l_check_way => k_is)
    (case c_check_way => k_is)
    (case k_check_way => k_is)
    (case a_behind => k_is)
    (case l_behind => k_is)
    (case c_behind => k_is)
    (case k_behind => k_is)
    (case a_L_quarter => k_is)
    (case l_L_quarter => k_is)
    (case c_L_quarter => k_is)
    (case k_L_quarter => k_is)
    (case a_L_by => k_is)
    (case l_L_by => k_is)
    (case c_L_by => k_is)
    (case k_L_by => k_is)
    (case a_L_after => k_is)
    (case l_L_after => k_is)
    (case c_L_after => k_is)
    (case k_L_after => k_is)
    (case a_inverse => k_is)
    (case l_inverse => k_is)
    (case c_inverse => k_is)
    (case k_inverse => k_is)
    (case a_L_ring => k_is)
    (case l_L_ring => k_is)
    (case c_L_ring => k_is)
    (case k_L_ring => k_is)
    (case a_L_places => k_is)
    (case l_L_places => k_is)
    (case c_L_places => k_is)
    (case k_L_places => k_is)
    (case a_check_number => k_is)
    (case l_check_number => k_is)
    (case c_check_number => k_is)
    (case k_check_number => k_is)
    (case a_place_to => k_is)
    (case l_place_to => k_is)
    (case c_place_to => k_is)
    (case k_place_to => k_is)
    (case a_side_to => k_is)
    (case l_side_to => k_is)
    (case c_side_to => k_is)
    (case k_side_to => k_is)
    (case a_L_ways_right => k_is)
    (case l_L_ways_right => k_is)
    (case c_L_ways_right => k_is)
    (case k_L_ways_right => k_is)
    (case a_is_row => k_is)
    (case l_is_row => k_is)
    (case c_is_row => k_is)
    (case k_is_row => k_is)
    (case a_is_grid => k_is)
    (case l_is_grid => k_is)
    (case c_is_grid => k_is)
    (case k_is_grid => k_is)
    (case a_check_map => k_is)
    (case l_check_map => k_is)
    (case c_check_map => k_is)
    (case k_check_map => k_is)
    (case a_mirrored => k_is)
    (case l_mirrored => k_is)
    (case c_mirrored => k_is)
    (case k_mirrored => k_is)
    (case a_turned_once => k_is)
    (case l_turned_once => k_is)
    (case c_turned_once => k_is)
    (case k_turned_once => k_is)
    (case a_turned_map => k_is)
    (case l_turned_map => k_is)
    (case c_turned_map => k_is)
    (case k_turned_map => k_is)
    (case a_is_end => k_is)
    (case l_is_end => k_is)
    (case c_is_end => k_is)
    (case k_is_end => k_is)
    (case a_check_ends => k_is)
    (case l_check_ends => k_is)
    (case c_check_ends => k_is)
    (case k_check_ends => k_is)
    (case a_turned_ends => k_is)
    (case l_turned_ends => k_is)
    (case c_turned_ends => k_is)
    (case k_turned_ends => k_is)
    (case a_L_kind => k_is)
    (case l_L_kind => k_is)
    (case c_L_kind => k_is)
    (case k_L_kind => k_is)
    (case a_L_window => k_is)
    (case l_L_window => k_is)
    (case c_L_window => k_is)
    (case k_L_window => k_is)
    (case a_check_cell => k_is)
    (case l_check_cell => k_is)
    (case c_check_cell => k_is)
    (case k_check_cell => k_is)
    (case a_line_at => k_is)
    (case l_line_at => k_is)
    (case c_line_at => k_is)
    (case k_line_at => k_is)
    (case a_kind_at => k_is)
    (case l_kind_at => k_is)
    (case c_kind_at => k_is)
    (case k_kind_at => k_is)
    (case a_kinds_around => k_is)
    (case l_kinds_around => k_is)
    (case c_kinds_around => k_is)
    (case k_kinds_around => k_is)
    (case a_window => k_is)
    (case l_window => k_is)
    (case c_window => k_is)
    (case k_window => k_is)
    (case a_L_right => k_is)
    (case l_L_right => k_is)
    (case c_L_right => k_is)
    (case k_L_right => k_is)
    (case a_law => k_is)
    (case l_law => k_is)
    (case c_law => k_is)
    (case k_law => k_is)
    (case dk_window_ends => k_is)
    (case t114 => k_is)
    (case zz_all => k_is)
    (case zz_bool => k_is)
    (case zz_int => k_is)
    (case zz_isinstance => k_is)
    (case zz_len => k_is)
    (case zz_max => k_is)
    (case zz_min => k_is)
    (case zz_range => k_is)
    (case zz_str => k_is)
    (case zz_tuple => k_is)
    (case zz_zip => k_is)

